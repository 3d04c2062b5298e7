import PyProof.Rows.All
import Wide.All
import OpenK.AllK
import Wide.FinOn
import Lean
import PyProof.EqAt
import PyProof.EqKinds
import PyProof.TupleCall
import PyProof.Draws
import PyProof.EnumMake
import PyProof.NeKinds
import PyProof.ZipIter
import PyProof.Rows.ZipGen
import PyProof.ReprRoads
import KE.KRevIter
import PyProof.StrLawsReplace
import PyProof.ToksMono
import PySem.Challenge.RW_sealpress_k45_whole_one_shape
set_option Elab.async false
set_option linter.all false
set_option maxRecDepth 100000
/-! THE HAND LAYER, for ints, bools, texts, own classes, LISTS and tuples (index, slices, in, append, pop ..), calls, loops. Paste it whole ahead of your own text; what your proof does not reach may be deleted. -/

set_option Elab.async false
set_option linter.all false
set_option maxRecDepth 100000
set_option maxHeartbeats 0
namespace L2
open PySem PySem.W
theorem left_run {p q : Program} {loose : List Str} {Xt : Shared → Bool} {α : Type} {Yf : Shared → α} {Ya : World → α} {N M m0 : Nat} {ann : Option Value} {H0 : Params → Heap} {g0 : Array GenState} {d0 : Drawn} {k0 : Nat}
    (hb : ∀ w : World, (fencedOpening treeTable p w N).map (fun s => (s.heap, s.gens, s.drawn, s.toks)) = some (H0 w.params, g0, d0, k0))
    (hz : ∀ w : World, ((H0 w.params).isNs mainGlobals && g0.size == 0, (H0 w.params).objs.size, (H0 w.params).nsMap mainGlobals "__annotations__") = (true, m0, ann))
    (hr : ∀ (w : World) (os : OsState), ∃ s : Shared, topRun treeTable p w m0 ann M ⟨H0 w.params, g0, d0, k0, os⟩ (topStub p) = some s ∧
      (staticsOk (importedModules p.main.body) (H0 w.params) s.heap && namesBound p s.heap && gensDone s && laidKept (H0 w.params) s.heap) = true ∧ openSeen q loose (importedModules p.main.body) Xt true s = openGood q loose ∧ Yf s = Ya w)
    (hn : M ≤ N) : LeftO p q loose Xt Yf Ya N := fun w => by
  obtain ⟨s0, e, e'⟩ := Option.map_eq_some_iff.mp (hb w)
  obtain ⟨h, gs, d, k, os⟩ := s0
  simp only [Prod.mk.injEq] at e'
  obtain ⟨rfl, rfl, rfl, rfl⟩ := e'
  obtain ⟨s, r, l1, l2, l3⟩ := hr w os
  have z := hz w
  simp only [Prod.mk.injEq] at z
  obtain ⟨z1, z2, z3⟩ := z
  obtain ⟨x, rfl⟩ := Nat.exists_eq_add_of_le hn
  have r' := topRun_mono x _ _ _ _ r
  have t : topFrom treeTable p w (M + x) ⟨H0 w.params, gs, d, k, os⟩ = some s := by
    unfold topFrom
    simp only [z1, z2, z3, r', Option.bind_some, l1]
  unfold openEnds
  rw [e, Option.bind_some, t, Option.map_some, l2, l3]
end L2
/-! the top of the program, run in one go -/
namespace My
open PySem PySem.W
abbrev pw : Program := PySem.Challenge.pw_sealpress_k45_whole_one_shape
noncomputable def tp (i : Nat) : Stmt := pw.main.body.getD i (.Pass ⟨0, 0, 0, 0⟩)
noncomputable def tc (i j : Nat) : Stmt := match tp i with
  | .ClassDef _ _ _ body _ _ _ _ _ _ _ => body.getD j (.Pass ⟨0, 0, 0, 0⟩)
  | _ => .Pass ⟨0, 0, 0, 0⟩
noncomputable def fnO (s : Stmt) (nm q : Str) (g : Addr) (cl : List (Str × Addr)) (df kd dc pm : Value) (an : Option Addr) (cd ct : Value) (bl : Addr) : Data := match s with
  | .FunctionDef _ a b _ _ _ sc _ _ _ => .func ⟨nm, q, a, .stmts b, sc, g, cl, df, kd, dc, pm, an, cd, ct, bl⟩
  | _ => .plain
noncomputable def en (P : Params) (k : Str) (t : Nat) (v : Value) : DictEntry := ⟨PyData.keyHash P k, .str k t, v⟩
noncomputable def o11 (_ : Params) : Obj := { cls := .type "tuple", data := .seq #[] }
noncomputable def o12 (_ : Params) : Obj := { cls := .none, data := .fields #[] }
noncomputable def o13 (_ : Params) : Obj := { cls := .type "code", data := .fields #[.str "<module>" 182, .str "<module>" 183, .str "/claim/cut.py" 184, .int 1 0, .int 0 0, .int 0 0, .int 0 0, .int 0 0, .ref 11, .bool false, .int 181 0, .ref 12, .none, .none, .none, .none, .int 185 0, .int 1 0, .str "/claim/cut.py" 186] }
noncomputable def o14 (_ : Params) : Obj := { cls := .type "frame", slots := #[some (.ref 13), some (.ref 3), some (.ref 3), none, some (.str "__main__" 164), none, some (.ref 0)] }
noncomputable def x0 (P : Params) : Obj := ⟨(.type "dict"),none,(.dict #[(en P "__name__" 165 (.str "sealpress.modes" 387)),(en P "__doc__" 166 .none),(en P "__package__" 167 .none),(en P "__loader__" 168 (.builtin "__main__.__loader__#opaque")),(en P "__spec__" 169 .none),(en P "__annotations__" 170 (.ref 6)),(en P "__builtins__" 171 (.ref 4)),(en P "__file__" 173 (.str "/claim/cut.py" 172)),(en P "__cached__" 174 .none),(en P "SealError" 206 (.ref 24)),(en P "NoSign" 231 (.ref 44)),(en P "Unread" 256 (.ref 63)),(en P "SIGNS" 260 (.str " !\"#$&'()*+,-./0123456789:;<=>?@ABCDEFGHIJKLMNOPQRSTUVWXYZ[\\]^_`abcdefghijklmnopqrstuvwxyz{|}~" 259)),(en P "FIGURES" 262 (.str "0123456789" 261)),(en P "LETTERS" 264 (.str "abcdefghijklmnopqrstuvwxyz" 263)),(en P "LONGEST_NAME" 266 (.int 8 265)),(en P "number_of" 273 (.ref 72)),(en P "sign_of" 280 (.ref 79)),(en P "figures_of" 287 (.ref 86)),(en P "sign_told" 295 (.ref 93)),(en P "need_text" 304 (.ref 100)),(en P "mark_of" 313 (.ref 107)),(en P "marked" 319 (.ref 112)),(en P "stroked" 327 (.ref 117)),(en P "WORDSIGNS" 331 (.str "abcdefghijklmnopqrstuvwxyz0123456789-" 330)),(en P "code_of" 338 (.ref 124)),(en P "worded" 344 (.ref 129)),(en P "put" 355 (.ref 136)),(en P "fed_between" 364 (.ref 143)),(en P "fed_word" 371 (.ref 150)),(en P "fed_said" 378 (.ref 157)),(en P "feed" 386 (.ref 164)),(en P "ASIS_END" 390 (.str "</asis>" 389)),(en P "MARK_FIGURES" 392 (.int 2 391)),(en P "come_to" 401 (.ref 171)),(en P "told" 410 (.ref 178)),(en P "gathered" 421 (.ref 185)),(en P "box_shut" 429 (.ref 192)),(en P "into_box" 438 (.ref 199)),(en P "led_on" 447 (.ref 206)),(en P "fed" 457 (.ref 213)),(en P "mark_ended" 465 (.ref 220)),(en P "at_text" 475 (.ref 227)),(en P "at_mark" 485 (.ref 234)),(en P "at_open" 495 (.ref 241)),(en P "at_name" 505 (.ref 248)),(en P "at_slash" 515 (.ref 255)),(en P "at_shut" 525 (.ref 262)),(en P "at_gap" 535 (.ref 269)),(en P "at_attr" 545 (.ref 276)),(en P "at_is" 555 (.ref 283)),(en P "at_bang" 565 (.ref 290)),(en P "at_bare" 575 (.ref 297)),(en P "at_code" 585 (.ref 304)),(en P "at_row" 595 (.ref 311)),(en P "at_stroke" 605 (.ref 318)),(en P "at_quoted" 615 (.ref 325)),(en P "at_qmark" 625 (.ref 332)),(en P "at_done" 635 (.ref 339)),(en P "at_talk" 645 (.ref 346)),(en P "at_tmark" 655 (.ref 353)),(en P "at_asis" 661 (.ref 358))] 62),#[]⟩
noncomputable def x1 (_ : Params) : Obj := ⟨.none,none,(.fields #[(.int 2 0),(.int 0 0),(.ref 20),(.int 4 0),(.int 0 0),(.ref 33),(.int 9 0),(.int 0 0),(.ref 52),(.int 19 0),(.int 0 0),(.ref 71),(.int 21 0),(.int 0 0),(.ref 78),(.int 23 0),(.int 0 0),(.ref 85),(.int 25 0),(.int 0 0),(.ref 92),(.int 30 0),(.int 0 0),(.ref 99),(.int 38 0),(.int 0 0),(.ref 106),(.int 40 0),(.int 0 0),(.ref 111),(.int 43 0),(.int 0 0),(.ref 116),(.int 47 0),(.int 0 0),(.ref 123),(.int 49 0),(.int 0 0),(.ref 128),(.int 52 0),(.int 0 0),(.ref 135),(.int 64 0),(.int 0 0),(.ref 142),(.int 72 0),(.int 0 0),(.ref 149),(.int 76 0),(.int 0 0),(.ref 156),(.int 82 0),(.int 0 0),(.ref 163),(.int 95 0),(.int 0 0),(.ref 170),(.int 97 0),(.int 0 0),(.ref 177),(.int 101 0),(.int 0 0),(.ref 184),(.int 105 0),(.int 0 0),(.ref 191),(.int 109 0),(.int 0 0),(.ref 198),(.int 114 0),(.int 0 0),(.ref 205),(.int 122 0),(.int 0 0),(.ref 212),(.int 127 0),(.int 0 0),(.ref 219),(.int 129 0),(.int 0 0),(.ref 226),(.int 135 0),(.int 0 0),(.ref 233),(.int 139 0),(.int 0 0),(.ref 240),(.int 145 0),(.int 0 0),(.ref 247),(.int 149 0),(.int 0 0),(.ref 254),(.int 153 0),(.int 0 0),(.ref 261),(.int 159 0),(.int 0 0),(.ref 268),(.int 163 0),(.int 0 0),(.ref 275),(.int 175 0),(.int 0 0),(.ref 282),(.int 179 0),(.int 0 0),(.ref 289),(.int 183 0),(.int 0 0),(.ref 296),(.int 189 0),(.int 0 0),(.ref 303),(.int 193 0),(.int 0 0),(.ref 310),(.int 201 0),(.int 0 0),(.ref 317),(.int 203 0),(.int 0 0),(.ref 324),(.int 209 0),(.int 0 0),(.ref 331),(.int 213 0),(.int 0 0),(.ref 338),(.int 215 0),(.int 0 0),(.ref 345),(.int 221 0),(.int 0 0),(.ref 352),(.int 225 0),(.int 0 0),(.ref 357)]),#[]⟩
noncomputable def x2 (_ : Params) : Obj := ⟨(.type "tuple"),none,(.seq #[(.type "ValueError")] 0),#[]⟩
noncomputable def x3 (_ : Params) : Obj := ⟨(.type "builtin_function_or_method"),none,(.fields #[(.builtin "type.__prepare__"),(.type "type")]),#[]⟩
noncomputable def x4 (P : Params) : Obj := ⟨(.type "dict"),none,(.dict #[(en P "__module__" 196 (.str "sealpress.errors" 187)),(en P "__qualname__" 198 (.str "SealError" 197)),(en P "__firstlineno__" 200 (.int 2 199)),(en P "__static_attributes__" 201 (.ref 22))] 4),#[]⟩
noncomputable def x5 (_ : Params) : Obj := ⟨(.type "tuple"),none,(.seq #[] 0),#[]⟩
noncomputable def x6 (_ : Params) : Obj := ⟨.none,none,(.fields #[]),#[]⟩
noncomputable def x7 (_ : Params) : Obj := ⟨(.type "code"),none,(.fields #[(.str "SealError" 191),(.str "SealError" 192),(.str "/claim/cut.py" 193),(.int 2 0),(.int 0 0),(.int 0 0),(.int 0 0),(.int 0 0),(.ref 18),(.bool false),(.int 181 0),(.ref 19),.none,.none,.none,.none,(.int 194 0),(.int 2 0),(.str "/claim/cut.py" 195)]),#[]⟩
noncomputable def x8 (_ : Params) : Obj := ⟨(.type "frame"),none,.plain,#[(some (.ref 20)),(some (.ref 3)),(some (.ref 17)),none,(some (.str "sealpress.errors" 187)),none,(some (.ref 0))]⟩
noncomputable def x9 (P : Params) : Obj := ⟨(.type "dict"),none,(.dict #[(en P "__module__" 196 (.str "sealpress.errors" 187)),(en P "__firstlineno__" 200 (.int 2 199)),(en P "__static_attributes__" 201 (.ref 22)),(en P "__weakref__" 203 (.ref 25)),(en P "__doc__" 204 .none)] 3),#[]⟩
noncomputable def x10 (_ : Params) : Obj := ⟨(.type "type"),none,(.cls ⟨"SealError",[(.type "ValueError")],[(.ref 24),(.type "ValueError"),(.type "Exception"),(.type "BaseException"),(.type "object")],23,"SealError",true,[],[(.ref 44),(.ref 63)],false,none,false⟩),#[(some (.ref 15)),none,(some (.str "SealError" 189)),(some (.str "SealError" 197)),(some (.builtin "ValueError.__new__")),(some (.bool true))]⟩
noncomputable def x11 (_ : Params) : Obj := ⟨(.type "getset_descriptor"),none,(.fields #[(.str "__weakref__" 202),(.ref 24),(.builtin "ExceptionGroup.__weakref__"),.none]),#[]⟩
noncomputable def x12 (_ : Params) : Obj := ⟨(.type "super"),none,(.fields #[(.ref 24),(.ref 24),(.ref 24)]),#[]⟩
noncomputable def x13 (_ : Params) : Obj := ⟨(.type "builtin_function_or_method"),none,(.fields #[(.builtin "object.__init_subclass__"),(.ref 24)]),#[]⟩
noncomputable def x14 (_ : Params) : Obj := ⟨(.type "tuple"),none,(.seq #[(.ref 24)] 0),#[]⟩
noncomputable def x15 (P : Params) : Obj := ⟨(.type "dict"),none,(.dict #[(en P "__module__" 214 (.str "sealpress.errors" 187)),(en P "__qualname__" 216 (.str "NoSign" 215)),(en P "__firstlineno__" 218 (.int 4 217)),(en P "__init__" 226 (.ref 41)),(en P "__static_attributes__" 228 (.ref 42))] 5),#[]⟩
noncomputable def x16 (_ : Params) : Obj := ⟨.none,none,(.fields #[(.int 6 0),(.int 4 0),(.ref 40)]),#[]⟩
noncomputable def x17 (_ : Params) : Obj := ⟨(.type "code"),none,(.fields #[(.str "NoSign" 209),(.str "NoSign" 210),(.str "/claim/cut.py" 211),(.int 4 0),(.int 0 0),(.int 0 0),(.int 0 0),(.int 0 0),(.ref 31),(.bool false),(.int 181 0),(.ref 32),.none,.none,.none,.none,(.int 212 0),(.int 4 0),(.str "/claim/cut.py" 213)]),#[]⟩
noncomputable def x18 (_ : Params) : Obj := ⟨(.type "frame"),none,.plain,#[(some (.ref 33)),(some (.ref 3)),(some (.ref 30)),none,(some (.str "sealpress.errors" 187)),none,(some (.ref 0))]⟩
noncomputable def x19 (_ : Params) : Obj := ⟨(.type "tuple"),none,(.seq #[(.str "self" 222),(.str "at" 223)] 0),#[]⟩
noncomputable def x20 (_ : Params) : Obj := ⟨.none,none,(fnO (tc 2 0) "__init__" "NoSign.__init__" 0 [] .none .none .none .none none .none .none 0),#[]⟩
noncomputable def x21 (_ : Params) : Obj := ⟨(.type "code"),none,(.fields #[(.str "__init__" 219),(.str "NoSign.__init__" 220),(.str "/claim/cut.py" 221),(.int 6 0),(.int 2 0),(.int 0 0),(.int 0 0),(.int 3 0),(.ref 35),(.bool true),(.int 181 0),(.ref 36),.none,(.ref 37),(.ref 38),(.ref 39),(.int 224 0),(.int 6 0),(.str "/claim/cut.py" 225)]),#[]⟩
noncomputable def x22 (_ : Params) : Obj := ⟨(.type "function"),none,(fnO (tc 2 0) "__init__" "NoSign.__init__" 3 [] .none .none .none (.str "sealpress.errors" 187) none (.ref 40) .none 0),#[]⟩
noncomputable def x23 (_ : Params) : Obj := ⟨(.type "tuple"),none,(.seq #[(.str "at" 227)] 0),#[]⟩
noncomputable def x24 (P : Params) : Obj := ⟨(.type "dict"),none,(.dict #[(en P "__module__" 214 (.str "sealpress.errors" 187)),(en P "__firstlineno__" 218 (.int 4 217)),(en P "__init__" 226 (.ref 41)),(en P "__static_attributes__" 228 (.ref 42)),(en P "__doc__" 229 .none)] 2),#[]⟩
noncomputable def x25 (_ : Params) : Obj := ⟨(.type "type"),none,(.cls ⟨"NoSign",[(.ref 24)],[(.ref 44),(.ref 24),(.type "ValueError"),(.type "Exception"),(.type "BaseException"),(.type "object")],43,"NoSign",true,[],[],false,none,false⟩),#[(some (.ref 28)),none,(some (.str "NoSign" 207)),(some (.str "NoSign" 215)),(some (.builtin "ValueError.__new__")),(some (.bool true))]⟩
noncomputable def x26 (_ : Params) : Obj := ⟨(.type "super"),none,(.fields #[(.ref 44),(.ref 44),(.ref 44)]),#[]⟩
noncomputable def x27 (_ : Params) : Obj := ⟨(.type "builtin_function_or_method"),none,(.fields #[(.builtin "object.__init_subclass__"),(.ref 44)]),#[]⟩
noncomputable def x28 (P : Params) : Obj := ⟨(.type "dict"),none,(.dict #[(en P "__module__" 239 (.str "sealpress.errors" 187)),(en P "__qualname__" 241 (.str "Unread" 240)),(en P "__firstlineno__" 243 (.int 9 242)),(en P "__init__" 251 (.ref 60)),(en P "__static_attributes__" 253 (.ref 61))] 5),#[]⟩
noncomputable def x29 (_ : Params) : Obj := ⟨.none,none,(.fields #[(.int 11 0),(.int 4 0),(.ref 59)]),#[]⟩
noncomputable def x30 (_ : Params) : Obj := ⟨(.type "code"),none,(.fields #[(.str "Unread" 234),(.str "Unread" 235),(.str "/claim/cut.py" 236),(.int 9 0),(.int 0 0),(.int 0 0),(.int 0 0),(.int 0 0),(.ref 50),(.bool false),(.int 181 0),(.ref 51),.none,.none,.none,.none,(.int 237 0),(.int 9 0),(.str "/claim/cut.py" 238)]),#[]⟩
noncomputable def x31 (_ : Params) : Obj := ⟨(.type "frame"),none,.plain,#[(some (.ref 52)),(some (.ref 3)),(some (.ref 49)),none,(some (.str "sealpress.errors" 187)),none,(some (.ref 0))]⟩
noncomputable def x32 (_ : Params) : Obj := ⟨(.type "tuple"),none,(.seq #[(.str "self" 247),(.str "at" 248)] 0),#[]⟩
noncomputable def x33 (_ : Params) : Obj := ⟨.none,none,(fnO (tc 3 0) "__init__" "Unread.__init__" 0 [] .none .none .none .none none .none .none 0),#[]⟩
noncomputable def x34 (_ : Params) : Obj := ⟨(.type "code"),none,(.fields #[(.str "__init__" 244),(.str "Unread.__init__" 245),(.str "/claim/cut.py" 246),(.int 11 0),(.int 2 0),(.int 0 0),(.int 0 0),(.int 3 0),(.ref 54),(.bool true),(.int 181 0),(.ref 55),.none,(.ref 56),(.ref 57),(.ref 58),(.int 249 0),(.int 11 0),(.str "/claim/cut.py" 250)]),#[]⟩
noncomputable def x35 (_ : Params) : Obj := ⟨(.type "function"),none,(fnO (tc 3 0) "__init__" "Unread.__init__" 3 [] .none .none .none (.str "sealpress.errors" 187) none (.ref 59) .none 0),#[]⟩
noncomputable def x36 (_ : Params) : Obj := ⟨(.type "tuple"),none,(.seq #[(.str "at" 252)] 0),#[]⟩
noncomputable def x37 (P : Params) : Obj := ⟨(.type "dict"),none,(.dict #[(en P "__module__" 239 (.str "sealpress.errors" 187)),(en P "__firstlineno__" 243 (.int 9 242)),(en P "__init__" 251 (.ref 60)),(en P "__static_attributes__" 253 (.ref 61)),(en P "__doc__" 254 .none)] 2),#[]⟩
noncomputable def x38 (_ : Params) : Obj := ⟨(.type "type"),none,(.cls ⟨"Unread",[(.ref 24)],[(.ref 63),(.ref 24),(.type "ValueError"),(.type "Exception"),(.type "BaseException"),(.type "object")],62,"Unread",true,[],[],false,none,false⟩),#[(some (.ref 47)),none,(some (.str "Unread" 232)),(some (.str "Unread" 240)),(some (.builtin "ValueError.__new__")),(some (.bool true))]⟩
noncomputable def x39 (_ : Params) : Obj := ⟨(.type "super"),none,(.fields #[(.ref 63),(.ref 63),(.ref 63)]),#[]⟩
noncomputable def x40 (_ : Params) : Obj := ⟨(.type "builtin_function_or_method"),none,(.fields #[(.builtin "object.__init_subclass__"),(.ref 63)]),#[]⟩
noncomputable def x41 (_ : Params) : Obj := ⟨(.type "tuple"),none,(.seq #[(.str "sign" 270)] 0),#[]⟩
noncomputable def x42 (_ : Params) : Obj := ⟨.none,none,(fnO (tp 9) "number_of" "number_of" 0 [] .none .none .none .none none .none .none 0),#[]⟩
noncomputable def x43 (_ : Params) : Obj := ⟨(.type "code"),none,(.fields #[(.str "number_of" 267),(.str "number_of" 268),(.str "/claim/cut.py" 269),(.int 19 0),(.int 1 0),(.int 0 0),(.int 0 0),(.int 3 0),(.ref 66),(.bool true),(.int 181 0),(.ref 67),.none,(.ref 68),(.ref 69),(.ref 70),(.int 271 0),(.int 19 0),(.str "/claim/cut.py" 272)]),#[]⟩
noncomputable def x44 (_ : Params) : Obj := ⟨(.type "function"),none,(fnO (tp 9) "number_of" "number_of" 3 [] .none .none .none (.str "sealpress.signs" 257) none (.ref 71) .none 0),#[]⟩
noncomputable def x45 (_ : Params) : Obj := ⟨(.type "tuple"),none,(.seq #[(.str "number" 277)] 0),#[]⟩
noncomputable def x46 (_ : Params) : Obj := ⟨.none,none,(fnO (tp 10) "sign_of" "sign_of" 0 [] .none .none .none .none none .none .none 0),#[]⟩
noncomputable def x47 (_ : Params) : Obj := ⟨(.type "code"),none,(.fields #[(.str "sign_of" 274),(.str "sign_of" 275),(.str "/claim/cut.py" 276),(.int 21 0),(.int 1 0),(.int 0 0),(.int 0 0),(.int 3 0),(.ref 73),(.bool true),(.int 181 0),(.ref 74),.none,(.ref 75),(.ref 76),(.ref 77),(.int 278 0),(.int 21 0),(.str "/claim/cut.py" 279)]),#[]⟩
noncomputable def x48 (_ : Params) : Obj := ⟨(.type "function"),none,(fnO (tp 10) "sign_of" "sign_of" 3 [] .none .none .none (.str "sealpress.signs" 257) none (.ref 78) .none 0),#[]⟩
noncomputable def x49 (_ : Params) : Obj := ⟨(.type "tuple"),none,(.seq #[(.str "number" 284)] 0),#[]⟩
noncomputable def x50 (_ : Params) : Obj := ⟨.none,none,(fnO (tp 11) "figures_of" "figures_of" 0 [] .none .none .none .none none .none .none 0),#[]⟩
noncomputable def x51 (_ : Params) : Obj := ⟨(.type "code"),none,(.fields #[(.str "figures_of" 281),(.str "figures_of" 282),(.str "/claim/cut.py" 283),(.int 23 0),(.int 1 0),(.int 0 0),(.int 0 0),(.int 3 0),(.ref 80),(.bool true),(.int 181 0),(.ref 81),.none,(.ref 82),(.ref 83),(.ref 84),(.int 285 0),(.int 23 0),(.str "/claim/cut.py" 286)]),#[]⟩
noncomputable def x52 (_ : Params) : Obj := ⟨(.type "function"),none,(fnO (tp 11) "figures_of" "figures_of" 3 [] .none .none .none (.str "sealpress.signs" 257) none (.ref 85) .none 0),#[]⟩
noncomputable def x53 (_ : Params) : Obj := ⟨(.type "tuple"),none,(.seq #[(.str "figures" 291),(.str "number" 292)] 0),#[]⟩
noncomputable def x54 (_ : Params) : Obj := ⟨.none,none,(fnO (tp 12) "sign_told" "sign_told" 0 [] .none .none .none .none none .none .none 0),#[]⟩
noncomputable def x55 (_ : Params) : Obj := ⟨(.type "code"),none,(.fields #[(.str "sign_told" 288),(.str "sign_told" 289),(.str "/claim/cut.py" 290),(.int 25 0),(.int 1 0),(.int 0 0),(.int 0 0),(.int 3 0),(.ref 87),(.bool true),(.int 181 0),(.ref 88),.none,(.ref 89),(.ref 90),(.ref 91),(.int 293 0),(.int 25 0),(.str "/claim/cut.py" 294)]),#[]⟩
noncomputable def x56 (_ : Params) : Obj := ⟨(.type "function"),none,(fnO (tp 12) "sign_told" "sign_told" 3 [] .none .none .none (.str "sealpress.signs" 257) none (.ref 92) .none 0),#[]⟩
noncomputable def x57 (_ : Params) : Obj := ⟨(.type "tuple"),none,(.seq #[(.str "thing" 299),(.str "at" 300),(.str "sign" 301)] 0),#[]⟩
noncomputable def x58 (_ : Params) : Obj := ⟨.none,none,(fnO (tp 13) "need_text" "need_text" 0 [] .none .none .none .none none .none .none 0),#[]⟩
noncomputable def x59 (_ : Params) : Obj := ⟨(.type "code"),none,(.fields #[(.str "need_text" 296),(.str "need_text" 297),(.str "/claim/cut.py" 298),(.int 30 0),(.int 1 0),(.int 0 0),(.int 0 0),(.int 3 0),(.ref 94),(.bool true),(.int 181 0),(.ref 95),.none,(.ref 96),(.ref 97),(.ref 98),(.int 302 0),(.int 30 0),(.str "/claim/cut.py" 303)]),#[]⟩
noncomputable def x60 (_ : Params) : Obj := ⟨(.type "function"),none,(fnO (tp 13) "need_text" "need_text" 3 [] .none .none .none (.str "sealpress.signs" 257) none (.ref 99) .none 0),#[]⟩
noncomputable def x61 (_ : Params) : Obj := ⟨(.type "tuple"),none,(.seq #[(.str "sign" 310)] 0),#[]⟩
noncomputable def x62 (_ : Params) : Obj := ⟨.none,none,(fnO (tp 15) "mark_of" "mark_of" 0 [] .none .none .none .none none .none .none 0),#[]⟩
noncomputable def x63 (_ : Params) : Obj := ⟨(.type "code"),none,(.fields #[(.str "mark_of" 307),(.str "mark_of" 308),(.str "/claim/cut.py" 309),(.int 38 0),(.int 1 0),(.int 0 0),(.int 0 0),(.int 3 0),(.ref 101),(.bool true),(.int 181 0),(.ref 102),.none,(.ref 103),(.ref 104),(.ref 105),(.int 311 0),(.int 38 0),(.str "/claim/cut.py" 312)]),#[]⟩
noncomputable def x64 (_ : Params) : Obj := ⟨(.type "function"),none,(fnO (tp 15) "mark_of" "mark_of" 3 [] .none .none .none (.str "sealpress.marks" 305) none (.ref 106) .none 0),#[]⟩
noncomputable def x65 (_ : Params) : Obj := ⟨.none,none,(fnO (tp 16) "marked" "marked" 0 [] .none .none .none .none none .none .none 0),#[]⟩
noncomputable def x66 (_ : Params) : Obj := ⟨(.type "code"),none,(.fields #[(.str "marked" 314),(.str "marked" 315),(.str "/claim/cut.py" 316),(.int 40 0),(.int 2 0),(.int 0 0),(.int 0 0),(.int 3 0),(.ref 108),(.bool true),(.int 181 0),(.ref 109),.none,.none,.none,(.ref 110),(.int 317 0),(.int 40 0),(.str "/claim/cut.py" 318)]),#[]⟩
noncomputable def x67 (_ : Params) : Obj := ⟨(.type "function"),none,(fnO (tp 16) "marked" "marked" 3 [] .none .none .none (.str "sealpress.marks" 305) none (.ref 111) .none 0),#[]⟩
noncomputable def x68 (_ : Params) : Obj := ⟨.none,none,(fnO (tp 18) "stroked" "stroked" 0 [] .none .none .none .none none .none .none 0),#[]⟩
noncomputable def x69 (_ : Params) : Obj := ⟨(.type "code"),none,(.fields #[(.str "stroked" 322),(.str "stroked" 323),(.str "/claim/cut.py" 324),(.int 43 0),(.int 2 0),(.int 0 0),(.int 0 0),(.int 3 0),(.ref 113),(.bool true),(.int 181 0),(.ref 114),.none,.none,.none,(.ref 115),(.int 325 0),(.int 43 0),(.str "/claim/cut.py" 326)]),#[]⟩
noncomputable def x70 (_ : Params) : Obj := ⟨(.type "function"),none,(fnO (tp 18) "stroked" "stroked" 3 [] .none .none .none (.str "sealpress.strokes" 320) none (.ref 116) .none 0),#[]⟩
noncomputable def x71 (_ : Params) : Obj := ⟨(.type "tuple"),none,(.seq #[(.str "sign" 335)] 0),#[]⟩
noncomputable def x72 (_ : Params) : Obj := ⟨.none,none,(fnO (tp 21) "code_of" "code_of" 0 [] .none .none .none .none none .none .none 0),#[]⟩
noncomputable def x73 (_ : Params) : Obj := ⟨(.type "code"),none,(.fields #[(.str "code_of" 332),(.str "code_of" 333),(.str "/claim/cut.py" 334),(.int 47 0),(.int 1 0),(.int 0 0),(.int 0 0),(.int 3 0),(.ref 118),(.bool true),(.int 181 0),(.ref 119),.none,(.ref 120),(.ref 121),(.ref 122),(.int 336 0),(.int 47 0),(.str "/claim/cut.py" 337)]),#[]⟩
noncomputable def x74 (_ : Params) : Obj := ⟨(.type "function"),none,(fnO (tp 21) "code_of" "code_of" 3 [] .none .none .none (.str "sealpress.words" 328) none (.ref 123) .none 0),#[]⟩
noncomputable def x75 (_ : Params) : Obj := ⟨.none,none,(fnO (tp 22) "worded" "worded" 0 [] .none .none .none .none none .none .none 0),#[]⟩
noncomputable def x76 (_ : Params) : Obj := ⟨(.type "code"),none,(.fields #[(.str "worded" 339),(.str "worded" 340),(.str "/claim/cut.py" 341),(.int 49 0),(.int 1 0),(.int 0 0),(.int 0 0),(.int 3 0),(.ref 125),(.bool true),(.int 181 0),(.ref 126),.none,.none,.none,(.ref 127),(.int 342 0),(.int 49 0),(.str "/claim/cut.py" 343)]),#[]⟩
noncomputable def x77 (_ : Params) : Obj := ⟨(.type "function"),none,(fnO (tp 22) "worded" "worded" 3 [] .none .none .none (.str "sealpress.words" 328) none (.ref 128) .none 0),#[]⟩
noncomputable def x78 (_ : Params) : Obj := ⟨(.type "tuple"),none,(.seq #[(.str "place" 350),(.str "value" 351),(.str "text" 352)] 0),#[]⟩
noncomputable def x79 (_ : Params) : Obj := ⟨.none,none,(fnO (tp 24) "put" "put" 0 [] .none .none .none .none none .none .none 0),#[]⟩
noncomputable def x80 (_ : Params) : Obj := ⟨(.type "code"),none,(.fields #[(.str "put" 347),(.str "put" 348),(.str "/claim/cut.py" 349),(.int 52 0),(.int 2 0),(.int 0 0),(.int 0 0),(.int 3 0),(.ref 130),(.bool true),(.int 181 0),(.ref 131),.none,(.ref 132),(.ref 133),(.ref 134),(.int 353 0),(.int 52 0),(.str "/claim/cut.py" 354)]),#[]⟩
noncomputable def x81 (_ : Params) : Obj := ⟨(.type "function"),none,(fnO (tp 24) "put" "put" 3 [] .none .none .none (.str "sealpress.places" 345) none (.ref 135) .none 0),#[]⟩
noncomputable def x82 (_ : Params) : Obj := ⟨(.type "tuple"),none,(.seq #[(.str "sign" 361)] 0),#[]⟩
noncomputable def x83 (_ : Params) : Obj := ⟨.none,none,(fnO (tp 26) "fed_between" "fed_between" 0 [] .none .none .none .none none .none .none 0),#[]⟩
noncomputable def x84 (_ : Params) : Obj := ⟨(.type "code"),none,(.fields #[(.str "fed_between" 358),(.str "fed_between" 359),(.str "/claim/cut.py" 360),(.int 64 0),(.int 1 0),(.int 0 0),(.int 0 0),(.int 3 0),(.ref 137),(.bool true),(.int 181 0),(.ref 138),.none,(.ref 139),(.ref 140),(.ref 141),(.int 362 0),(.int 64 0),(.str "/claim/cut.py" 363)]),#[]⟩
noncomputable def x85 (_ : Params) : Obj := ⟨(.type "function"),none,(fnO (tp 26) "fed_between" "fed_between" 3 [] .none .none .none (.str "sealpress.talks" 356) none (.ref 142) .none 0),#[]⟩
noncomputable def x86 (_ : Params) : Obj := ⟨(.type "tuple"),none,(.seq #[(.str "sign" 368)] 0),#[]⟩
noncomputable def x87 (_ : Params) : Obj := ⟨.none,none,(fnO (tp 27) "fed_word" "fed_word" 0 [] .none .none .none .none none .none .none 0),#[]⟩
noncomputable def x88 (_ : Params) : Obj := ⟨(.type "code"),none,(.fields #[(.str "fed_word" 365),(.str "fed_word" 366),(.str "/claim/cut.py" 367),(.int 72 0),(.int 1 0),(.int 0 0),(.int 0 0),(.int 3 0),(.ref 144),(.bool true),(.int 181 0),(.ref 145),.none,(.ref 146),(.ref 147),(.ref 148),(.int 369 0),(.int 72 0),(.str "/claim/cut.py" 370)]),#[]⟩
noncomputable def x89 (_ : Params) : Obj := ⟨(.type "function"),none,(fnO (tp 27) "fed_word" "fed_word" 3 [] .none .none .none (.str "sealpress.talks" 356) none (.ref 149) .none 0),#[]⟩
noncomputable def x90 (_ : Params) : Obj := ⟨(.type "tuple"),none,(.seq #[(.str "sign" 375)] 0),#[]⟩
noncomputable def x91 (_ : Params) : Obj := ⟨.none,none,(fnO (tp 28) "fed_said" "fed_said" 0 [] .none .none .none .none none .none .none 0),#[]⟩
noncomputable def x92 (_ : Params) : Obj := ⟨(.type "code"),none,(.fields #[(.str "fed_said" 372),(.str "fed_said" 373),(.str "/claim/cut.py" 374),(.int 76 0),(.int 1 0),(.int 0 0),(.int 0 0),(.int 3 0),(.ref 151),(.bool true),(.int 181 0),(.ref 152),.none,(.ref 153),(.ref 154),(.ref 155),(.int 376 0),(.int 76 0),(.str "/claim/cut.py" 377)]),#[]⟩
noncomputable def x93 (_ : Params) : Obj := ⟨(.type "function"),none,(fnO (tp 28) "fed_said" "fed_said" 3 [] .none .none .none (.str "sealpress.talks" 356) none (.ref 156) .none 0),#[]⟩
noncomputable def x94 (_ : Params) : Obj := ⟨(.type "tuple"),none,(.seq #[(.str "talk" 382),(.str "sign" 383)] 0),#[]⟩
noncomputable def x95 (_ : Params) : Obj := ⟨.none,none,(fnO (tp 29) "feed" "feed" 0 [] .none .none .none .none none .none .none 0),#[]⟩
noncomputable def x96 (_ : Params) : Obj := ⟨(.type "code"),none,(.fields #[(.str "feed" 379),(.str "feed" 380),(.str "/claim/cut.py" 381),(.int 82 0),(.int 2 0),(.int 0 0),(.int 0 0),(.int 3 0),(.ref 158),(.bool true),(.int 181 0),(.ref 159),.none,(.ref 160),(.ref 161),(.ref 162),(.int 384 0),(.int 82 0),(.str "/claim/cut.py" 385)]),#[]⟩
noncomputable def x97 (_ : Params) : Obj := ⟨(.type "function"),none,(fnO (tp 29) "feed" "feed" 3 [] .none .none .none (.str "sealpress.talks" 356) none (.ref 163) .none 0),#[]⟩
noncomputable def x98 (_ : Params) : Obj := ⟨(.type "tuple"),none,(.seq #[(.str "mode" 396),(.str "opens" 397),(.str "events" 398)] 0),#[]⟩
noncomputable def x99 (_ : Params) : Obj := ⟨.none,none,(fnO (tp 33) "come_to" "come_to" 0 [] .none .none .none .none none .none .none 0),#[]⟩
noncomputable def x100 (_ : Params) : Obj := ⟨(.type "code"),none,(.fields #[(.str "come_to" 393),(.str "come_to" 394),(.str "/claim/cut.py" 395),(.int 95 0),(.int 3 0),(.int 0 0),(.int 0 0),(.int 3 0),(.ref 165),(.bool true),(.int 181 0),(.ref 166),.none,(.ref 167),(.ref 168),(.ref 169),(.int 399 0),(.int 95 0),(.str "/claim/cut.py" 400)]),#[]⟩
noncomputable def x101 (_ : Params) : Obj := ⟨(.type "function"),none,(fnO (tp 33) "come_to" "come_to" 3 [] .none .none .none (.str "sealpress.modes" 387) none (.ref 170) .none 0),#[]⟩
noncomputable def x102 (_ : Params) : Obj := ⟨(.type "tuple"),none,(.seq #[(.str "mode" 405),(.str "opens" 406),(.str "sign" 407)] 0),#[]⟩
noncomputable def x103 (_ : Params) : Obj := ⟨.none,none,(fnO (tp 34) "told" "told" 0 [] .none .none .none .none none .none .none 0),#[]⟩
noncomputable def x104 (_ : Params) : Obj := ⟨(.type "code"),none,(.fields #[(.str "told" 402),(.str "told" 403),(.str "/claim/cut.py" 404),(.int 97 0),(.int 3 0),(.int 0 0),(.int 0 0),(.int 3 0),(.ref 172),(.bool true),(.int 181 0),(.ref 173),.none,(.ref 174),(.ref 175),(.ref 176),(.int 408 0),(.int 97 0),(.str "/claim/cut.py" 409)]),#[]⟩
noncomputable def x105 (_ : Params) : Obj := ⟨(.type "function"),none,(fnO (tp 34) "told" "told" 3 [] .none .none .none (.str "sealpress.modes" 387) none (.ref 177) .none 0),#[]⟩
noncomputable def x106 (_ : Params) : Obj := ⟨(.type "tuple"),none,(.seq #[(.str "mode" 414),(.str "word" 415),(.str "opens" 416),(.str "talk" 417),(.str "most" 418)] 0),#[]⟩
noncomputable def x107 (_ : Params) : Obj := ⟨.none,none,(fnO (tp 35) "gathered" "gathered" 0 [] .none .none .none .none none .none .none 0),#[]⟩
noncomputable def x108 (_ : Params) : Obj := ⟨(.type "code"),none,(.fields #[(.str "gathered" 411),(.str "gathered" 412),(.str "/claim/cut.py" 413),(.int 101 0),(.int 5 0),(.int 0 0),(.int 0 0),(.int 3 0),(.ref 179),(.bool true),(.int 181 0),(.ref 180),.none,(.ref 181),(.ref 182),(.ref 183),(.int 419 0),(.int 101 0),(.str "/claim/cut.py" 420)]),#[]⟩
noncomputable def x109 (_ : Params) : Obj := ⟨(.type "function"),none,(fnO (tp 35) "gathered" "gathered" 3 [] .none .none .none (.str "sealpress.modes" 387) none (.ref 184) .none 0),#[]⟩
noncomputable def x110 (_ : Params) : Obj := ⟨(.type "tuple"),none,(.seq #[(.str "opens" 425),(.str "events" 426)] 0),#[]⟩
noncomputable def x111 (_ : Params) : Obj := ⟨.none,none,(fnO (tp 36) "box_shut" "box_shut" 0 [] .none .none .none .none none .none .none 0),#[]⟩
noncomputable def x112 (_ : Params) : Obj := ⟨(.type "code"),none,(.fields #[(.str "box_shut" 422),(.str "box_shut" 423),(.str "/claim/cut.py" 424),(.int 105 0),(.int 2 0),(.int 0 0),(.int 0 0),(.int 3 0),(.ref 186),(.bool true),(.int 181 0),(.ref 187),.none,(.ref 188),(.ref 189),(.ref 190),(.int 427 0),(.int 105 0),(.str "/claim/cut.py" 428)]),#[]⟩
noncomputable def x113 (_ : Params) : Obj := ⟨(.type "function"),none,(fnO (tp 36) "box_shut" "box_shut" 3 [] .none .none .none (.str "sealpress.modes" 387) none (.ref 191) .none 0),#[]⟩
noncomputable def x114 (_ : Params) : Obj := ⟨(.type "tuple"),none,(.seq #[(.str "opens" 433),(.str "events" 434),(.str "mode" 435)] 0),#[]⟩
noncomputable def x115 (_ : Params) : Obj := ⟨.none,none,(fnO (tp 37) "into_box" "into_box" 0 [] .none .none .none .none none .none .none 0),#[]⟩
noncomputable def x116 (_ : Params) : Obj := ⟨(.type "code"),none,(.fields #[(.str "into_box" 430),(.str "into_box" 431),(.str "/claim/cut.py" 432),(.int 109 0),(.int 2 0),(.int 0 0),(.int 0 0),(.int 3 0),(.ref 193),(.bool true),(.int 181 0),(.ref 194),.none,(.ref 195),(.ref 196),(.ref 197),(.int 436 0),(.int 109 0),(.str "/claim/cut.py" 437)]),#[]⟩
noncomputable def x117 (_ : Params) : Obj := ⟨(.type "function"),none,(fnO (tp 37) "into_box" "into_box" 3 [] .none .none .none (.str "sealpress.modes" 387) none (.ref 198) .none 0),#[]⟩
noncomputable def x118 (_ : Params) : Obj := ⟨(.type "tuple"),none,(.seq #[(.str "opens" 442),(.str "sign" 443),(.str "events" 444)] 0),#[]⟩
noncomputable def x119 (_ : Params) : Obj := ⟨.none,none,(fnO (tp 38) "led_on" "led_on" 0 [] .none .none .none .none none .none .none 0),#[]⟩
noncomputable def x120 (_ : Params) : Obj := ⟨(.type "code"),none,(.fields #[(.str "led_on" 439),(.str "led_on" 440),(.str "/claim/cut.py" 441),(.int 114 0),(.int 3 0),(.int 0 0),(.int 0 0),(.int 3 0),(.ref 200),(.bool true),(.int 181 0),(.ref 201),.none,(.ref 202),(.ref 203),(.ref 204),(.int 445 0),(.int 114 0),(.str "/claim/cut.py" 446)]),#[]⟩
noncomputable def x121 (_ : Params) : Obj := ⟨(.type "function"),none,(fnO (tp 38) "led_on" "led_on" 3 [] .none .none .none (.str "sealpress.modes" 387) none (.ref 205) .none 0),#[]⟩
noncomputable def x122 (_ : Params) : Obj := ⟨(.type "tuple"),none,(.seq #[(.str "opens" 451),(.str "talk" 452),(.str "sign" 453),(.str "answer" 454)] 0),#[]⟩
noncomputable def x123 (_ : Params) : Obj := ⟨.none,none,(fnO (tp 39) "fed" "fed" 0 [] .none .none .none .none none .none .none 0),#[]⟩
noncomputable def x124 (_ : Params) : Obj := ⟨(.type "code"),none,(.fields #[(.str "fed" 448),(.str "fed" 449),(.str "/claim/cut.py" 450),(.int 122 0),(.int 3 0),(.int 0 0),(.int 0 0),(.int 3 0),(.ref 207),(.bool true),(.int 181 0),(.ref 208),.none,(.ref 209),(.ref 210),(.ref 211),(.int 455 0),(.int 122 0),(.str "/claim/cut.py" 456)]),#[]⟩
noncomputable def x125 (_ : Params) : Obj := ⟨(.type "function"),none,(fnO (tp 39) "fed" "fed" 3 [] .none .none .none (.str "sealpress.modes" 387) none (.ref 212) .none 0),#[]⟩
noncomputable def x126 (_ : Params) : Obj := ⟨(.type "tuple"),none,(.seq #[(.str "word" 461),(.str "sign" 462)] 0),#[]⟩
noncomputable def x127 (_ : Params) : Obj := ⟨.none,none,(fnO (tp 40) "mark_ended" "mark_ended" 0 [] .none .none .none .none none .none .none 0),#[]⟩
noncomputable def x128 (_ : Params) : Obj := ⟨(.type "code"),none,(.fields #[(.str "mark_ended" 458),(.str "mark_ended" 459),(.str "/claim/cut.py" 460),(.int 127 0),(.int 2 0),(.int 0 0),(.int 0 0),(.int 3 0),(.ref 214),(.bool true),(.int 181 0),(.ref 215),.none,(.ref 216),(.ref 217),(.ref 218),(.int 463 0),(.int 127 0),(.str "/claim/cut.py" 464)]),#[]⟩
noncomputable def x129 (_ : Params) : Obj := ⟨(.type "function"),none,(fnO (tp 40) "mark_ended" "mark_ended" 3 [] .none .none .none (.str "sealpress.modes" 387) none (.ref 219) .none 0),#[]⟩
noncomputable def x130 (_ : Params) : Obj := ⟨(.type "tuple"),none,(.seq #[(.str "word" 469),(.str "opens" 470),(.str "talk" 471),(.str "sign" 472)] 0),#[]⟩
noncomputable def x131 (_ : Params) : Obj := ⟨.none,none,(fnO (tp 41) "at_text" "at_text" 0 [] .none .none .none .none none .none .none 0),#[]⟩
noncomputable def x132 (_ : Params) : Obj := ⟨(.type "code"),none,(.fields #[(.str "at_text" 466),(.str "at_text" 467),(.str "/claim/cut.py" 468),(.int 129 0),(.int 4 0),(.int 0 0),(.int 0 0),(.int 3 0),(.ref 221),(.bool true),(.int 181 0),(.ref 222),.none,(.ref 223),(.ref 224),(.ref 225),(.int 473 0),(.int 129 0),(.str "/claim/cut.py" 474)]),#[]⟩
noncomputable def x133 (_ : Params) : Obj := ⟨(.type "function"),none,(fnO (tp 41) "at_text" "at_text" 3 [] .none .none .none (.str "sealpress.modes" 387) none (.ref 226) .none 0),#[]⟩
noncomputable def x134 (_ : Params) : Obj := ⟨(.type "tuple"),none,(.seq #[(.str "word" 479),(.str "opens" 480),(.str "talk" 481),(.str "sign" 482)] 0),#[]⟩
noncomputable def x135 (_ : Params) : Obj := ⟨.none,none,(fnO (tp 42) "at_mark" "at_mark" 0 [] .none .none .none .none none .none .none 0),#[]⟩
noncomputable def x136 (_ : Params) : Obj := ⟨(.type "code"),none,(.fields #[(.str "at_mark" 476),(.str "at_mark" 477),(.str "/claim/cut.py" 478),(.int 135 0),(.int 4 0),(.int 0 0),(.int 0 0),(.int 3 0),(.ref 228),(.bool true),(.int 181 0),(.ref 229),.none,(.ref 230),(.ref 231),(.ref 232),(.int 483 0),(.int 135 0),(.str "/claim/cut.py" 484)]),#[]⟩
noncomputable def x137 (_ : Params) : Obj := ⟨(.type "function"),none,(fnO (tp 42) "at_mark" "at_mark" 3 [] .none .none .none (.str "sealpress.modes" 387) none (.ref 233) .none 0),#[]⟩
noncomputable def x138 (_ : Params) : Obj := ⟨(.type "tuple"),none,(.seq #[(.str "word" 489),(.str "opens" 490),(.str "talk" 491),(.str "sign" 492)] 0),#[]⟩
noncomputable def x139 (_ : Params) : Obj := ⟨.none,none,(fnO (tp 43) "at_open" "at_open" 0 [] .none .none .none .none none .none .none 0),#[]⟩
noncomputable def x140 (_ : Params) : Obj := ⟨(.type "code"),none,(.fields #[(.str "at_open" 486),(.str "at_open" 487),(.str "/claim/cut.py" 488),(.int 139 0),(.int 4 0),(.int 0 0),(.int 0 0),(.int 3 0),(.ref 235),(.bool true),(.int 181 0),(.ref 236),.none,(.ref 237),(.ref 238),(.ref 239),(.int 493 0),(.int 139 0),(.str "/claim/cut.py" 494)]),#[]⟩
noncomputable def x141 (_ : Params) : Obj := ⟨(.type "function"),none,(fnO (tp 43) "at_open" "at_open" 3 [] .none .none .none (.str "sealpress.modes" 387) none (.ref 240) .none 0),#[]⟩
noncomputable def x142 (_ : Params) : Obj := ⟨(.type "tuple"),none,(.seq #[(.str "word" 499),(.str "opens" 500),(.str "talk" 501),(.str "sign" 502)] 0),#[]⟩
noncomputable def x143 (_ : Params) : Obj := ⟨.none,none,(fnO (tp 44) "at_name" "at_name" 0 [] .none .none .none .none none .none .none 0),#[]⟩
noncomputable def x144 (_ : Params) : Obj := ⟨(.type "code"),none,(.fields #[(.str "at_name" 496),(.str "at_name" 497),(.str "/claim/cut.py" 498),(.int 145 0),(.int 4 0),(.int 0 0),(.int 0 0),(.int 3 0),(.ref 242),(.bool true),(.int 181 0),(.ref 243),.none,(.ref 244),(.ref 245),(.ref 246),(.int 503 0),(.int 145 0),(.str "/claim/cut.py" 504)]),#[]⟩
noncomputable def x145 (_ : Params) : Obj := ⟨(.type "function"),none,(fnO (tp 44) "at_name" "at_name" 3 [] .none .none .none (.str "sealpress.modes" 387) none (.ref 247) .none 0),#[]⟩
noncomputable def x146 (_ : Params) : Obj := ⟨(.type "tuple"),none,(.seq #[(.str "word" 509),(.str "opens" 510),(.str "talk" 511),(.str "sign" 512)] 0),#[]⟩
noncomputable def x147 (_ : Params) : Obj := ⟨.none,none,(fnO (tp 45) "at_slash" "at_slash" 0 [] .none .none .none .none none .none .none 0),#[]⟩
noncomputable def x148 (_ : Params) : Obj := ⟨(.type "code"),none,(.fields #[(.str "at_slash" 506),(.str "at_slash" 507),(.str "/claim/cut.py" 508),(.int 149 0),(.int 4 0),(.int 0 0),(.int 0 0),(.int 3 0),(.ref 249),(.bool true),(.int 181 0),(.ref 250),.none,(.ref 251),(.ref 252),(.ref 253),(.int 513 0),(.int 149 0),(.str "/claim/cut.py" 514)]),#[]⟩
noncomputable def x149 (_ : Params) : Obj := ⟨(.type "function"),none,(fnO (tp 45) "at_slash" "at_slash" 3 [] .none .none .none (.str "sealpress.modes" 387) none (.ref 254) .none 0),#[]⟩
noncomputable def x150 (_ : Params) : Obj := ⟨(.type "tuple"),none,(.seq #[(.str "word" 519),(.str "opens" 520),(.str "talk" 521),(.str "sign" 522)] 0),#[]⟩
noncomputable def x151 (_ : Params) : Obj := ⟨.none,none,(fnO (tp 46) "at_shut" "at_shut" 0 [] .none .none .none .none none .none .none 0),#[]⟩
noncomputable def x152 (_ : Params) : Obj := ⟨(.type "code"),none,(.fields #[(.str "at_shut" 516),(.str "at_shut" 517),(.str "/claim/cut.py" 518),(.int 153 0),(.int 4 0),(.int 0 0),(.int 0 0),(.int 3 0),(.ref 256),(.bool true),(.int 181 0),(.ref 257),.none,(.ref 258),(.ref 259),(.ref 260),(.int 523 0),(.int 153 0),(.str "/claim/cut.py" 524)]),#[]⟩
noncomputable def x153 (_ : Params) : Obj := ⟨(.type "function"),none,(fnO (tp 46) "at_shut" "at_shut" 3 [] .none .none .none (.str "sealpress.modes" 387) none (.ref 261) .none 0),#[]⟩
noncomputable def x154 (_ : Params) : Obj := ⟨(.type "tuple"),none,(.seq #[(.str "word" 529),(.str "opens" 530),(.str "talk" 531),(.str "sign" 532)] 0),#[]⟩
noncomputable def x155 (_ : Params) : Obj := ⟨.none,none,(fnO (tp 47) "at_gap" "at_gap" 0 [] .none .none .none .none none .none .none 0),#[]⟩
noncomputable def x156 (_ : Params) : Obj := ⟨(.type "code"),none,(.fields #[(.str "at_gap" 526),(.str "at_gap" 527),(.str "/claim/cut.py" 528),(.int 159 0),(.int 4 0),(.int 0 0),(.int 0 0),(.int 3 0),(.ref 263),(.bool true),(.int 181 0),(.ref 264),.none,(.ref 265),(.ref 266),(.ref 267),(.int 533 0),(.int 159 0),(.str "/claim/cut.py" 534)]),#[]⟩
noncomputable def x157 (_ : Params) : Obj := ⟨(.type "function"),none,(fnO (tp 47) "at_gap" "at_gap" 3 [] .none .none .none (.str "sealpress.modes" 387) none (.ref 268) .none 0),#[]⟩
noncomputable def x158 (_ : Params) : Obj := ⟨(.type "tuple"),none,(.seq #[(.str "word" 539),(.str "opens" 540),(.str "talk" 541),(.str "sign" 542)] 0),#[]⟩
noncomputable def x159 (_ : Params) : Obj := ⟨.none,none,(fnO (tp 48) "at_attr" "at_attr" 0 [] .none .none .none .none none .none .none 0),#[]⟩
noncomputable def x160 (_ : Params) : Obj := ⟨(.type "code"),none,(.fields #[(.str "at_attr" 536),(.str "at_attr" 537),(.str "/claim/cut.py" 538),(.int 163 0),(.int 4 0),(.int 0 0),(.int 0 0),(.int 3 0),(.ref 270),(.bool true),(.int 181 0),(.ref 271),.none,(.ref 272),(.ref 273),(.ref 274),(.int 543 0),(.int 163 0),(.str "/claim/cut.py" 544)]),#[]⟩
noncomputable def x161 (_ : Params) : Obj := ⟨(.type "function"),none,(fnO (tp 48) "at_attr" "at_attr" 3 [] .none .none .none (.str "sealpress.modes" 387) none (.ref 275) .none 0),#[]⟩
noncomputable def x162 (_ : Params) : Obj := ⟨(.type "tuple"),none,(.seq #[(.str "word" 549),(.str "opens" 550),(.str "talk" 551),(.str "sign" 552)] 0),#[]⟩
noncomputable def x163 (_ : Params) : Obj := ⟨.none,none,(fnO (tp 49) "at_is" "at_is" 0 [] .none .none .none .none none .none .none 0),#[]⟩
noncomputable def x164 (_ : Params) : Obj := ⟨(.type "code"),none,(.fields #[(.str "at_is" 546),(.str "at_is" 547),(.str "/claim/cut.py" 548),(.int 175 0),(.int 4 0),(.int 0 0),(.int 0 0),(.int 3 0),(.ref 277),(.bool true),(.int 181 0),(.ref 278),.none,(.ref 279),(.ref 280),(.ref 281),(.int 553 0),(.int 175 0),(.str "/claim/cut.py" 554)]),#[]⟩
noncomputable def x165 (_ : Params) : Obj := ⟨(.type "function"),none,(fnO (tp 49) "at_is" "at_is" 3 [] .none .none .none (.str "sealpress.modes" 387) none (.ref 282) .none 0),#[]⟩
noncomputable def x166 (_ : Params) : Obj := ⟨(.type "tuple"),none,(.seq #[(.str "word" 559),(.str "opens" 560),(.str "talk" 561),(.str "sign" 562)] 0),#[]⟩
noncomputable def x167 (_ : Params) : Obj := ⟨.none,none,(fnO (tp 50) "at_bang" "at_bang" 0 [] .none .none .none .none none .none .none 0),#[]⟩
noncomputable def x168 (_ : Params) : Obj := ⟨(.type "code"),none,(.fields #[(.str "at_bang" 556),(.str "at_bang" 557),(.str "/claim/cut.py" 558),(.int 179 0),(.int 4 0),(.int 0 0),(.int 0 0),(.int 3 0),(.ref 284),(.bool true),(.int 181 0),(.ref 285),.none,(.ref 286),(.ref 287),(.ref 288),(.int 563 0),(.int 179 0),(.str "/claim/cut.py" 564)]),#[]⟩
noncomputable def x169 (_ : Params) : Obj := ⟨(.type "function"),none,(fnO (tp 50) "at_bang" "at_bang" 3 [] .none .none .none (.str "sealpress.modes" 387) none (.ref 289) .none 0),#[]⟩
noncomputable def x170 (_ : Params) : Obj := ⟨(.type "tuple"),none,(.seq #[(.str "word" 569),(.str "opens" 570),(.str "talk" 571),(.str "sign" 572)] 0),#[]⟩
noncomputable def x171 (_ : Params) : Obj := ⟨.none,none,(fnO (tp 51) "at_bare" "at_bare" 0 [] .none .none .none .none none .none .none 0),#[]⟩
noncomputable def x172 (_ : Params) : Obj := ⟨(.type "code"),none,(.fields #[(.str "at_bare" 566),(.str "at_bare" 567),(.str "/claim/cut.py" 568),(.int 183 0),(.int 4 0),(.int 0 0),(.int 0 0),(.int 3 0),(.ref 291),(.bool true),(.int 181 0),(.ref 292),.none,(.ref 293),(.ref 294),(.ref 295),(.int 573 0),(.int 183 0),(.str "/claim/cut.py" 574)]),#[]⟩
noncomputable def x173 (_ : Params) : Obj := ⟨(.type "function"),none,(fnO (tp 51) "at_bare" "at_bare" 3 [] .none .none .none (.str "sealpress.modes" 387) none (.ref 296) .none 0),#[]⟩
noncomputable def x174 (_ : Params) : Obj := ⟨(.type "tuple"),none,(.seq #[(.str "word" 579),(.str "opens" 580),(.str "talk" 581),(.str "sign" 582)] 0),#[]⟩
noncomputable def x175 (_ : Params) : Obj := ⟨.none,none,(fnO (tp 52) "at_code" "at_code" 0 [] .none .none .none .none none .none .none 0),#[]⟩
noncomputable def x176 (_ : Params) : Obj := ⟨(.type "code"),none,(.fields #[(.str "at_code" 576),(.str "at_code" 577),(.str "/claim/cut.py" 578),(.int 189 0),(.int 4 0),(.int 0 0),(.int 0 0),(.int 3 0),(.ref 298),(.bool true),(.int 181 0),(.ref 299),.none,(.ref 300),(.ref 301),(.ref 302),(.int 583 0),(.int 189 0),(.str "/claim/cut.py" 584)]),#[]⟩
noncomputable def x177 (_ : Params) : Obj := ⟨(.type "function"),none,(fnO (tp 52) "at_code" "at_code" 3 [] .none .none .none (.str "sealpress.modes" 387) none (.ref 303) .none 0),#[]⟩
noncomputable def x178 (_ : Params) : Obj := ⟨(.type "tuple"),none,(.seq #[(.str "word" 589),(.str "opens" 590),(.str "talk" 591),(.str "sign" 592)] 0),#[]⟩
noncomputable def x179 (_ : Params) : Obj := ⟨.none,none,(fnO (tp 53) "at_row" "at_row" 0 [] .none .none .none .none none .none .none 0),#[]⟩
noncomputable def x180 (_ : Params) : Obj := ⟨(.type "code"),none,(.fields #[(.str "at_row" 586),(.str "at_row" 587),(.str "/claim/cut.py" 588),(.int 193 0),(.int 4 0),(.int 0 0),(.int 0 0),(.int 3 0),(.ref 305),(.bool true),(.int 181 0),(.ref 306),.none,(.ref 307),(.ref 308),(.ref 309),(.int 593 0),(.int 193 0),(.str "/claim/cut.py" 594)]),#[]⟩
noncomputable def x181 (_ : Params) : Obj := ⟨(.type "function"),none,(fnO (tp 53) "at_row" "at_row" 3 [] .none .none .none (.str "sealpress.modes" 387) none (.ref 310) .none 0),#[]⟩
noncomputable def x182 (_ : Params) : Obj := ⟨(.type "tuple"),none,(.seq #[(.str "word" 599),(.str "opens" 600),(.str "talk" 601),(.str "sign" 602)] 0),#[]⟩
noncomputable def x183 (_ : Params) : Obj := ⟨.none,none,(fnO (tp 54) "at_stroke" "at_stroke" 0 [] .none .none .none .none none .none .none 0),#[]⟩
noncomputable def x184 (_ : Params) : Obj := ⟨(.type "code"),none,(.fields #[(.str "at_stroke" 596),(.str "at_stroke" 597),(.str "/claim/cut.py" 598),(.int 201 0),(.int 4 0),(.int 0 0),(.int 0 0),(.int 3 0),(.ref 312),(.bool true),(.int 181 0),(.ref 313),.none,(.ref 314),(.ref 315),(.ref 316),(.int 603 0),(.int 201 0),(.str "/claim/cut.py" 604)]),#[]⟩
noncomputable def x185 (_ : Params) : Obj := ⟨(.type "function"),none,(fnO (tp 54) "at_stroke" "at_stroke" 3 [] .none .none .none (.str "sealpress.modes" 387) none (.ref 317) .none 0),#[]⟩
noncomputable def x186 (_ : Params) : Obj := ⟨(.type "tuple"),none,(.seq #[(.str "word" 609),(.str "opens" 610),(.str "talk" 611),(.str "sign" 612)] 0),#[]⟩
noncomputable def x187 (_ : Params) : Obj := ⟨.none,none,(fnO (tp 55) "at_quoted" "at_quoted" 0 [] .none .none .none .none none .none .none 0),#[]⟩
noncomputable def x188 (_ : Params) : Obj := ⟨(.type "code"),none,(.fields #[(.str "at_quoted" 606),(.str "at_quoted" 607),(.str "/claim/cut.py" 608),(.int 203 0),(.int 4 0),(.int 0 0),(.int 0 0),(.int 3 0),(.ref 319),(.bool true),(.int 181 0),(.ref 320),.none,(.ref 321),(.ref 322),(.ref 323),(.int 613 0),(.int 203 0),(.str "/claim/cut.py" 614)]),#[]⟩
noncomputable def x189 (_ : Params) : Obj := ⟨(.type "function"),none,(fnO (tp 55) "at_quoted" "at_quoted" 3 [] .none .none .none (.str "sealpress.modes" 387) none (.ref 324) .none 0),#[]⟩
noncomputable def x190 (_ : Params) : Obj := ⟨(.type "tuple"),none,(.seq #[(.str "word" 619),(.str "opens" 620),(.str "talk" 621),(.str "sign" 622)] 0),#[]⟩
noncomputable def x191 (_ : Params) : Obj := ⟨.none,none,(fnO (tp 56) "at_qmark" "at_qmark" 0 [] .none .none .none .none none .none .none 0),#[]⟩
noncomputable def x192 (_ : Params) : Obj := ⟨(.type "code"),none,(.fields #[(.str "at_qmark" 616),(.str "at_qmark" 617),(.str "/claim/cut.py" 618),(.int 209 0),(.int 4 0),(.int 0 0),(.int 0 0),(.int 3 0),(.ref 326),(.bool true),(.int 181 0),(.ref 327),.none,(.ref 328),(.ref 329),(.ref 330),(.int 623 0),(.int 209 0),(.str "/claim/cut.py" 624)]),#[]⟩
noncomputable def x193 (_ : Params) : Obj := ⟨(.type "function"),none,(fnO (tp 56) "at_qmark" "at_qmark" 3 [] .none .none .none (.str "sealpress.modes" 387) none (.ref 331) .none 0),#[]⟩
noncomputable def x194 (_ : Params) : Obj := ⟨(.type "tuple"),none,(.seq #[(.str "word" 629),(.str "opens" 630),(.str "talk" 631),(.str "sign" 632)] 0),#[]⟩
noncomputable def x195 (_ : Params) : Obj := ⟨.none,none,(fnO (tp 57) "at_done" "at_done" 0 [] .none .none .none .none none .none .none 0),#[]⟩
noncomputable def x196 (_ : Params) : Obj := ⟨(.type "code"),none,(.fields #[(.str "at_done" 626),(.str "at_done" 627),(.str "/claim/cut.py" 628),(.int 213 0),(.int 4 0),(.int 0 0),(.int 0 0),(.int 3 0),(.ref 333),(.bool true),(.int 181 0),(.ref 334),.none,(.ref 335),(.ref 336),(.ref 337),(.int 633 0),(.int 213 0),(.str "/claim/cut.py" 634)]),#[]⟩
noncomputable def x197 (_ : Params) : Obj := ⟨(.type "function"),none,(fnO (tp 57) "at_done" "at_done" 3 [] .none .none .none (.str "sealpress.modes" 387) none (.ref 338) .none 0),#[]⟩
noncomputable def x198 (_ : Params) : Obj := ⟨(.type "tuple"),none,(.seq #[(.str "word" 639),(.str "opens" 640),(.str "talk" 641),(.str "sign" 642)] 0),#[]⟩
noncomputable def x199 (_ : Params) : Obj := ⟨.none,none,(fnO (tp 58) "at_talk" "at_talk" 0 [] .none .none .none .none none .none .none 0),#[]⟩
noncomputable def x200 (_ : Params) : Obj := ⟨(.type "code"),none,(.fields #[(.str "at_talk" 636),(.str "at_talk" 637),(.str "/claim/cut.py" 638),(.int 215 0),(.int 4 0),(.int 0 0),(.int 0 0),(.int 3 0),(.ref 340),(.bool true),(.int 181 0),(.ref 341),.none,(.ref 342),(.ref 343),(.ref 344),(.int 643 0),(.int 215 0),(.str "/claim/cut.py" 644)]),#[]⟩
noncomputable def x201 (_ : Params) : Obj := ⟨(.type "function"),none,(fnO (tp 58) "at_talk" "at_talk" 3 [] .none .none .none (.str "sealpress.modes" 387) none (.ref 345) .none 0),#[]⟩
noncomputable def x202 (_ : Params) : Obj := ⟨(.type "tuple"),none,(.seq #[(.str "word" 649),(.str "opens" 650),(.str "talk" 651),(.str "sign" 652)] 0),#[]⟩
noncomputable def x203 (_ : Params) : Obj := ⟨.none,none,(fnO (tp 59) "at_tmark" "at_tmark" 0 [] .none .none .none .none none .none .none 0),#[]⟩
noncomputable def x204 (_ : Params) : Obj := ⟨(.type "code"),none,(.fields #[(.str "at_tmark" 646),(.str "at_tmark" 647),(.str "/claim/cut.py" 648),(.int 221 0),(.int 4 0),(.int 0 0),(.int 0 0),(.int 3 0),(.ref 347),(.bool true),(.int 181 0),(.ref 348),.none,(.ref 349),(.ref 350),(.ref 351),(.int 653 0),(.int 221 0),(.str "/claim/cut.py" 654)]),#[]⟩
noncomputable def x205 (_ : Params) : Obj := ⟨(.type "function"),none,(fnO (tp 59) "at_tmark" "at_tmark" 3 [] .none .none .none (.str "sealpress.modes" 387) none (.ref 352) .none 0),#[]⟩
noncomputable def x206 (_ : Params) : Obj := ⟨.none,none,(fnO (tp 60) "at_asis" "at_asis" 0 [] .none .none .none .none none .none .none 0),#[]⟩
noncomputable def x207 (_ : Params) : Obj := ⟨(.type "code"),none,(.fields #[(.str "at_asis" 656),(.str "at_asis" 657),(.str "/claim/cut.py" 658),(.int 225 0),(.int 4 0),(.int 0 0),(.int 0 0),(.int 3 0),(.ref 354),(.bool true),(.int 181 0),(.ref 355),.none,.none,.none,(.ref 356),(.int 659 0),(.int 225 0),(.str "/claim/cut.py" 660)]),#[]⟩
noncomputable def x208 (_ : Params) : Obj := ⟨(.type "function"),none,(fnO (tp 60) "at_asis" "at_asis" 3 [] .none .none .none (.str "sealpress.modes" 387) none (.ref 357) .none 0),#[]⟩
noncomputable def x209 (P : Params) : Obj := ⟨(.type "dict"),none,(.dict #[(en P "__name__" 165 (.str "law_sealpress_k45_whole_one_shape" 748)),(en P "__doc__" 166 .none),(en P "__package__" 167 .none),(en P "__loader__" 168 (.builtin "__main__.__loader__#opaque")),(en P "__spec__" 169 .none),(en P "__annotations__" 170 (.ref 6)),(en P "__builtins__" 171 (.ref 4)),(en P "__file__" 173 (.str "/claim/cut.py" 172)),(en P "__cached__" 174 .none),(en P "SealError" 206 (.ref 24)),(en P "NoSign" 231 (.ref 44)),(en P "Unread" 256 (.ref 63)),(en P "SIGNS" 260 (.str " !\"#$&'()*+,-./0123456789:;<=>?@ABCDEFGHIJKLMNOPQRSTUVWXYZ[\\]^_`abcdefghijklmnopqrstuvwxyz{|}~" 259)),(en P "FIGURES" 262 (.str "0123456789" 261)),(en P "LETTERS" 264 (.str "abcdefghijklmnopqrstuvwxyz" 263)),(en P "LONGEST_NAME" 266 (.int 8 265)),(en P "number_of" 273 (.ref 72)),(en P "sign_of" 280 (.ref 79)),(en P "figures_of" 287 (.ref 86)),(en P "sign_told" 295 (.ref 93)),(en P "need_text" 304 (.ref 100)),(en P "mark_of" 313 (.ref 107)),(en P "marked" 319 (.ref 112)),(en P "stroked" 327 (.ref 117)),(en P "WORDSIGNS" 331 (.str "abcdefghijklmnopqrstuvwxyz0123456789-" 330)),(en P "code_of" 338 (.ref 124)),(en P "worded" 344 (.ref 129)),(en P "put" 355 (.ref 136)),(en P "fed_between" 364 (.ref 143)),(en P "fed_word" 371 (.ref 150)),(en P "fed_said" 378 (.ref 157)),(en P "feed" 386 (.ref 164)),(en P "ASIS_END" 390 (.str "</asis>" 389)),(en P "MARK_FIGURES" 392 (.int 2 391)),(en P "come_to" 401 (.ref 171)),(en P "told" 410 (.ref 178)),(en P "gathered" 421 (.ref 185)),(en P "box_shut" 429 (.ref 192)),(en P "into_box" 438 (.ref 199)),(en P "led_on" 447 (.ref 206)),(en P "fed" 457 (.ref 213)),(en P "mark_ended" 465 (.ref 220)),(en P "at_text" 475 (.ref 227)),(en P "at_mark" 485 (.ref 234)),(en P "at_open" 495 (.ref 241)),(en P "at_name" 505 (.ref 248)),(en P "at_slash" 515 (.ref 255)),(en P "at_shut" 525 (.ref 262)),(en P "at_gap" 535 (.ref 269)),(en P "at_attr" 545 (.ref 276)),(en P "at_is" 555 (.ref 283)),(en P "at_bang" 565 (.ref 290)),(en P "at_bare" 575 (.ref 297)),(en P "at_code" 585 (.ref 304)),(en P "at_row" 595 (.ref 311)),(en P "at_stroke" 605 (.ref 318)),(en P "at_quoted" 615 (.ref 325)),(en P "at_qmark" 625 (.ref 332)),(en P "at_done" 635 (.ref 339)),(en P "at_talk" 645 (.ref 346)),(en P "at_tmark" 655 (.ref 353)),(en P "at_asis" 661 (.ref 358)),(en P "MODES" 702 (.ref 359)),(en P "moved" 711 (.ref 367)),(en P "begin" 719 (.ref 374)),(en P "step" 727 (.ref 381)),(en P "run" 740 (.ref 388)),(en P "is_end" 747 (.ref 395)),(en P "_law_cell" 758 (.ref 402)),(en P "_law_mix" 770 (.ref 409)),(en P "_law_signs" 777 (.ref 416)),(en P "_law_name" 783 (.ref 421)),(en P "_law_value" 789 (.ref 426)),(en P "_law_parts" 804 (.ref 433)),(en P "_law_pressed" 810 (.ref 438)),(en P "_law_values" 816 (.ref 443)),(en P "_law_ran" 825 (.ref 450)),(en P "_law_shape" 831 (.ref 455)),(en P "law" 837 (.ref 460))] 79),#[]⟩
noncomputable def x210 (P : Params) : Obj := ⟨(.type "dict"),none,(.dict #[(en P "text" 662 (.ref 227)),(en P "mark" 664 (.ref 234)),(en P "open" 666 (.ref 241)),(en P "name" 668 (.ref 248)),(en P "slash" 670 (.ref 255)),(en P "shut" 672 (.ref 262)),(en P "gap" 674 (.ref 269)),(en P "attr" 676 (.ref 276)),(en P "is" 678 (.ref 283)),(en P "bang" 680 (.ref 290)),(en P "bare" 682 (.ref 297)),(en P "code" 684 (.ref 304)),(en P "row" 686 (.ref 311)),(en P "stroke" 688 (.ref 318)),(en P "quoted" 690 (.ref 325)),(en P "qmark" 692 (.ref 332)),(en P "done" 694 (.ref 339)),(en P "talk" 696 (.ref 346)),(en P "tmark" 697 (.ref 353)),(en P "asis" 698 (.ref 358))] 20),#[]⟩
noncomputable def x211 (_ : Params) : Obj := ⟨(.type "code"),none,(.fields #[(.str "moved" 703),(.str "moved" 704),(.str "/claim/cut.py" 705),(.int 236 0),(.int 2 0),(.int 0 0),(.int 0 0),(.int 3 0),(.ref 361),(.bool true),(.int 181 0),(.ref 362),.none,(.ref 363),(.ref 364),(.ref 365),(.int 709 0),(.int 236 0),(.str "/claim/cut.py" 710)]),#[]⟩
noncomputable def x212 (_ : Params) : Obj := ⟨(.type "function"),none,(fnO (tp 62) "moved" "moved" 3 [] .none .none .none (.str "sealpress.modes" 387) none (.ref 366) .none 0),#[]⟩
noncomputable def x213 (_ : Params) : Obj := ⟨(.type "code"),none,(.fields #[(.str "begin" 714),(.str "begin" 715),(.str "/claim/cut.py" 716),(.int 240 0),(.int 0 0),(.int 0 0),(.int 0 0),(.int 3 0),(.ref 368),(.bool true),(.int 181 0),(.ref 369),.none,(.ref 370),(.ref 371),(.ref 372),(.int 717 0),(.int 240 0),(.str "/claim/cut.py" 718)]),#[]⟩
noncomputable def x214 (_ : Params) : Obj := ⟨(.type "function"),none,(fnO (tp 64) "begin" "begin" 3 [] .none .none .none (.str "sealpress.steps" 712) none (.ref 373) .none 0),#[]⟩
noncomputable def x215 (_ : Params) : Obj := ⟨(.type "code"),none,(.fields #[(.str "step" 720),(.str "step" 721),(.str "/claim/cut.py" 722),(.int 242 0),(.int 2 0),(.int 0 0),(.int 0 0),(.int 3 0),(.ref 375),(.bool true),(.int 181 0),(.ref 376),.none,(.ref 377),(.ref 378),(.ref 379),(.int 725 0),(.int 242 0),(.str "/claim/cut.py" 726)]),#[]⟩
noncomputable def x216 (_ : Params) : Obj := ⟨(.type "function"),none,(fnO (tp 65) "step" "step" 3 [] .none .none .none (.str "sealpress.steps" 712) none (.ref 380) .none 0),#[]⟩
noncomputable def x217 (_ : Params) : Obj := ⟨(.type "code"),none,(.fields #[(.str "run" 728),(.str "run" 729),(.str "/claim/cut.py" 730),(.int 244 0),(.int 2 0),(.int 0 0),(.int 0 0),(.int 3 0),(.ref 382),(.bool true),(.int 181 0),(.ref 383),.none,(.ref 384),(.ref 385),(.ref 386),(.int 738 0),(.int 244 0),(.str "/claim/cut.py" 739)]),#[]⟩
noncomputable def x218 (_ : Params) : Obj := ⟨(.type "function"),none,(fnO (tp 66) "run" "run" 3 [] .none .none .none (.str "sealpress.steps" 712) none (.ref 387) .none 0),#[]⟩
noncomputable def x219 (_ : Params) : Obj := ⟨(.type "code"),none,(.fields #[(.str "is_end" 741),(.str "is_end" 742),(.str "/claim/cut.py" 743),(.int 254 0),(.int 1 0),(.int 0 0),(.int 0 0),(.int 3 0),(.ref 389),(.bool true),(.int 181 0),(.ref 390),.none,(.ref 391),(.ref 392),(.ref 393),(.int 745 0),(.int 254 0),(.str "/claim/cut.py" 746)]),#[]⟩
noncomputable def x220 (_ : Params) : Obj := ⟨(.type "function"),none,(fnO (tp 67) "is_end" "is_end" 3 [] .none .none .none (.str "sealpress.steps" 712) none (.ref 394) .none 0),#[]⟩
noncomputable def x221 (_ : Params) : Obj := ⟨(.type "code"),none,(.fields #[(.str "_law_cell" 750),(.str "_law_cell" 751),(.str "/claim/cut.py" 752),(.int 257 0),(.int 2 0),(.int 0 0),(.int 0 0),(.int 3 0),(.ref 396),(.bool true),(.int 181 0),(.ref 397),.none,(.ref 398),(.ref 399),(.ref 400),(.int 756 0),(.int 257 0),(.str "/claim/cut.py" 757)]),#[]⟩
noncomputable def x222 (_ : Params) : Obj := ⟨(.type "function"),none,(fnO (tp 69) "_law_cell" "_law_cell" 3 [] .none .none .none (.str "law_sealpress_k45_whole_one_shape" 748) none (.ref 401) .none 0),#[]⟩
noncomputable def x223 (_ : Params) : Obj := ⟨(.type "code"),none,(.fields #[(.str "_law_mix" 759),(.str "_law_mix" 760),(.str "/claim/cut.py" 761),(.int 264 0),(.int 3 0),(.int 0 0),(.int 0 0),(.int 3 0),(.ref 403),(.bool true),(.int 181 0),(.ref 404),.none,(.ref 405),(.ref 406),(.ref 407),(.int 768 0),(.int 264 0),(.str "/claim/cut.py" 769)]),#[]⟩
noncomputable def x224 (_ : Params) : Obj := ⟨(.type "function"),none,(fnO (tp 70) "_law_mix" "_law_mix" 3 [] .none .none .none (.str "law_sealpress_k45_whole_one_shape" 748) none (.ref 408) .none 0),#[]⟩
noncomputable def x225 (_ : Params) : Obj := ⟨(.type "code"),none,(.fields #[(.str "_law_signs" 771),(.str "_law_signs" 772),(.str "/claim/cut.py" 773),(.int 271 0),(.int 0 0),(.int 0 0),(.int 0 0),(.int 3 0),(.ref 410),(.bool true),(.int 181 0),(.ref 411),.none,(.ref 412),(.ref 413),(.ref 414),(.int 775 0),(.int 271 0),(.str "/claim/cut.py" 776)]),#[]⟩
noncomputable def x226 (_ : Params) : Obj := ⟨(.type "function"),none,(fnO (tp 71) "_law_signs" "_law_signs" 3 [] .none .none .none (.str "law_sealpress_k45_whole_one_shape" 748) none (.ref 415) .none 0),#[]⟩
noncomputable def x227 (_ : Params) : Obj := ⟨(.type "code"),none,(.fields #[(.str "_law_name" 778),(.str "_law_name" 779),(.str "/claim/cut.py" 780),(.int 274 0),(.int 1 0),(.int 0 0),(.int 0 0),(.int 3 0),(.ref 417),(.bool true),(.int 181 0),(.ref 418),.none,.none,.none,(.ref 419),(.int 781 0),(.int 274 0),(.str "/claim/cut.py" 782)]),#[]⟩
noncomputable def x228 (_ : Params) : Obj := ⟨(.type "function"),none,(fnO (tp 72) "_law_name" "_law_name" 3 [] .none .none .none (.str "law_sealpress_k45_whole_one_shape" 748) none (.ref 420) .none 0),#[]⟩
noncomputable def x229 (_ : Params) : Obj := ⟨(.type "code"),none,(.fields #[(.str "_law_value" 784),(.str "_law_value" 785),(.str "/claim/cut.py" 786),(.int 280 0),(.int 2 0),(.int 0 0),(.int 0 0),(.int 3 0),(.ref 422),(.bool true),(.int 181 0),(.ref 423),.none,.none,.none,(.ref 424),(.int 787 0),(.int 280 0),(.str "/claim/cut.py" 788)]),#[]⟩
noncomputable def x230 (_ : Params) : Obj := ⟨(.type "function"),none,(fnO (tp 73) "_law_value" "_law_value" 3 [] .none .none .none (.str "law_sealpress_k45_whole_one_shape" 748) none (.ref 425) .none 0),#[]⟩
noncomputable def x231 (_ : Params) : Obj := ⟨(.type "code"),none,(.fields #[(.str "_law_parts" 790),(.str "_law_parts" 791),(.str "/claim/cut.py" 792),(.int 285 0),(.int 1 0),(.int 0 0),(.int 0 0),(.int 3 0),(.ref 427),(.bool true),(.int 181 0),(.ref 428),.none,(.ref 429),(.ref 430),(.ref 431),(.int 802 0),(.int 285 0),(.str "/claim/cut.py" 803)]),#[]⟩
noncomputable def x232 (_ : Params) : Obj := ⟨(.type "function"),none,(fnO (tp 74) "_law_parts" "_law_parts" 3 [] .none .none .none (.str "law_sealpress_k45_whole_one_shape" 748) none (.ref 432) .none 0),#[]⟩
noncomputable def x233 (_ : Params) : Obj := ⟨(.type "code"),none,(.fields #[(.str "_law_pressed" 805),(.str "_law_pressed" 806),(.str "/claim/cut.py" 807),(.int 301 0),(.int 2 0),(.int 0 0),(.int 0 0),(.int 3 0),(.ref 434),(.bool true),(.int 181 0),(.ref 435),.none,.none,.none,(.ref 436),(.int 808 0),(.int 301 0),(.str "/claim/cut.py" 809)]),#[]⟩
noncomputable def x234 (_ : Params) : Obj := ⟨(.type "function"),none,(fnO (tp 75) "_law_pressed" "_law_pressed" 3 [] .none .none .none (.str "law_sealpress_k45_whole_one_shape" 748) none (.ref 437) .none 0),#[]⟩
noncomputable def x235 (_ : Params) : Obj := ⟨(.type "code"),none,(.fields #[(.str "_law_values" 811),(.str "_law_values" 812),(.str "/claim/cut.py" 813),(.int 312 0),(.int 2 0),(.int 0 0),(.int 0 0),(.int 3 0),(.ref 439),(.bool true),(.int 181 0),(.ref 440),.none,.none,.none,(.ref 441),(.int 814 0),(.int 312 0),(.str "/claim/cut.py" 815)]),#[]⟩
noncomputable def x236 (_ : Params) : Obj := ⟨(.type "function"),none,(fnO (tp 76) "_law_values" "_law_values" 3 [] .none .none .none (.str "law_sealpress_k45_whole_one_shape" 748) none (.ref 442) .none 0),#[]⟩
noncomputable def x237 (_ : Params) : Obj := ⟨(.type "code"),none,(.fields #[(.str "_law_ran" 817),(.str "_law_ran" 818),(.str "/claim/cut.py" 819),(.int 316 0),(.int 1 0),(.int 0 0),(.int 0 0),(.int 3 0),(.ref 444),(.bool true),(.int 181 0),(.ref 445),.none,(.ref 446),(.ref 447),(.ref 448),(.int 823 0),(.int 316 0),(.str "/claim/cut.py" 824)]),#[]⟩
noncomputable def x238 (_ : Params) : Obj := ⟨(.type "function"),none,(fnO (tp 77) "_law_ran" "_law_ran" 3 [] .none .none .none (.str "law_sealpress_k45_whole_one_shape" 748) none (.ref 449) .none 0),#[]⟩
noncomputable def x239 (_ : Params) : Obj := ⟨(.type "code"),none,(.fields #[(.str "_law_shape" 826),(.str "_law_shape" 827),(.str "/claim/cut.py" 828),(.int 322 0),(.int 1 0),(.int 0 0),(.int 0 0),(.int 3 0),(.ref 451),(.bool true),(.int 181 0),(.ref 452),.none,.none,.none,(.ref 453),(.int 829 0),(.int 322 0),(.str "/claim/cut.py" 830)]),#[]⟩
noncomputable def x240 (_ : Params) : Obj := ⟨(.type "function"),none,(fnO (tp 78) "_law_shape" "_law_shape" 3 [] .none .none .none (.str "law_sealpress_k45_whole_one_shape" 748) none (.ref 454) .none 0),#[]⟩
noncomputable def x241 (_ : Params) : Obj := ⟨(.type "code"),none,(.fields #[(.str "law" 832),(.str "law" 833),(.str "/claim/cut.py" 834),(.int 324 0),(.int 1 0),(.int 0 0),(.int 0 0),(.int 3 0),(.ref 456),(.bool true),(.int 181 0),(.ref 457),.none,.none,.none,(.ref 458),(.int 835 0),(.int 324 0),(.str "/claim/cut.py" 836)]),#[]⟩
noncomputable def x242 (_ : Params) : Obj := ⟨(.type "function"),none,(fnO (tp 79) "law" "law" 3 [] .none .none .none (.str "law_sealpress_k45_whole_one_shape" 748) none (.ref 459) .none 0),#[]⟩
noncomputable def kh0 (P : Params) : PySem.W.Frag := [(2, boot_o_2 P), (3, x209 P), (15, x2 P), (22, x5 P), (23, x9 P), (24, x10 P), (25, x11 P), (40, x21 P), (41, x22 P), (43, x24 P), (44, x25 P), (59, x34 P)]
noncomputable def kh1 (P : Params) : PySem.W.Frag := [(60, x35 P), (62, x37 P), (63, x38 P), (71, x43 P), (72, x44 P), (78, x47 P), (79, x48 P), (85, x51 P), (86, x52 P), (92, x55 P), (93, x56 P), (99, x59 P)]
noncomputable def kh2 (P : Params) : PySem.W.Frag := [(100, x60 P), (106, x63 P), (107, x64 P), (111, x66 P), (112, x67 P), (116, x69 P), (117, x70 P), (123, x73 P), (124, x74 P), (128, x76 P), (129, x77 P), (135, x80 P)]
noncomputable def kh3 (P : Params) : PySem.W.Frag := [(136, x81 P), (142, x84 P), (143, x85 P), (149, x88 P), (150, x89 P), (156, x92 P), (157, x93 P), (163, x96 P), (164, x97 P), (170, x100 P), (171, x101 P), (177, x104 P)]
noncomputable def kh4 (P : Params) : PySem.W.Frag := [(178, x105 P), (184, x108 P), (185, x109 P), (191, x112 P), (192, x113 P), (198, x116 P), (199, x117 P), (205, x120 P), (206, x121 P), (212, x124 P), (213, x125 P), (219, x128 P)]
noncomputable def kh5 (P : Params) : PySem.W.Frag := [(220, x129 P), (226, x132 P), (227, x133 P), (233, x136 P), (234, x137 P), (240, x140 P), (241, x141 P), (247, x144 P), (248, x145 P), (254, x148 P), (255, x149 P), (261, x152 P)]
noncomputable def kh6 (P : Params) : PySem.W.Frag := [(262, x153 P), (268, x156 P), (269, x157 P), (275, x160 P), (276, x161 P), (282, x164 P), (283, x165 P), (289, x168 P), (290, x169 P), (296, x172 P), (297, x173 P), (303, x176 P)]
noncomputable def kh7 (P : Params) : PySem.W.Frag := [(304, x177 P), (310, x180 P), (311, x181 P), (317, x184 P), (318, x185 P), (324, x188 P), (325, x189 P), (331, x192 P), (332, x193 P), (338, x196 P), (339, x197 P), (345, x200 P)]
noncomputable def kh8 (P : Params) : PySem.W.Frag := [(346, x201 P), (352, x204 P), (353, x205 P), (357, x207 P), (358, x208 P), (359, x210 P), (366, x211 P), (367, x212 P), (373, x213 P), (374, x214 P), (380, x215 P), (381, x216 P)]
noncomputable def kh9 (P : Params) : PySem.W.Frag := [(387, x217 P), (388, x218 P), (394, x219 P), (395, x220 P), (401, x221 P), (402, x222 P), (408, x223 P), (409, x224 P), (415, x225 P), (416, x226 P), (420, x227 P), (421, x228 P)]
noncomputable def kh10 (P : Params) : PySem.W.Frag := [(425, x229 P), (426, x230 P), (432, x231 P), (433, x232 P), (437, x233 P), (438, x234 P), (442, x235 P), (443, x236 P), (449, x237 P), (450, x238 P), (454, x239 P), (455, x240 P)]
noncomputable def kh11 (P : Params) : PySem.W.Frag := [(459, x241 P), (460, x242 P)]
noncomputable def kg12_0 (P : Params) : PySem.W.Frag := kh0 P ++ (kh1 P ++ (kh2 P ++ (kh3 P ++ (kh4 P ++ (kh5 P ++ (kh6 P ++ (kh7 P)))))))
noncomputable def kg12_8 (P : Params) : PySem.W.Frag := kh8 P ++ (kh9 P ++ (kh10 P ++ (kh11 P)))
noncomputable def KH (P : Params) : PySem.W.Frag := kg12_0 P ++ (kg12_8 P)
noncomputable def asL : List Addr := [2, 3, 15, 22, 23, 24, 25, 40, 41, 43, 44, 59, 60, 62, 63, 71, 72, 78, 79, 85, 86, 92, 93, 99, 100, 106, 107, 111, 112, 116, 117, 123, 124, 128, 129, 135, 136, 142, 143, 149, 150, 156, 157, 163, 164, 170, 171, 177, 178, 184, 185, 191, 192, 198, 199, 205, 206, 212, 213, 219, 220, 226, 227, 233, 234, 240, 241, 247, 248, 254, 255, 261, 262, 268, 269, 275, 276, 282, 283, 289, 290, 296, 297, 303, 304, 310, 311, 317, 318, 324, 325, 331, 332, 338, 339, 345, 346, 352, 353, 357, 358, 359, 366, 367, 373, 374, 380, 381, 387, 388, 394, 395, 401, 402, 408, 409, 415, 416, 420, 421, 425, 426, 432, 433, 437, 438, 442, 443, 449, 450, 454, 455, 459, 460]
theorem as_eq (P : Params) : asL = (KH P).map (fun p => p.1) := by kernel_rfl
@[reducible] noncomputable def HK : Hook := kHook KH asL as_eq
noncomputable def obs0 (s : Shared) : List (Option Obj) := asL.map s.heap.get?
noncomputable def val0 (w : World) : List (Option Obj) := (KH w.params).map fun p => some p.2
noncomputable def tb0 (P : Params) : BT := .node (boot_o_0 P) (.node (boot_o_1 P) (.node (boot_o_3 P) (.node (boot_o_7 P) .nil .nil) (.node (o11 P) .nil .nil)) (.node (boot_o_5 P) (.node (boot_o_9 P) .nil .nil) (.node (o13 P) .nil .nil)))
  (.node (boot_o_2 P) (.node (boot_o_4 P) (.node (boot_o_8 P) .nil .nil) (.node (o12 P) .nil .nil)) (.node (boot_o_6 P) (.node (boot_o_10 P) .nil .nil) (.node (o14 P) .nil .nil)))
noncomputable def sB (w : World) (os : OsState) : SharedT := ⟨tb0 w.params, 15, {}, #[], {}, 187, os⟩
noncomputable def env0 : Env := { scope := pw.main.scope, locals := mainNs, globals := mainNs, cells := [], code := .ref 13, frame := some 14 }
noncomputable def body0 : List Stmt := behindTheImports pw
noncomputable def cE : Code := .body body0 env0
noncomputable def pos0 : Pos := ⟨0, 0, 0, 0⟩
noncomputable def B0 : List Frame := [topFrame pos0]
noncomputable def ann0 : Option Value := some (.ref 6)
noncomputable def qvw : Program := view pw [1, 2, 3, 5, 6, 7, 8, 9, 10, 11, 12, 13, 15, 16, 18, 20, 21, 22, 24, 26, 27, 28, 29, 31, 32, 33, 34, 35, 36, 37, 38, 39, 40, 41, 42, 43, 44, 45, 46, 47, 48, 49, 50, 51, 52, 53, 54, 55, 56, 57, 58, 59, 60, 61, 62, 64, 65, 66, 67, 69, 70, 71, 72, 73, 74, 75, 76, 77, 78, 79]
noncomputable def loose0 : List Str := ["MODES"]
noncomputable def mods : List Str := importedModules pw.main.body
noncomputable def Xt0 (s : Shared) : Bool := xlAt qvw [] s && recOk (RowW.records (OpenRow.toRowW (OpenLaw.row PySem.Challenge.rw_sealpress_k45_whole_one_shape))) s
noncomputable def lookF (w : World) (r : Flow × SharedT × Code × Pos) := (r.1, r.2.2.1, (staticsOk mods (boot_heap w.params) r.2.1.abs.heap && namesBound pw r.2.1.abs.heap && gensDone r.2.1.abs && laidKept (boot_heap w.params) r.2.1.abs.heap), obs0 r.2.1.abs)
noncomputable def lookG (r : Flow × SharedT × Code × Pos) := openSeen qvw loose0 mods Xt0 true r.2.1.abs
noncomputable def t0_1 (P : Params) : BT := (.node (x38 P) (.node (x75 P) (.node (x149 P) .nil .nil) .nil) (.node (x112 P) (.node (x5 P) .nil .nil) .nil))
noncomputable def t0_2 (P : Params) : BT := (.node (x6 P) (.node (x6 P) (.node (x5 P) .nil .nil) .nil) (.node (x130 P) (.node (x203 P) .nil .nil) .nil))
noncomputable def t0_3 (P : Params) : BT := (.node (x48 P) (.node (x85 P) (.node (x6 P) .nil .nil) .nil) (.node (x5 P) (.node (x194 P) .nil .nil) .nil))
noncomputable def t0_4 (P : Params) : BT := (.node (x66 P) (.node (x5 P) (.node (x176 P) .nil .nil) .nil) (.node (x139 P) .nil .nil))
noncomputable def t0_5 (P : Params) : BT := (.node (x43 P) (.node (x80 P) (.node (x5 P) .nil .nil) .nil) (.node (x117 P) (.node (x6 P) .nil .nil) .nil))
noncomputable def t0_6 (P : Params) : BT := (.node (x61 P) (.node (x98 P) (.node (x171 P) .nil .nil) .nil) (.node (x5 P) .nil .nil))
noncomputable def t0_7 (P : Params) : BT := (.node (x5 P) (.node (x5 P) (.node (x162 P) .nil .nil) .nil) (.node (x6 P) (.node (x5 P) .nil .nil) .nil))
noncomputable def t0_8 (P : Params) : BT := (.node (x6 P) (.node (x107 P) (.node (x181 P) .nil .nil) .nil) (.node (x144 P) .nil .nil))
noncomputable def t0_0 (P : Params) : BT := (.node (boot_o_7 P) (.node (x2 P) (.node (x5 P) (t0_1 P) (t0_2 P)) (.node (x14 P) (t0_3 P) (t0_4 P))) (.node (x9 P) (.node (x20 P) (t0_5 P) (t0_6 P)) (.node (x6 P) (t0_7 P) (t0_8 P))))
noncomputable def t0_10 (P : Params) : BT := (.node (x6 P) (.node (x6 P) (.node (x5 P) .nil .nil) .nil) (.node (x114 P) (.node (x187 P) .nil .nil) .nil))
noncomputable def t0_11 (P : Params) : BT := (.node (x59 P) (.node (x96 P) (.node (x5 P) .nil .nil) .nil) (.node (x133 P) (.node (x6 P) .nil .nil) .nil))
noncomputable def t0_12 (P : Params) : BT := (.node (x5 P) (.node (x5 P) (.node (x160 P) .nil .nil) .nil) (.node (x123 P) (.node (x197 P) .nil .nil) .nil))
noncomputable def t0_13 (P : Params) : BT := (.node (x68 P) (.node (x5 P) (.node (x178 P) .nil .nil) .nil) (.node (x6 P) .nil .nil))
noncomputable def t0_14 (P : Params) : BT := (.node (x45 P) (.node (x82 P) (.node (x155 P) .nil .nil) .nil) (.node (x5 P) (.node (x192 P) .nil .nil) .nil))
noncomputable def t0_15 (P : Params) : BT := (.node (x64 P) (.node (x101 P) (.node (x6 P) .nil .nil) .nil) (.node (x5 P) .nil .nil))
noncomputable def t0_16 (P : Params) : BT := (.node (x54 P) (.node (x91 P) (.node (x165 P) .nil .nil) .nil) (.node (x128 P) (.node (x5 P) .nil .nil) .nil))
noncomputable def t0_17 (P : Params) : BT := (.node (x73 P) (.node (x6 P) (.node (x5 P) .nil .nil) .nil) (.node (x146 P) .nil .nil))
noncomputable def t0_9 (P : Params) : BT := (.node (o11 P) (.node (x6 P) (.node (x5 P) (t0_10 P) (t0_11 P)) (.node (x29 P) (t0_12 P) (t0_13 P))) (.node (x13 P) (.node (x24 P) (t0_14 P) (t0_15 P)) (.node (x34 P) (t0_16 P) (t0_17 P))))
noncomputable def t0_19 (P : Params) : BT := (.node (x40 P) (.node (x77 P) (.node (x6 P) .nil .nil) .nil) (.node (x5 P) (.node (x186 P) .nil .nil) .nil))
noncomputable def t0_20 (P : Params) : BT := (.node (x5 P) (.node (x5 P) (.node (x168 P) .nil .nil) .nil) (.node (x131 P) (.node (x205 P) .nil .nil) .nil))
noncomputable def t0_21 (P : Params) : BT := (.node (x6 P) (.node (x6 P) (.node (x5 P) .nil .nil) .nil) (.node (x122 P) (.node (x195 P) .nil .nil) .nil))
noncomputable def t0_22 (P : Params) : BT := (.node (x5 P) (.node (x104 P) (.node (x5 P) .nil .nil) .nil) (.node (x141 P) .nil .nil))
noncomputable def t0_23 (P : Params) : BT := (.node (x5 P) (.node (x5 P) (.node (x154 P) .nil .nil) .nil) (.node (x6 P) (.node (x5 P) .nil .nil) .nil))
noncomputable def t0_24 (P : Params) : BT := (.node (x62 P) (.node (x99 P) (.node (x173 P) .nil .nil) .nil) (.node (x136 P) .nil .nil))
noncomputable def t0_25 (P : Params) : BT := (.node (x53 P) (.node (x90 P) (.node (x163 P) .nil .nil) .nil) (.node (x5 P) (.node (x200 P) .nil .nil) .nil))
noncomputable def t0_26 (P : Params) : BT := (.node (x5 P) (.node (x109 P) (.node (x6 P) .nil .nil) .nil) (.node (x5 P) .nil .nil))
noncomputable def t0_18 (P : Params) : BT := (.node (boot_o_9 P) (.node (x4 P) (.node (x17 P) (t0_19 P) (t0_20 P)) (.node (x28 P) (t0_21 P) (t0_22 P))) (.node (x11 P) (.node (x22 P) (t0_23 P) (t0_24 P)) (.node (x5 P) (t0_25 P) (t0_26 P))))
noncomputable def t0_28 (P : Params) : BT := (.node (x5 P) (.node (x5 P) (.node (x152 P) .nil .nil) .nil) (.node (x115 P) (.node (x189 P) .nil .nil) .nil))
noncomputable def t0_29 (P : Params) : BT := (.node (x5 P) (.node (x5 P) (.node (x170 P) .nil .nil) .nil) (.node (x6 P) (.node (x207 P) .nil .nil) .nil))
noncomputable def t0_30 (P : Params) : BT := (.node (x51 P) (.node (x88 P) (.node (x5 P) .nil .nil) .nil) (.node (x125 P) (.node (x6 P) .nil .nil) .nil))
noncomputable def t0_31 (P : Params) : BT := (.node (x70 P) (.node (x106 P) (.node (x179 P) .nil .nil) .nil) (.node (x5 P) .nil .nil))
noncomputable def t0_32 (P : Params) : BT := (.node (x46 P) (.node (x83 P) (.node (x157 P) .nil .nil) .nil) (.node (x120 P) (.node (x5 P) .nil .nil) .nil))
noncomputable def t0_33 (P : Params) : BT := (.node (x6 P) (.node (x6 P) (.node (x5 P) .nil .nil) .nil) (.node (x138 P) .nil .nil))
noncomputable def t0_34 (P : Params) : BT := (.node (x56 P) (.node (x93 P) (.node (x6 P) .nil .nil) .nil) (.node (x5 P) (.node (x202 P) .nil .nil) .nil))
noncomputable def t0_35 (P : Params) : BT := (.node (x5 P) (.node (x5 P) (.node (x184 P) .nil .nil) .nil) (.node (x147 P) .nil .nil))
noncomputable def t0_27 (P : Params) : BT := (.node (o13 P) (.node (x8 P) (.node (x19 P) (t0_28 P) (t0_29 P)) (.node (x31 P) (t0_30 P) (t0_31 P))) (.node (x3 P) (.node (x26 P) (t0_32 P) (t0_33 P)) (.node (x36 P) (t0_34 P) (t0_35 P))))
noncomputable def t0_37 (P : Params) : BT := (.node (x39 P) (.node (x76 P) (.node (x5 P) .nil .nil) .nil) (.node (x113 P) (.node (x6 P) .nil .nil) .nil))
noncomputable def t0_38 (P : Params) : BT := (.node (x57 P) (.node (x94 P) (.node (x167 P) .nil .nil) .nil) (.node (x5 P) (.node (x204 P) .nil .nil) .nil))
noncomputable def t0_39 (P : Params) : BT := (.node (x5 P) (.node (x5 P) (.node (x158 P) .nil .nil) .nil) (.node (x6 P) (.node (x5 P) .nil .nil) .nil))
noncomputable def t0_40 (P : Params) : BT := (.node (x67 P) (.node (x103 P) (.node (x177 P) .nil .nil) .nil) (.node (x140 P) .nil .nil))
noncomputable def t0_41 (P : Params) : BT := (.node (x44 P) (.node (x81 P) (.node (x6 P) .nil .nil) .nil) (.node (x5 P) (.node (x190 P) .nil .nil) .nil))
noncomputable def t0_42 (P : Params) : BT := (.node (x5 P) (.node (x5 P) (.node (x172 P) .nil .nil) .nil) (.node (x135 P) .nil .nil))
noncomputable def t0_43 (P : Params) : BT := (.node (x6 P) (.node (x6 P) (.node (x5 P) .nil .nil) .nil) (.node (x126 P) (.node (x199 P) .nil .nil) .nil))
noncomputable def t0_44 (P : Params) : BT := (.node (x71 P) (.node (x108 P) (.node (x5 P) .nil .nil) .nil) (.node (x145 P) .nil .nil))
noncomputable def t0_36 (P : Params) : BT := (.node (boot_o_8 P) (.node (x3 P) (.node (x16 P) (t0_37 P) (t0_38 P)) (.node (x3 P) (t0_39 P) (t0_40 P))) (.node (x10 P) (.node (x21 P) (t0_41 P) (t0_42 P)) (.node (x32 P) (t0_43 P) (t0_44 P))))
noncomputable def t0_46 (P : Params) : BT := (.node (x41 P) (.node (x78 P) (.node (x151 P) .nil .nil) .nil) (.node (x5 P) (.node (x188 P) .nil .nil) .nil))
noncomputable def t0_47 (P : Params) : BT := (.node (x60 P) (.node (x97 P) (.node (x6 P) .nil .nil) .nil) (.node (x5 P) (.node (x206 P) .nil .nil) .nil))
noncomputable def t0_48 (P : Params) : BT := (.node (x50 P) (.node (x87 P) (.node (x161 P) .nil .nil) .nil) (.node (x124 P) (.node (x5 P) .nil .nil) .nil))
noncomputable def t0_49 (P : Params) : BT := (.node (x69 P) (.node (x6 P) (.node (x5 P) .nil .nil) .nil) (.node (x142 P) .nil .nil))
noncomputable def t0_50 (P : Params) : BT := (.node (x5 P) (.node (x5 P) (.node (x156 P) .nil .nil) .nil) (.node (x119 P) (.node (x193 P) .nil .nil) .nil))
noncomputable def t0_51 (P : Params) : BT := (.node (x5 P) (.node (x5 P) (.node (x174 P) .nil .nil) .nil) (.node (x6 P) .nil .nil))
noncomputable def t0_52 (P : Params) : BT := (.node (x55 P) (.node (x92 P) (.node (x5 P) .nil .nil) .nil) (.node (x129 P) (.node (x6 P) .nil .nil) .nil))
noncomputable def t0_53 (P : Params) : BT := (.node (x74 P) (.node (x110 P) (.node (x183 P) .nil .nil) .nil) (.node (x5 P) .nil .nil))
noncomputable def t0_45 (P : Params) : BT := (.node (x1 P) (.node (x7 P) (.node (x6 P) (t0_46 P) (t0_47 P)) (.node (x30 P) (t0_48 P) (t0_49 P))) (.node (x14 P) (.node (x25 P) (t0_50 P) (t0_51 P)) (.node (x35 P) (t0_52 P) (t0_53 P))))
noncomputable def t0_55 (P : Params) : BT := (.node (x5 P) (.node (x5 P) (.node (x150 P) .nil .nil) .nil) (.node (x6 P) (.node (x5 P) .nil .nil) .nil))
noncomputable def t0_56 (P : Params) : BT := (.node (x58 P) (.node (x95 P) (.node (x169 P) .nil .nil) .nil) (.node (x132 P) (.node (x5 P) .nil .nil) .nil))
noncomputable def t0_57 (P : Params) : BT := (.node (x49 P) (.node (x86 P) (.node (x159 P) .nil .nil) .nil) (.node (x5 P) (.node (x196 P) .nil .nil) .nil))
noncomputable def t0_58 (P : Params) : BT := (.node (x6 P) (.node (x105 P) (.node (x6 P) .nil .nil) .nil) (.node (x5 P) .nil .nil))
noncomputable def t0_59 (P : Params) : BT := (.node (x6 P) (.node (x6 P) (.node (x5 P) .nil .nil) .nil) (.node (x118 P) (.node (x191 P) .nil .nil) .nil))
noncomputable def t0_60 (P : Params) : BT := (.node (x63 P) (.node (x100 P) (.node (x5 P) .nil .nil) .nil) (.node (x137 P) .nil .nil))
noncomputable def t0_61 (P : Params) : BT := (.node (x5 P) (.node (x5 P) (.node (x164 P) .nil .nil) .nil) (.node (x127 P) (.node (x201 P) .nil .nil) .nil))
noncomputable def t0_62 (P : Params) : BT := (.node (x72 P) (.node (x5 P) (.node (x182 P) .nil .nil) .nil) (.node (x6 P) .nil .nil))
noncomputable def t0_54 (P : Params) : BT := (.node (boot_o_10 P) (.node (x5 P) (.node (x18 P) (t0_55 P) (t0_56 P)) (.node (x5 P) (t0_57 P) (t0_58 P))) (.node (x12 P) (.node (x23 P) (t0_59 P) (t0_60 P)) (.node (x33 P) (t0_61 P) (t0_62 P))))
noncomputable def t0_64 (P : Params) : BT := (.node (x42 P) (.node (x79 P) (.node (x153 P) .nil .nil) .nil) (.node (x116 P) (.node (x5 P) .nil .nil) .nil))
noncomputable def t0_65 (P : Params) : BT := (.node (x6 P) (.node (x6 P) (.node (x5 P) .nil .nil) .nil) (.node (x134 P) (.node (x208 P) .nil .nil) .nil))
noncomputable def t0_66 (P : Params) : BT := (.node (x52 P) (.node (x89 P) (.node (x6 P) .nil .nil) .nil) (.node (x5 P) (.node (x198 P) .nil .nil) .nil))
noncomputable def t0_67 (P : Params) : BT := (.node (x5 P) (.node (x5 P) (.node (x180 P) .nil .nil) .nil) (.node (x143 P) .nil .nil))
noncomputable def t0_68 (P : Params) : BT := (.node (x47 P) (.node (x84 P) (.node (x5 P) .nil .nil) .nil) (.node (x121 P) (.node (x6 P) .nil .nil) .nil))
noncomputable def t0_69 (P : Params) : BT := (.node (x65 P) (.node (x102 P) (.node (x175 P) .nil .nil) .nil) (.node (x5 P) .nil .nil))
noncomputable def t0_70 (P : Params) : BT := (.node (x5 P) (.node (x5 P) (.node (x166 P) .nil .nil) .nil) (.node (x6 P) (.node (x5 P) .nil .nil) .nil))
noncomputable def t0_71 (P : Params) : BT := (.node (x6 P) (.node (x111 P) (.node (x185 P) .nil .nil) .nil) (.node (x148 P) .nil .nil))
noncomputable def t0_63 (P : Params) : BT := (.node (o14 P) (.node (x5 P) (.node (x5 P) (t0_64 P) (t0_65 P)) (.node (x5 P) (t0_66 P) (t0_67 P))) (.node (x15 P) (.node (x27 P) (t0_68 P) (t0_69 P)) (.node (x37 P) (t0_70 P) (t0_71 P))))
noncomputable def tr0 (P : Params) : BT := (.node (boot_o_0 P) (.node (boot_o_1 P) (.node (x0 P) (t0_0 P) (t0_9 P)) (.node (boot_o_5 P) (t0_18 P) (t0_27 P))) (.node (boot_o_2 P) (.node (boot_o_4 P) (t0_36 P) (t0_45 P)) (.node (boot_o_6 P) (t0_54 P) (t0_63 P))))
noncomputable def sC0 (w : World) (os : OsState) : SharedT := ⟨tr0 w.params, 359, {}, #[], {}, 662, os⟩
noncomputable def ck0 : List Stmt := body0.take 61
noncomputable def ck1 : List Stmt := body0.drop 61
noncomputable def lhsC0 (w : World) (os : OsState) := segRunT treeTable pw w 11 ann0 1 2128 (sB w os) (piecesOf ck0 env0 cE pos0 B0)
noncomputable def rhsC0 (w : World) (os : OsState) : Option (Flow × SharedT × Code × Pos) := some (Flow.next, sC0 w os, cE, (⟨225,0,234,60⟩ : Pos))
theorem lhsC0_r : @lhsC0 = @lhsC0 := rfl
theorem rhsC0_r : @rhsC0 = @rhsC0 := rfl
name_quick lhsC0Q for My.lhsC0 by My.lhsC0_r
name_quick rhsC0Q for My.rhsC0 by My.rhsC0_r
theorem krfC0 (w : World) : PySem.W.Fast.lhsC0Q (w.withFollow "special-get-raises" false) = PySem.W.Fast.rhsC0Q (w.withFollow "special-get-raises" false) := by kernel_rfl
theorem krtC0 (w : World) : PySem.W.Fast.lhsC0Q (w.withFollow "special-get-raises" true) = PySem.W.Fast.rhsC0Q (w.withFollow "special-get-raises" true) := by kernel_rfl
theorem krC0 (w : World) : PySem.W.Fast.lhsC0Q w = PySem.W.Fast.rhsC0Q w := byRow2 "special-get-raises" (P := fun w => PySem.W.Fast.lhsC0Q w = PySem.W.Fast.rhsC0Q w) krfC0 krtC0 w
theorem run_allC0 (w : World) : lhsC0 w = rhsC0 w := (congrFun PySem.W.Fast.lhsC0Q_eq w).trans ((krC0 w).trans (congrFun PySem.W.Fast.rhsC0Q_eq w).symm)
noncomputable def lhs (w : World) (os : OsState) := (segRunT treeTable pw w 11 ann0 1 944 (sC0 w os) (piecesOf ck1 env0 cE (⟨225,0,234,60⟩ : Pos) B0)).map (lookF w)
noncomputable def rhs (w : World) (_ : OsState) := some (Flow.next, cE, true, val0 w)
noncomputable def lhsG (w : World) (os : OsState) := (segRunT treeTable pw w 11 ann0 1 944 (sC0 w os) (piecesOf ck1 env0 cE (⟨225,0,234,60⟩ : Pos) B0)).map lookG
noncomputable def rhsG (_ : World) (_ : OsState) := some (openGood qvw loose0)
theorem lhs_r : @lhs = @lhs := rfl
theorem rhs_r : @rhs = @rhs := rfl
name_quick lhsQ for My.lhs by My.lhs_r
name_quick rhsQ for My.rhs by My.rhs_r
theorem krf (w : World) : PySem.W.Fast.lhsQ (w.withFollow "special-get-raises" false) = PySem.W.Fast.rhsQ (w.withFollow "special-get-raises" false) := by kernel_rfl
theorem krt (w : World) : PySem.W.Fast.lhsQ (w.withFollow "special-get-raises" true) = PySem.W.Fast.rhsQ (w.withFollow "special-get-raises" true) := by kernel_rfl
theorem kr (w : World) : PySem.W.Fast.lhsQ w = PySem.W.Fast.rhsQ w := byRow2 "special-get-raises" (P := fun w => PySem.W.Fast.lhsQ w = PySem.W.Fast.rhsQ w) krf krt w
theorem run_all (w : World) : lhs w = rhs w := (congrFun PySem.W.Fast.lhsQ_eq w).trans ((kr w).trans (congrFun PySem.W.Fast.rhsQ_eq w).symm)
theorem lhsG_r : @lhsG = @lhsG := rfl
theorem rhsG_r : @rhsG = @rhsG := rfl
name_quick lhsGQ for My.lhsG by My.lhsG_r
name_quick rhsGQ for My.rhsG by My.rhsG_r
theorem krfG (w : World) : PySem.W.Fast.lhsGQ (w.withFollow "special-get-raises" false) = PySem.W.Fast.rhsGQ (w.withFollow "special-get-raises" false) := by kernel_rfl
theorem krtG (w : World) : PySem.W.Fast.lhsGQ (w.withFollow "special-get-raises" true) = PySem.W.Fast.rhsGQ (w.withFollow "special-get-raises" true) := by kernel_rfl
theorem krG (w : World) : PySem.W.Fast.lhsGQ w = PySem.W.Fast.rhsGQ w := byRow2 "special-get-raises" (P := fun w => PySem.W.Fast.lhsGQ w = PySem.W.Fast.rhsGQ w) krfG krtG w
theorem run_allG (w : World) : lhsG w = rhsG w := (congrFun PySem.W.Fast.lhsGQ_eq w).trans ((krG w).trans (congrFun PySem.W.Fast.rhsGQ_eq w).symm)
noncomputable def lhs1 (w : World) (os : OsState) := topGo treeTable pw w 11 ann0 12 ⟨boot_heap w.params, #[], boot_drawn, boot_toks, os⟩ (topStub pw)
noncomputable def rhs1 (w : World) (os : OsState) : Option (Shared × Thread) := some ((sB w os).abs, ⟨denote treeTable cE, cE, pos0, B0⟩)
theorem lhs1_r : @lhs1 = @lhs1 := rfl
theorem rhs1_r : @rhs1 = @rhs1 := rfl
name_quick lhs1Q for My.lhs1 by My.lhs1_r
name_quick rhs1Q for My.rhs1 by My.rhs1_r
theorem kr1 (w : World) : PySem.W.Fast.lhs1Q w = PySem.W.Fast.rhs1Q w := by kernel_rfl
theorem run_1 (w : World) : lhs1 w = rhs1 w := (congrFun PySem.W.Fast.lhs1Q_eq w).trans ((kr1 w).trans (congrFun PySem.W.Fast.rhs1Q_eq w).symm)
noncomputable def lhs2 (w : World) (os : OsState) := segRun treeTable pw w 11 ann0 1 1 (sB w os).abs (blockOf body0 env0 cE pos0 B0)
noncomputable def rhs2 (w : World) (os : OsState) : Option (Flow × Shared × Code × Pos) := some (.next, (sB w os).abs, cE, pos0)
theorem lhs2_r : @lhs2 = @lhs2 := rfl
theorem rhs2_r : @rhs2 = @rhs2 := rfl
name_quick lhs2Q for My.lhs2 by My.lhs2_r
name_quick rhs2Q for My.rhs2 by My.rhs2_r
theorem kr2 (w : World) : PySem.W.Fast.lhs2Q w = PySem.W.Fast.rhs2Q w := by kernel_rfl
theorem run_2 (w : World) : lhs2 w = rhs2 w := (congrFun PySem.W.Fast.lhs2Q_eq w).trans ((kr2 w).trans (congrFun PySem.W.Fast.rhs2Q_eq w).symm)
noncomputable def lhs3 (w : World) : Bool × Nat × Option Value := ((boot_heap w.params).isNs mainGlobals && (#[] : Array GenState).size == 0, (boot_heap w.params).objs.size, (boot_heap w.params).nsMap mainGlobals "__annotations__")
theorem lhs3_r : @lhs3 = @lhs3 := rfl
name_quick lhs3Q for My.lhs3 by My.lhs3_r
theorem kr3 (w : World) : PySem.W.Fast.lhs3Q w = (true, 11, ann0) := by kernel_rfl
theorem run_3 (w : World) : lhs3 w = (true, 11, ann0) := (congrFun PySem.W.Fast.lhs3Q_eq w).trans (kr3 w)
theorem fin0 (w : World) (s : Shared) (q : Pos) : topRun treeTable pw w 11 ann0 2 s (restOf [] env0 cE q B0) = some s := rfl
theorem cut_all : body0 = ck0 ++ (ck1 ++ []) := by
  rw [List.append_nil]
  unfold ck0 ck1
  exact (List.take_append_drop _ _).symm
theorem top_all (w : World) (os : OsState) : ∃ s : Shared, topRun treeTable pw w 11 ann0 (12 + (1 + (2128 + (944 + 2)))) ⟨boot_heap w.params, #[], boot_drawn, boot_toks, os⟩ (topStub pw) = some s ∧
    (staticsOk mods (boot_heap w.params) s.heap && namesBound pw s.heap && gensDone s && laidKept (boot_heap w.params) s.heap) = true ∧ openSeen qvw loose0 mods Xt0 true s = openGood qvw loose0 ∧ obs0 s = val0 w := by
  obtain ⟨⟨f, s, c, q⟩, hr, hF⟩ := Option.map_eq_some_iff.mp (congrFun (run_all w) os)
  unfold lookF at hF
  simp only [Prod.mk.injEq] at hF
  obtain ⟨rfl, rfl, h1, h3⟩ := hF
  have h2 : openSeen qvw loose0 mods Xt0 true s.abs = openGood qvw loose0 := by
    have hG := congrFun (run_allG w) os
    unfold lhsG rhsG at hG
    rw [hr, Option.map_some] at hG
    exact Option.some.inj hG
  refine ⟨s.abs, ?_, h1, h2, h3⟩
  refine go_top (congrFun (run_1 w) os) (piece_block (congrFun (run_2 w) os) ?_)
  rw [show restOf body0 env0 cE pos0 [topFrame pos0] = restOf (ck0 ++ (ck1 ++ [])) env0 cE pos0 [topFrame pos0] from congrArg (fun x => restOf x env0 cE pos0 [topFrame pos0]) cut_all]
  exact (piece_app (segRun_of (congrFun (run_allC0 w) os)) (piece_app (segRun_of hr) (fin0 w s.abs q)))
theorem boot0 (w : World) : (fencedOpening treeTable pw w 3187).map (fun s => (s.heap, s.gens, s.drawn, s.toks)) = some (boot_heap w.params, Array.mk [], boot_drawn, boot_toks) := boot_open (p := pw) (N := 3187) (by kernel_rfl) (by kernel_rfl) (fun _ => rfl) w
theorem left : LeftO pw qvw loose0 Xt0 HK.obs HK.val 3187 := L2.left_run (M := 12 + (1 + (2128 + (944 + 2)))) (m0 := 11) (ann := ann0) boot0 run_3 top_all (by decide)
end My
set_option maxHeartbeats 1000000

namespace L2
open PySem PySem.Spec PyProof.Rows


abbrev Key := Sum Int Str
def keyIs : Key → Value → Bool
  | .inl k, v => Value.isInt k v
  | .inr x, v => Value.isStrOf x v
def keyH (w : World) : Key → Int
  | .inl k => hashInt k
  | .inr x => hashStr w x
theorem keyIs_shape : ∀ {k : Key} {v : Value}, keyIs k v = true → (∃ i t, k = Sum.inl i ∧ v = Value.int i t) ∨ (∃ x t, k = Sum.inr x ∧ v = Value.str x t)
  | .inl i, v, h => by
    obtain ⟨t, e⟩ := Value.isInt_shape (k := i) (v := v) h
    exact .inl ⟨i, t, rfl, e⟩
  | .inr x, v, h => by
    obtain ⟨t, e⟩ := Value.isStrOf_shape (x := x) (v := v) h
    exact .inr ⟨x, t, rfl, e⟩
theorem keyIs_int (i : Int) (t : Tok) : keyIs (.inl i) (.int i t) = true := by simp [keyIs, Value.isInt]
theorem keyIs_str (x : Str) (t : Tok) : keyIs (.inr x) (.str x t) = true := by simp [keyIs, Value.isStrOf]
theorem key_ll (a b : Int) : decide ((Sum.inl a : Key) = Sum.inl b) = (a == b) := by
  by_cases e : a = b
  · subst e; simp
  · have h : ¬ (Sum.inl a : Key) = Sum.inl b := fun q => e (Sum.inl.inj q)
    rw [decide_eq_false h]
    exact (beq_eq_false_iff_ne.mpr e).symm
theorem key_rr (a b : Str) : decide ((Sum.inr a : Key) = Sum.inr b) = decide (a = b) := by
  by_cases e : a = b
  · subst e; simp
  · have h : ¬ (Sum.inr a : Key) = Sum.inr b := fun q => e (Sum.inr.inj q)
    rw [decide_eq_false h, decide_eq_false e]
theorem key_lr (a : Int) (b : Str) : decide ((Sum.inl a : Key) = Sum.inr b) = false := decide_eq_false (fun q => nomatch q)
theorem key_rl (a : Str) (b : Int) : decide ((Sum.inr a : Key) = Sum.inl b) = false := decide_eq_false (fun q => nomatch q)

def mixKind (prog : Program) (w : World) : PySem.KeyKind prog w Key where
  is := keyIs
  hash := keyH w
  inj := fun v a b ha hb => by
    rcases keyIs_shape ha with ⟨i, t, rfl, rfl⟩ | ⟨x, t, rfl, rfl⟩
    · rcases keyIs_shape hb with ⟨j, u, rfl, e⟩ | ⟨y, u, rfl, e⟩
      · injection e with e1 _; rw [e1]
      · exact nomatch e
    · rcases keyIs_shape hb with ⟨j, u, rfl, e⟩ | ⟨y, u, rfl, e⟩
      · exact nomatch e
      · injection e with e1 _; rw [e1]
  byValue := fun k v h => by
    rcases keyIs_shape h with ⟨i, t, rfl, rfl⟩ | ⟨x, t, rfl, rfl⟩ <;> rfl
  pyHash := fun hv h => by
    rcases keyIs_shape hv with ⟨i, t, rfl, rfl⟩ | ⟨x, t, rfl, rfl⟩
    · exact wpAny_pyHash_int h
    · exact wpAny_pyHash_str h
  eqBool := fun hu hv h => by
    rcases keyIs_shape hu with ⟨i, t, rfl, rfl⟩ | ⟨x, t, rfl, rfl⟩
    · rcases keyIs_shape hv with ⟨j, u, rfl, rfl⟩ | ⟨y, u, rfl, rfl⟩
      · rw [key_ll] at h; exact wpAny_eqBool_int h
      · rw [key_lr] at h; exact SeqAt.EqAt.int_str i t y u _ _ _ _ h
    · rcases keyIs_shape hv with ⟨j, u, rfl, rfl⟩ | ⟨y, u, rfl, rfl⟩
      · rw [key_rl] at h; exact SeqAt.EqAt.str_int x t j u _ _ _ _ h
      · rw [key_rr] at h; exact wpAny_eqBool_str h
  «strs» := fun k x t v h => by
    rcases keyIs_shape h with ⟨i, u, rfl, e⟩ | ⟨y, u, rfl, e⟩
    · exact nomatch e
    · injection e with e1 _
      subst e1
      cases v <;> rfl

theorem mixKind_int (prog : Program) (w : World) (i : Int) (t : Tok) : (mixKind prog w).is (.inl i) (.int i t) = true := keyIs_int i t
theorem mixKind_str (prog : Program) (w : World) (x : Str) (t : Tok) : (mixKind prog w).is (.inr x) (.str x t) = true := keyIs_str x t
end L2

namespace L2
open PySem PySem.Spec PyProof.Rows


inductive V where
  | non | bl (b : Bool) | int (i : Int) | str (x : Str) | byt (b : Array UInt8) | flt (b : UInt64) | ref (a : Addr) | ty (n : String)
  deriving DecidableEq

def RelV : V → Value → Prop
  | .non, u => u = Value.none
  | .bl b, u => u = Value.bool b
  | .int i, u => ∃ t, u = Value.int i t
  | .str x, u => ∃ t, u = Value.str x t
  | .byt b, u => ∃ t, u = Value.bytes b t
  | .flt b, u => ∃ t, u = Value.float b t
  | .ref a, u => u = Value.ref a
  | .ty n, u => u = Value.type n

abbrev Vals : List V → List Value → Prop := Paired RelV
theorem Vals.length {xs : List V} {us : List Value} (r : Vals xs us) : xs.length = us.length := Paired.length r
theorem Vals.get : ∀ {xs : List V} {us : List Value} {i : Nat} {x : V}, Vals xs us → xs[i]? = some x → ∃ u, us[i]? = some u ∧ RelV x u
  | _, _, _, _, .nil, e => by simp at e
  | _, _, 0, _, .cons r _, e => by simp at e; subst e; exact ⟨_, rfl, r⟩
  | _, _, i + 1, x, .cons _ t, e => by
    obtain ⟨u, h1, h2⟩ := Vals.get (i := i) (x := x) t (by simpa using e)
    exact ⟨u, by simpa using h1, h2⟩
theorem Vals.set {x : V} {u : Value} (r : RelV x u) : ∀ {xs : List V} {us : List Value} (i : Nat), Vals xs us → Vals (xs.set i x) (us.set i u)
  | _, _, _, .nil => .nil
  | _, _, 0, .cons _ t => .cons r t
  | _, _, i + 1, .cons q t => .cons q (Vals.set r i t)
theorem Vals.append : ∀ {xs ys : List V} {us ws : List Value}, Vals xs us → Vals ys ws → Vals (xs ++ ys) (us ++ ws)
  | _, _, _, _, .nil, s => s
  | _, _, _, _, .cons r t, s => .cons r (Vals.append t s)
theorem Vals.take : ∀ {xs : List V} {us : List Value} (n : Nat), Vals xs us → Vals (xs.take n) (us.take n)
  | _, _, 0, _ => .nil
  | _, _, _ + 1, .nil => .nil
  | _, _, n + 1, .cons r t => .cons r (Vals.take n t)
theorem Vals.drop : ∀ {xs : List V} {us : List Value} (n : Nat), Vals xs us → Vals (xs.drop n) (us.drop n)
  | _, _, 0, r => r
  | _, _, _ + 1, .nil => .nil
  | _, _, n + 1, .cons _ t => Vals.drop n t
def RelO : Option V → Option Value → Prop
  | some v, some u => RelV v u
  | none, none => True
  | _, _ => False
def KV {κ : Type} : List (κ × V) → List (κ × Value) → Prop := Paired fun (p : κ × V) (q : κ × Value) => p.1 = q.1 ∧ RelV p.2 q.2


def kV : Key → V
  | .inl i => .int i
  | .inr x => .str x


inductive HO where
  
  | lst (xs : List V)
  
  | tup (xs : List V)
  
  | dK (kvs : List (Key × V)) | dT (kvs : List (List Key × V))
  
  | set (S : Int → Bool) (n : Nat)
  
  | ins (C dx : Addr) (fs : List (Str × V))
  
  | own (x : Addr)
  
  | xd (fs : List (Str × V))
  
  | met (f x : Addr)
  
  | rng (lo hi : Int)
  
  | frz (o : Obj) (u : HO)
  
  | tbl (ps : Array Value)
  
  | ext (φ : Heap → Prop)

abbrev Hp := Addr → Option HO
def upd (H : Hp) (a : Addr) (o : HO) : Hp := fun b => if b = a then some o else H b
theorem upd_same {H : Hp} {a : Addr} {o : HO} : upd H a o a = some o := by unfold upd; rw [if_pos rfl]
theorem upd_ne {H : Hp} {a b : Addr} {o : HO} (h : b ≠ a) : upd H a o b = H b := by unfold upd; rw [if_neg h]
theorem ne_of {H : Hp} {a b : Addr} {o u : HO} (h : H a = some o) (h' : H b = some u) (d : o ≠ u) : a ≠ b := by
  intro e; subst e; rw [h] at h'; exact d (Option.some.inj h')
theorem ne_of_none {H : Hp} {a b : Addr} {o : HO} (h : H a = some o) (h' : H b = none) : a ≠ b := by
  intro e; subst e; rw [h] at h'; cases h'

section
variable (P : Program) (w : World)
def ObjOk (H : Hp) (h : Heap) (a : Addr) : HO → Prop
  | .lst xs => xs.length ≤ sizeLine ∧ ∃ (its : List Value) (n : Nat), Vals xs its ∧ h.get? a = some { cls := .type "list", data := .seq its.toArray n }
  | .tup xs => xs.length ≤ sizeLine ∧ ∃ its : List Value, Vals xs its ∧ IsTup h a its.toArray
  | .dK kvs => kvs.length ≤ sizeLine ∧ (a == sysModules) = false ∧ ∃ vs, KV kvs vs ∧ h.DictOf (mixKind P w) a vs
  | .dT kvs => kvs.length ≤ sizeLine ∧ (a == sysModules) = false ∧ ∃ xs : List (List Key × Addr × Value),
      Paired (fun (p : List Key × V) (q : List Key × Addr × Value) => p.1 = q.1 ∧ H q.2.1 = some (.tup (p.1.map kV)) ∧ RelV p.2 q.2.2) kvs xs ∧
      ∃ o es ep, h.get? a = some o ∧ o.ExactDict ∧ o.data = .dict es ep ∧ es.toList = xs.map (entryOfKey (tupleKind (mixKind P w))) ∧ (xs.map (·.1)).Nodup
  | .set S n => h.SetOf (intKind P w) a S n
  | .ins C dx fs => H dx = some (.own a) ∧ fs.length ≤ 1000 ∧ dx ≠ a ∧ h.get? a = some (PySem.W.instObj C dx) ∧
      ∃ mA, h.Ns1 dx mA ∧ (∀ f, RelO (fs.lookup f) (mA f)) ∧ PySem.Within mA (fs.map (·.1))
  | .own _ => ∃ o, h.get? a = some o
  | .xd fs => ∃ mA, h.Ns1 a mA ∧ ∀ f, RelO (fs.lookup f) (mA f)
  | .rng lo hi => ∃ t u v, h.get? a = some { cls := .type "range", data := .fields #[.int lo t, .int hi u, .int 1 v] }
  | .frz o u => h.get? a = some o ∧ ObjOk H h a u
  | .tbl ps => h.get? a = some { cls := .none, data := .fields ps }
  | .met f x => h.get? a = some (PySem.W.methodObj (.ref f) (.ref x))
  | .ext φ => φ h ∧ (∃ o, h.get? a = some o) ∧ ∀ h1 h2 : Heap, φ h1 → (∀ o, h1.get? a = some o → h2.get? a = some o) → φ h2

def HOk (H : Hp) (h : Heap) : Prop := ∀ a o, H a = some o → ObjOk P w H h a o
end

section
variable {P : Program} {w : World} {H H' : Hp} {h h' : Heap} {a : Addr} {o : HO}
theorem ObjOk.lt (x : ObjOk P w H h a o) : a < h.objs.size := by
  cases o with
  | lst xs => obtain ⟨_, _, _, _, e⟩ := x; exact Heap.lt_size e
  | tup xs => obtain ⟨_, _, _, p⟩ := x; exact p.lt
  | dK kvs => obtain ⟨_, _, _, _, o, _, _, e, _⟩ := x; exact Heap.lt_size e
  | dT kvs => obtain ⟨_, _, _, _, o, _, _, e, _⟩ := x; exact Heap.lt_size e
  | set S n => obtain ⟨o, _, _, _, e, _⟩ := x; exact Heap.lt_size e
  | ins C dx fs => obtain ⟨_, _, _, e, _⟩ := x; exact Heap.lt_size e
  | own y => obtain ⟨_, e⟩ := x; exact Heap.lt_size e
  | xd fs => obtain ⟨_, ⟨_, _, _, e, _⟩, _⟩ := x; exact Heap.lt_size e
  | rng lo hi => obtain ⟨_, _, _, e⟩ := x; exact Heap.lt_size e
  | frz ob u => obtain ⟨e, _⟩ := x; exact Heap.lt_size e
  | tbl ps => exact Heap.lt_size (show h.get? a = some _ from x)
  | met f y => exact Heap.lt_size (show h.get? a = some _ from x)
  | ext φ => obtain ⟨_, ⟨_, e⟩, _⟩ := x; exact Heap.lt_size e
theorem Paired.mapP {α β : Type} {F G : α → β → Prop} : ∀ {l₁ : List α} {l₂ : List β}, Paired F l₁ l₂ → (∀ a b, F a b → G a b) → Paired G l₁ l₂
  | _, _, .nil, _ => .nil
  | _, _, .cons r t, f => .cons (f _ _ r) (Paired.mapP t f)
theorem ObjOk.stay (x : ObjOk P w H h a o) (k : ∀ b u, (b = a ∨ H b = some (.own a)) → h.get? b = some u → h'.get? b = some u)
    (ho : ∀ b, H b = some (.own a) → H' b = some (.own a)) (ht : ∀ b xs, H b = some (.tup xs) → H' b = some (.tup xs)) : ObjOk P w H' h' a o := by
  induction o with
  | lst xs => obtain ⟨z, its, n, r, e⟩ := x; exact ⟨z, its, n, r, k _ _ (.inl rfl) e⟩
  | tup xs => obtain ⟨z, its, r, ob, e, c⟩ := x; exact ⟨z, its, r, ob, k _ _ (.inl rfl) e, c⟩
  | dK kvs => obtain ⟨z, y, vs, r, ob, es, ep, e, c⟩ := x; exact ⟨z, y, vs, r, ob, es, ep, k _ _ (.inl rfl) e, c⟩
  | dT kvs =>
    obtain ⟨z, y, xs, r, ob, es, ep, e, c⟩ := x
    exact ⟨z, y, xs, Paired.mapP r fun p q z => ⟨z.1, ht _ _ z.2.1, z.2.2⟩, ob, es, ep, k _ _ (.inl rfl) e, c⟩
  | set S n => obtain ⟨ob, es, ep, t, e, c⟩ := x; exact ⟨ob, es, ep, t, k _ _ (.inl rfl) e, c⟩
  | ins C dx fs =>
    obtain ⟨d, z, ne, e, mA, ⟨od, es, ep, e2, c⟩, r⟩ := x
    exact ⟨ho _ d, z, ne, k _ _ (.inl rfl) e, mA, ⟨od, es, ep, k _ _ (.inr d) e2, c⟩, r⟩
  | own y => obtain ⟨ob, e⟩ := x; exact ⟨ob, k _ _ (.inl rfl) e⟩
  | xd fs => obtain ⟨mA, ⟨od, es, ep, e, c⟩, r⟩ := x; exact ⟨mA, ⟨od, es, ep, k _ _ (.inl rfl) e, c⟩, r⟩
  | rng lo hi => obtain ⟨t, u, v, e⟩ := x; exact ⟨t, u, v, k _ _ (.inl rfl) e⟩
  | frz ob u ih => obtain ⟨e, q⟩ := x; exact ⟨k _ _ (.inl rfl) e, ih q⟩
  | tbl ps =>
    have e : h.get? a = some { cls := .none, data := .fields ps } := x
    show h'.get? a = some { cls := .none, data := .fields ps }
    exact k a _ (.inl rfl) e
  | met f y =>
    have e : h.get? a = some (PySem.W.methodObj (.ref f) (.ref y)) := x
    show h'.get? a = some (PySem.W.methodObj (.ref f) (.ref y))
    exact k a _ (.inl rfl) e
  | ext φ => obtain ⟨p, ⟨o, e⟩, st⟩ := x; exact ⟨st _ _ p fun o q => k _ _ (.inl rfl) q, ⟨o, k _ _ (.inl rfl) e⟩, st⟩
theorem HOk.lt (x : HOk P w H h) (e : H a = some o) : a < h.objs.size := (x a o e).lt
theorem HOk.fresh (x : HOk P w H h) (e : h.objs.size ≤ a) : H a = none := by
  cases q : H a with
  | none => rfl
  | some u => exact absurd (Nat.lt_of_lt_of_le (x.lt q) e) (Nat.lt_irrefl _)

theorem HOk.kept (x : HOk P w H h) (k : ∀ b u, h.get? b = some u → h'.get? b = some u) : HOk P w H h' := fun a o e =>
  (x a o e).stay (fun b u _ q => k b u q) (fun _ q => q) fun _ _ q => q

theorem HOk.laid (x : HOk P w H h) (k : ∀ b u, h.get? b = some u → h'.get? b = some u) (hp : h.objs.size ≤ a) (new : ObjOk P w (upd H a o) h' a o) : HOk P w (upd H a o) h' := fun b u e => by
  have hn := x.fresh hp
  by_cases hb : b = a
  · subst hb; rw [upd_same] at e; cases e; exact new
  · rw [upd_ne hb] at e
    exact (x b u e).stay (fun c v _ q => k c v q) (fun c q => by rw [upd_ne (ne_of_none q hn)]; exact q) fun c xs q => by rw [upd_ne (ne_of_none q hn)]; exact q
end


def Rd (H : Hp) (a : Addr) (u : HO) : Prop := H a = some u ∨ ∃ o, H a = some (.frz o u)
theorem Rd.of {H : Hp} {a : Addr} {u : HO} (h : H a = some u) : Rd H a u := .inl h
theorem Rd.ok {P : Program} {w : World} {H : Hp} {h : Heap} {a : Addr} {u : HO} (r : Rd H a u) (x : HOk P w H h) : ObjOk P w H h a u := by
  rcases r with r | ⟨o, r⟩
  · exact x a u r
  · obtain ⟨_, q⟩ := x a _ r
    exact q

def Mut : Option HO → Prop
  | some (.lst _) => True
  | some (.dK _) => True
  | some (.dT _) => True
  | some (.set _ _) => True
  | some (.ins _ _ _) => True
  | some (.ext _) => True
  | _ => False
section
variable {P : Program} {w : World} {H : Hp} {h h' : Heap} {x e : Addr} {o' : HO}

theorem HOk.write (ok : HOk P w H h) (mu : Mut (H x)) (he : e = x ∨ H e = some (.own x)) (k : ∀ b u, b ≠ e → h.get? b = some u → h'.get? b = some u) (heo : ∃ u, h'.get? e = some u)
    (new : ObjOk P w (upd H x o') h' x o') : HOk P w (upd H x o') h' := fun b u q => by
  have nown : ∀ c y, H c = some (.own y) → c ≠ x := fun c y r z => by subst z; rw [r] at mu; exact mu
  have ntup : ∀ c xs, H c = some (.tup xs) → c ≠ x := fun c xs r z => by subst z; rw [r] at mu; exact mu
  by_cases hb : b = x
  · subst hb; rw [upd_same] at q; cases q; exact new
  · rw [upd_ne hb] at q
    by_cases hbe : b = e
    · have q' : H b = some (.own x) := by
        rcases he with z | z
        · exact absurd (hbe.trans z) hb
        · rw [hbe]; exact z
      rw [q] at q'; cases q'
      obtain ⟨v, hv⟩ := heo
      exact ⟨v, by rw [hbe]; exact hv⟩
    · refine (ok b u q).stay (fun c v hc r => k c v ?_ r) (fun c r => by rw [upd_ne (nown c b r)]; exact r) fun c xs r => by rw [upd_ne (ntup c xs r)]; exact r
      rcases hc with rfl | hc
      · exact hbe
      · rintro rfl
        rcases he with z | z
        · exact nown c b hc z
        · rw [hc] at z; cases z; exact hb rfl
end


structure Un (fs ex : List Addr) (H H' : Hp) (h h' : Heap) : Prop where
  keep : ∀ b o, h.get? b = some o → H b = none → b ∉ fs → b ∉ ex → h'.get? b = some o
  slot : ∀ b o, h.get? b = some o → H b = none → b ∈ fs → b ∉ ex → ∃ sl, h'.get? b = some { o with slots := sl }
  free : ∀ b o, h.get? b = some o → H b = none → b ∉ ex → H' b = none
  there : ∀ b o, h.get? b = some o → b ∉ ex → ∃ o', h'.get? b = some o'
  tups : ∀ b xs, H b = some (.tup xs) → H' b = some (.tup xs)
  frzs : ∀ b o u, H b = some (.frz o u) → H' b = some (.frz o u)
  tbls : ∀ b ps, H b = some (.tbl ps) → ∃ more, H' b = some (.tbl (ps ++ more))
section
variable {fs fs' ex ex' : List Addr} {H H1 H2 : Hp} {h h1 h2 h' : Heap} {a x e : Addr} {o : HO}
theorem Un.any (u : Un fs ex H H1 h h1) {b : Addr} {ob : Obj} (q : h.get? b = some ob) (n : H b = none) (hx : b ∉ ex) : ∃ sl, h1.get? b = some { ob with slots := sl } := by
  by_cases hb : b ∈ fs
  · exact u.slot b ob q n hb hx
  · exact ⟨ob.slots, u.keep b ob q n hb hx⟩
theorem Un.trans (a : Un fs ex H H1 h h1) (b : Un fs ex H1 H2 h1 h2) : Un fs ex H H2 h h2 where
  keep := fun c ob q n hc hx => b.keep c ob (a.keep c ob q n hc hx) (a.free c ob q n hx) hc hx
  slot := fun c ob q n hc hx => by
    obtain ⟨sl, e1⟩ := a.slot c ob q n hc hx
    obtain ⟨sl', e2⟩ := b.slot c _ e1 (a.free c ob q n hx) hc hx
    exact ⟨sl', e2⟩
  free := fun c ob q n hx => by
    obtain ⟨o', e1⟩ := a.there c ob q hx
    exact b.free c o' e1 (a.free c ob q n hx) hx
  there := fun c ob q hx => by
    obtain ⟨o', e1⟩ := a.there c ob q hx
    exact b.there c o' e1 hx
  tups := fun c xs q => b.tups c xs (a.tups c xs q)
  frzs := fun c ob xs q => b.frzs c ob xs (a.frzs c ob xs q)
  tbls := fun c ps q => by
    obtain ⟨m1, e1⟩ := a.tbls c ps q
    obtain ⟨m2, e2⟩ := b.tbls c _ e1
    exact ⟨m1 ++ m2, by rw [e2, Array.append_assoc]⟩
theorem Un.kept (k : ∀ b u, h.get? b = some u → h'.get? b = some u) : Un fs ex H H h h' :=
  ⟨fun b ob q _ _ _ => k b ob q, fun b ob q _ _ _ => ⟨ob.slots, k b ob q⟩, fun _ _ _ n _ => n, fun b ob q _ => ⟨ob, k b ob q⟩, fun _ _ q => q, fun _ _ _ q => q, fun _ ps q => ⟨#[], by rw [q]; simp⟩⟩
theorem Un.refl : Un fs ex H H h h := Un.kept fun _ _ q => q
theorem Un.laid (k : ∀ b u, h.get? b = some u → h'.get? b = some u) (hp : h.objs.size ≤ a) (hn : H a = none) : Un fs ex H (upd H a o) h h' where
  keep := fun b u q _ _ _ => k b u q
  slot := fun b u q _ _ _ => ⟨u.slots, k b u q⟩
  free := fun b u q n _ => by rw [upd_ne (Nat.ne_of_lt (Nat.lt_of_lt_of_le (Heap.lt_size q) hp))]; exact n
  there := fun b u q _ => ⟨u, k b u q⟩
  tups := fun b xs q => by rw [upd_ne (ne_of_none q hn)]; exact q
  frzs := fun b u xs q => by rw [upd_ne (ne_of_none q hn)]; exact q
  tbls := fun b ps q => ⟨#[], by rw [upd_ne (ne_of_none q hn), q]; simp⟩
theorem Un.write (mu : Mut (H x)) (he : e = x ∨ H e = some (.own x)) (k : ∀ b u, b ≠ e → h.get? b = some u → h'.get? b = some u) (heo : ∃ u, h'.get? e = some u) : Un fs ex H (upd H x o) h h' := by
  have hx : ∀ b, H b = none → b ≠ x := fun b n z => by subst z; rw [n] at mu; exact mu
  have hb : ∀ b, H b = none → b ≠ e := fun b n z => by
    subst z
    rcases he with r | r
    · exact hx b n r
    · rw [n] at r; cases r
  have hm : ∀ b u, H b = some u → ¬ Mut (some u) → b ≠ x := fun b u q nm z => by subst z; rw [q] at mu; exact nm mu
  refine ⟨fun b u q n _ _ => k b u (hb b n) q, fun b u q n _ _ => ⟨u.slots, k b u (hb b n) q⟩, fun b u q n _ => by rw [upd_ne (hx b n)]; exact n, fun b u q _ => ?_,
    fun b xs q => by rw [upd_ne (hm b _ q fun z => z)]; exact q, fun b u xs q => by rw [upd_ne (hm b _ q fun z => z)]; exact q, fun b ps q => ⟨#[], by rw [upd_ne (hm b _ q fun z => z), q]; simp⟩⟩
  by_cases hbe : b = e
  · subst hbe; exact heo
  · exact ⟨u, k b u hbe q⟩
theorem Un.mono (u : Un fs ex H H1 h h1) (hs : ∀ b ∈ fs, b ∈ fs') (hx : ∀ b ∈ ex, b ∈ ex') : Un fs' ex' H H1 h h1 :=
  ⟨fun b ob q n hb he => u.keep b ob q n (fun z => hb (hs b z)) fun z => he (hx b z), fun _ _ q n _ he => u.any q n fun z => he (hx _ z), fun b ob q n he => u.free b ob q n fun z => he (hx b z), fun b ob q he => u.there b ob q fun z => he (hx b z), u.tups, u.frzs, u.tbls⟩
end


def trk (h : Heap) (H : Hp) : List Addr := (List.range h.objs.size).filter fun a => (H a).isSome
def hidT (h : Heap) (H : Hp) : Heap := PySem.W.hideAll h (trk h H)
theorem hidT_size (h : Heap) (H : Hp) : (hidT h H).objs.size = h.objs.size := PySem.W.hideAll_size _ _
theorem hidT_get {h : Heap} {H : Hp} {b : Addr} {o : Obj} (e : h.get? b = some o) (n : H b = none) : (hidT h H).get? b = some o :=
  PySem.W.hideAll_get _ e fun hm => by
    have q : (H b).isSome = true := (List.mem_filter.mp hm).2
    rw [n] at q; simp at q
theorem of_hidT {h : Heap} {H : Hp} {b : Addr} {o : Obj} (e : (hidT h H).get? b = some o) : h.get? b = some o ∧ H b = none := by
  have e' : h.get? b = some o := PySem.W.of_hideAll (trk h H) e
  refine ⟨e', ?_⟩
  cases q : H b with
  | none => rfl
  | some x =>
    have hm : b ∈ trk h H := List.mem_filter.mpr ⟨List.mem_range.mpr (Heap.lt_size e'), by simp [q]⟩
    have z : (hidT h H).get? b = none := PySem.W.hideAll_none (trk h H) hm
    rw [z] at e; cases e


def allNews (g h : Heap) (L : Addr) : List (Addr × Obj) := (List.range h.objs.size).filterMap fun a => if a = L ∨ (g.get? a).isSome = true then none else (h.get? a).map fun o => (a, o)
def rest (g h : Heap) (L d : Addr) : List (Addr × Obj) := (allNews g h L).filter fun p => decide (p.1 ≠ d)
end L2

namespace L2
open PySem PySem.Spec PyProof.Rows


structure Mod (K : PySem.W.Frag) (mg : Str → Option Value) (base : Heap) : Prop where
  kin : K.In base
  glob : base.Ns mainGlobals mg
  blt : ∃ mb, base.Ns builtinsNs mb ∧ ∀ x : Str, x ≠ "__name__" → mb x = bootBuiltins x
  nolimit : base.NoLimit


structure Cx where
  prog : Program
  w : World
  K : PySem.W.Frag
  mg : Str → Option Value
  base : Heap
  A : Around
  N : List Str
  s₀ : Shared
  H₀ : Hp
  env : Env
  outer : List Env
  stack : List Env
  ex : List Addr
  fn : Str → Bool
  calm : Bool
  pn : List (Addr × Obj)
  xe : Value → Shared → Prop

def frs (l : List Env) : List Addr := l.filterMap (·.frame)
abbrev Cx.fs (X : Cx) : List Addr := frs X.outer

def Vis (sc : Scope) (x : Str) : Prop := sc.names.lookup x = some .local ∨ sc.names.lookup x = some .cell ∨ sc.names.lookup x = some .free
def Loc (sc : Scope) (x : Str) : Prop := sc.names.lookup x = some .local ∨ sc.names.lookup x = some .cell
def Look (env : Env) (h : Heap) (m : Str → Option Value) (x : Str) (u : Value) : Prop :=
  (env.kindOf x = some .local ∧ m x = some u) ∨ ((env.kindOf x = some .cell ∨ env.kindOf x = some .free) ∧ ∃ c, env.cells.lookup x = some c ∧ h.IsCell c (some u))

structure Cx.Ok (X : Cx) : Prop where
  mod : Mod X.K X.mg X.base
  kind : X.env.scope.kind = .function
  glob : X.env.globals = mainGlobals
  blt : X.env.builtins = builtinsNs
  above : X.s₀.heap.objs.size ≤ X.env.locals
  inj : ∀ x y c, X.env.cells.lookup x = some c → X.env.cells.lookup y = some c → x = y
  has : ∀ x, (X.env.kindOf x = some .cell ∨ X.env.kindOf x = some .free) → ∃ c, X.env.cells.lookup x = some c
  cab : ∀ x c, X.fn x = true → X.env.cells.lookup x = some c → X.s₀.heap.objs.size ≤ c
  hd : X.calm = true → X.A.handled = none
  frames : X.A.frames = some X.stack
  stk : X.stack = X.outer ∨ (X.stack = X.env :: X.outer ∧ X.env.frame = some X.env.locals)
  exf : ∀ b ∈ X.ex, b ≠ X.env.locals ∧ ∀ x c, X.env.cells.lookup x = some c → c ≠ b
  bs : ∀ b o, X.base.get? b = some o → X.s₀.heap.get? b = some o ∧ X.H₀ b = none
  bsz : X.base.objs.size ≤ X.s₀.heap.objs.size
  noex : ∀ b o, X.base.get? b = some o → b ∉ X.ex
  exfs : ∀ b ∈ X.ex, b ∉ X.fs
  funs : X.s₀.heap.FunFrames X.base X.outer
  frf : ∀ b ∈ X.fs, X.H₀ b = none

structure Inv (X : Cx) (pins : List (Addr × Obj)) (σ : List (Option V)) (H : Hp) (s : Shared) : Prop where
  ok : X.Ok
  os : s.os = X.s₀.os
  bare : AllBare s.gens
  base : Un X.fs X.ex X.H₀ H X.s₀.heap s.heap
  loc : ∃ m, s.heap.Ns X.env.locals m ∧ ∀ (i : Nat) (x : Str) (v : V), X.N[i]? = some x → σ[i]? = some (some v) → Vis X.env.scope x → ∃ u, RelV v u ∧ Look X.env s.heap m x u
  cell : ∀ x c, X.env.cells.lookup x = some c → ∃ v, s.heap.IsCell c v
  free : H X.env.locals = none
  freeC : ∀ x c, X.env.cells.lookup x = some c → H c = none
  pin : ∀ p ∈ X.pn ++ pins, s.heap.get? p.1 = some p.2 ∧ H p.1 = none ∧ p.1 ≠ X.env.locals ∧ p.1 ∉ X.fs ∧ ∀ v, p.2.data ≠ .cell v
  hok : HOk X.prog X.w H s.heap
  len : σ.length = X.N.length

section
variable {X : Cx} {pins : List (Addr × Obj)} {σ : List (Option V)} {H H' : Hp} {s : Shared} {h' : Heap}

theorem Cx.Ok.nofr (ok : X.Ok) {b : Addr} {o : Obj} (e : X.base.get? b = some o) : b ∉ X.fs := fun hb => by
  have := (ok.funs.mem hb).1
  rw [e] at this; cases this
theorem Inv.bs (I : Inv X pins σ H s) : ∀ b o, X.base.get? b = some o → s.heap.get? b = some o ∧ H b = none := fun b o e =>
  ⟨I.base.keep b o (I.ok.bs b o e).1 (I.ok.bs b o e).2 (I.ok.nofr e) (I.ok.noex b o e), I.base.free b o (I.ok.bs b o e).1 (I.ok.bs b o e).2 (I.ok.noex b o e)⟩
theorem Inv.bk (I : Inv X pins σ H s) : ∀ b o, X.base.get? b = some o → s.heap.get? b = some o := fun b o e => (I.bs b o e).1
theorem Inv.mod (I : Inv X pins σ H s) : Mod X.K X.mg X.base := I.ok.mod
theorem Inv.kIn (I : Inv X pins σ H s) : X.K.In s.heap := I.ok.mod.kin.keeps I.bk
theorem Inv.nolimit (I : Inv X pins σ H s) : s.heap.NoLimit := I.ok.mod.nolimit.keeps I.bk

theorem Inv.lt (I : Inv X pins σ H s) : X.env.locals < s.heap.objs.size := let ⟨_, hn, _⟩ := I.loc; hn.lt
theorem Inv.sz (I : Inv X pins σ H s) : X.s₀.heap.objs.size ≤ s.heap.objs.size := Nat.le_trans I.ok.above (Nat.le_of_lt I.lt)
theorem Inv.nofs (I : Inv X pins σ H s) {a : Addr} (h : s.heap.objs.size ≤ a) : a ∉ X.fs := fun hb => by
  obtain ⟨_, o, ho, _⟩ := I.ok.funs.mem hb
  exact absurd (Nat.lt_of_lt_of_le (Heap.lt_size ho) (Nat.le_trans I.sz h)) (Nat.lt_irrefl _)
theorem Inv.cne (I : Inv X pins σ H s) : ∀ x c, X.env.cells.lookup x = some c → c ≠ X.env.locals := fun x c e z => by
  obtain ⟨v, o, ho, hd⟩ := I.cell x c e
  obtain ⟨m, ⟨o', es, ep, ho', hd', _⟩, _⟩ := I.loc
  rw [z, ho'] at ho; cases ho; rw [hd'] at hd; cases hd
theorem Inv.funs (I : Inv X pins σ H s) : s.heap.FunFrames X.base X.outer := by
  have all : ∀ (l : List Env), (∀ b ∈ frs l, b ∈ X.fs) → X.s₀.heap.FunFrames X.base l → s.heap.FunFrames X.base l := by
    intro l
    induction l with
    | nil => intro _ _; trivial
    | cons env r ih =>
      intro hs hl
      obtain ⟨hk, ⟨L, o, hf, hn, ho, hd⟩, hr⟩ := hl
      have hL : L ∈ X.fs := hs L (by unfold frs; rw [List.filterMap_cons, hf]; exact List.mem_cons_self)
      obtain ⟨sl, e⟩ := I.base.slot L o ho (I.ok.frf L hL) hL fun z => I.ok.exfs L z hL
      exact ⟨hk, ⟨L, _, hf, hn, e, hd⟩, ih (fun b hb => hs b (by unfold frs; rw [List.filterMap_cons, hf]; exact List.mem_cons_of_mem _ hb)) hr⟩
  exact all X.outer (fun _ hb => hb) I.ok.funs


theorem Inv.stack (I : Inv X pins σ H s) : s.heap.FunFrames X.base X.stack := by
  rcases I.ok.stk with e | ⟨e, hf⟩
  · rw [e]; exact I.funs
  · rw [e]
    obtain ⟨m, hn, _⟩ := I.loc
    refine .cons (by rw [I.ok.kind]; decide) hf hn ?_ I.funs
    exact Heap.get?_none_of_le (Nat.le_trans I.ok.bsz I.ok.above)
theorem Inv.stkSub (I : Inv X pins σ H s) : ∀ b ∈ frs X.stack, b ∈ X.env.locals :: X.fs := fun b hb => by
  rcases I.ok.stk with e | ⟨e, hf⟩
  · rw [e] at hb; exact List.mem_cons_of_mem _ hb
  · rw [e] at hb
    unfold frs at hb
    rw [List.filterMap_cons, hf] at hb
    exact hb
theorem Inv.stkFree (I : Inv X pins σ H s) : ∀ b ∈ frs X.stack, H b = none := fun b hb => by
  rcases List.mem_cons.mp (I.stkSub b hb) with e | hb
  · rw [e]; exact I.free
  · obtain ⟨_, o, ho, _⟩ := I.ok.funs.mem hb
    exact I.base.free b o ho (I.ok.frf b hb) fun z => I.ok.exfs b z hb


theorem Inv.step {g' : Array GenState} {t' : Nat} {d' : Drawn} {ch : List Addr} (I : Inv X pins σ H s)
    (hch : ∀ b ∈ ch, (b ∈ X.ex ∨ X.s₀.heap.objs.size ≤ b) ∧ b ≠ X.env.locals ∧ (∀ x c, X.env.cells.lookup x = some c → c ≠ b) ∧ ∀ p ∈ X.pn ++ pins, p.1 ≠ b)
    (keep : ∀ b o, b ≠ X.env.locals → b ∉ X.fs → b ∉ ch → s.heap.get? b = some o → H b = none → h'.get? b = some o)
    (slot : ∀ b o, b ≠ X.env.locals → b ∈ X.fs → b ∉ ch → s.heap.get? b = some o → H b = none → ∃ sl, h'.get? b = some { o with slots := sl }) (free : ∀ b o, b ∉ ch → s.heap.get? b = some o → H b = none → H' b = none)
    (there : ∀ b o, b ∉ ch → s.heap.get? b = some o → ∃ o', h'.get? b = some o')
    (tups : ∀ b xs, H b = some (.tup xs) → H' b = some (.tup xs)) (frzs : ∀ b o u, H b = some (.frz o u) → H' b = some (.frz o u)) (tbls : ∀ b ps, H b = some (.tbl ps) → ∃ more, H' b = some (.tbl (ps ++ more)))
    (ns : ∀ m, s.heap.Ns X.env.locals m → h'.Ns X.env.locals m) (hok : HOk X.prog X.w H' h') (hg : AllBare g') :
    Inv X pins σ H' { s with heap := h', gens := g', drawn := d', toks := t' } := by
  have neL : ∀ b o, X.s₀.heap.get? b = some o → b ≠ X.env.locals := fun b o e => Nat.ne_of_lt (Nat.lt_of_lt_of_le (Heap.lt_size e) I.ok.above)
  have neC : ∀ b o, X.s₀.heap.get? b = some o → b ∉ X.ex → b ∉ ch := fun b o e hx hb => by
    rcases (hch b hb).1 with z | z
    · exact hx z
    · exact absurd (Nat.lt_of_lt_of_le (Heap.lt_size e) z) (Nat.lt_irrefl _)
  have cellK : ∀ x c, X.env.cells.lookup x = some c → ∀ v, s.heap.IsCell c v → h'.IsCell c v := fun x c e v ⟨o, ho, hd⟩ => by
    have nch : c ∉ ch := fun z => (hch c z).2.2.1 x c e rfl
    by_cases hc : c ∈ X.fs
    · obtain ⟨sl, q⟩ := slot c o (I.cne x c e) hc nch ho (I.freeC x c e)
      exact ⟨_, q, hd⟩
    · exact ⟨o, keep c o (I.cne x c e) hc nch ho (I.freeC x c e), hd⟩
  refine ⟨I.ok, I.os, hg, ⟨fun b o e n hb hx => ?_, fun b o e n hb hx => ?_, fun b o e n hx => ?_, fun b o e hx => ?_, fun b xs e => tups b xs (I.base.tups b xs e), fun b o xs e => frzs b o xs (I.base.frzs b o xs e), fun b ps e => ?_⟩, ?_, fun x c e => ?_, ?_, fun x c e => ?_, fun p hp => ?_, hok, I.len⟩
  · exact keep b o (neL b o e) hb (neC b o e hx) (I.base.keep b o e n hb hx) (I.base.free b o e n hx)
  · obtain ⟨sl, e1⟩ := I.base.slot b o e n hb hx
    obtain ⟨sl', e2⟩ := slot b _ (neL b o e) hb (neC b o e hx) e1 (I.base.free b o e n hx)
    exact ⟨sl', e2⟩
  · obtain ⟨o', e1⟩ := I.base.there b o e hx
    exact free b o' (neC b o e hx) e1 (I.base.free b o e n hx)
  · obtain ⟨o', e1⟩ := I.base.there b o e hx
    exact there b o' (neC b o e hx) e1
  · obtain ⟨m1, e1⟩ := I.base.tbls b ps e
    obtain ⟨m2, e2⟩ := tbls b _ e1
    exact ⟨m1 ++ m2, by rw [e2, Array.append_assoc]⟩
  · obtain ⟨m, hn, hl⟩ := I.loc
    refine ⟨m, ns m hn, fun i x v e1 e2 e3 => ?_⟩
    obtain ⟨u, r, l⟩ := hl i x v e1 e2 e3
    refine ⟨u, r, ?_⟩
    rcases l with l | ⟨k, c, e, z⟩
    · exact .inl l
    · exact .inr ⟨k, c, e, cellK x c e _ z⟩
  · obtain ⟨v, z⟩ := I.cell x c e
    exact ⟨v, cellK x c e v z⟩
  · obtain ⟨m, ⟨o, _, _, ho, _⟩, _⟩ := I.loc
    exact free _ o (fun z => (hch _ z).2.1 rfl) ho I.free
  · obtain ⟨v, o, ho, hd⟩ := I.cell x c e
    exact free c o (fun z => (hch c z).2.2.1 x c e rfl) ho (I.freeC x c e)
  · obtain ⟨e, n, ne, nf, d⟩ := I.pin p hp
    have nch : p.1 ∉ ch := fun z => (hch p.1 z).2.2.2 p hp rfl
    exact ⟨keep p.1 p.2 ne nf nch e n, free p.1 p.2 nch e n, ne, nf, d⟩

theorem Inv.un {t' : Nat} (I : Inv X pins σ H s) (u : Un X.fs [] H H' s.heap h') (hok : HOk X.prog X.w H' h') : Inv X pins σ H' { s with heap := h', toks := t' } := by
  obtain ⟨m, ⟨o, es, ep, ho, r⟩, _⟩ := id I.loc
  obtain ⟨sl, hL⟩ := u.any ho I.free (by simp)
  exact I.step (g' := s.gens) (d' := s.drawn) (ch := []) (fun _ z => nomatch z) (fun b o _ hb _ e n => u.keep b o e n hb (by simp)) (fun b o _ hb _ e n => u.slot b o e n hb (by simp)) (fun b o _ e n => u.free b o e n (by simp)) (fun b o _ e => u.there b o e (by simp)) u.tups u.frzs u.tbls (fun m' hm => by
    obtain ⟨o', es', ep', ho', r'⟩ := hm
    rw [ho] at ho'; cases ho'
    exact ⟨_, es', ep', hL, r'⟩) hok I.bare

theorem Inv.call {g' : Array GenState} {t' : Nat} {d' : Drawn} {ch : List Addr} (I : Inv X pins σ H s) (u : Un (frs X.stack) ch H H' s.heap h') (hok : HOk X.prog X.w H' h') (hg : AllBare g')
    (hch : ∀ b ∈ ch, (b ∈ X.ex ∨ X.s₀.heap.objs.size ≤ b) ∧ b ≠ X.env.locals ∧ (∀ x c, X.env.cells.lookup x = some c → c ≠ b) ∧ ∀ p ∈ X.pn ++ pins, p.1 ≠ b) :
    Inv X pins σ H' { s with heap := h', gens := g', drawn := d', toks := t' } := by
  obtain ⟨m, ⟨o, es, ep, ho, r⟩, _⟩ := id I.loc
  obtain ⟨sl, hL⟩ := u.any ho I.free fun z => (hch _ z).2.1 rfl
  exact I.step (ch := ch) hch (fun b o hL hb hc e n => u.keep b o e n (fun z => (List.mem_cons.mp (I.stkSub b z)).elim hL hb) hc) (fun b o _ _ hc e n => u.any e n hc) (fun b o hc e n => u.free b o e n hc) (fun b o hc e => u.there b o e hc) u.tups u.frzs u.tbls (fun m' hm => by
    obtain ⟨o', es', ep', ho', r'⟩ := hm
    rw [ho] at ho'; cases ho'
    exact ⟨_, es', ep', hL, r'⟩) hok hg

theorem Inv.turned {t' : Nat} {it : Addr} (I : Inv X pins σ H s) (k : ∀ b o, b ≠ it → s.heap.get? b = some o → h'.get? b = some o) (hn : H it = none) (hL : it ≠ X.env.locals)
    (h1 : it ∈ X.ex ∨ X.s₀.heap.objs.size ≤ it) (h2 : ∀ x c, X.env.cells.lookup x = some c → c ≠ it) (h3 : ∀ p ∈ X.pn ++ pins, p.1 ≠ it) : Inv X pins σ H { s with heap := h', toks := t' } := by
  have nit : ∀ b u, H b = some u → b ≠ it := fun b u e z => by rw [z, hn] at e; cases e
  refine I.step (g' := s.gens) (d' := s.drawn) (ch := [it]) (fun b hb => ?_) (fun b o _ _ hc e _ => k b o (fun z => hc (by simp [z])) e) (fun b o _ _ hc e _ => ⟨o.slots, k b o (fun z => hc (by simp [z])) e⟩) (fun _ _ _ _ n => n)
    (fun b o hc e => ⟨o, k b o (fun z => hc (by simp [z])) e⟩) (fun _ _ e => e) (fun _ _ _ e => e) (fun b ps e => ⟨#[], by rw [e]; simp⟩) (fun m hm => ?_) (fun b u e => ?_) I.bare
  · have e : b = it := by simpa using hb
    subst e
    exact ⟨h1, hL, h2, h3⟩
  · obtain ⟨o, es, ep, ho, r⟩ := hm
    exact ⟨o, es, ep, k _ o (Ne.symm hL) ho, r⟩
  · refine (I.hok b u e).stay (fun c v hc q => k c v ?_ q) (fun _ q => q) fun _ _ q => q
    rcases hc with z | z
    · rw [z]; exact nit b u e
    · exact nit c _ z
theorem Inv.tok (I : Inv X pins σ H s) (t : Nat) : Inv X pins σ H { s with toks := t } := I.un (h' := s.heap) (t' := t) Un.refl I.hok

theorem Inv.kept {t' : Nat} (I : Inv X pins σ H s) (k : ∀ b u, s.heap.get? b = some u → h'.get? b = some u) : Inv X pins σ H { s with heap := h', toks := t' } := I.un (Un.kept k) (I.hok.kept k)

theorem Inv.laid {a : Addr} {o : HO} {t' : Nat} (I : Inv X pins σ H s) (k : ∀ b u, s.heap.get? b = some u → h'.get? b = some u) (hp : s.heap.objs.size ≤ a) (new : ObjOk X.prog X.w (upd H a o) h' a o) :
    Inv X pins σ (upd H a o) { s with heap := h', toks := t' } := I.un (Un.laid k hp (I.hok.fresh hp)) (I.hok.laid k hp new)

theorem Inv.write {x e : Addr} {o : HO} {t' : Nat} (I : Inv X pins σ H s) (mu : Mut (H x)) (he : e = x ∨ H e = some (.own x)) (k : ∀ b u, b ≠ e → s.heap.get? b = some u → h'.get? b = some u) (heo : ∃ u, h'.get? e = some u)
    (new : ObjOk X.prog X.w (upd H x o) h' x o) : Inv X pins σ (upd H x o) { s with heap := h', toks := t' } := I.un (Un.write mu he k heo) (I.hok.write mu he k heo new)

theorem Inv.pins_of {pins' : List (Addr × Obj)} (I : Inv X pins σ H s) (h : ∀ p ∈ pins', s.heap.get? p.1 = some p.2 ∧ H p.1 = none ∧ p.1 ≠ X.env.locals ∧ p.1 ∉ X.fs ∧ ∀ v, p.2.data ≠ .cell v) : Inv X pins' σ H s :=
  ⟨I.ok, I.os, I.bare, I.base, I.loc, I.cell, I.free, I.freeC, fun p hp => (List.mem_append.mp hp).elim (fun z => I.pin p (List.mem_append_left _ z)) (h p), I.hok, I.len⟩

theorem nodup_ix {N : List Str} (hN : N.Nodup) {i j : Nat} {x : Str} (a : N[i]? = some x) (b : N[j]? = some x) : i = j := by
  obtain ⟨h1, e1⟩ := List.getElem?_eq_some_iff.mp a
  obtain ⟨h2, e2⟩ := List.getElem?_eq_some_iff.mp b
  exact (List.getElem_inj hN).mp (e1.trans e2.symm)


theorem store_ok2 {M : Model} {A : Around} {E : Value → Shared → Prop} {i : Nat} {x : Str} {v : V} {u : Value} {Q : Unit → Shared → Prop} (I : Inv X pins σ H s) (hN : X.N.Nodup) (hi : X.N[i]? = some x) (hx : Loc X.env.scope x) (r : RelV v u)
    (h : ∀ s', Inv X pins (σ.set i (some v)) H s' → (∃ a, Heap.SameBut a s.heap s'.heap ∧ (a = X.env.locals ∨ X.env.cells.lookup x = some a)) → Q () s') (hf : X.fn x = true ∨ X.env.scope.names.lookup x = some .local := by first | exact .inl rfl | exact .inr rfl | assumption) : wpAny M A (storeName X.env x u) Q E s := by
  obtain ⟨m, hn, hl⟩ := id I.loc
  have hcls : (X.env.scope.kind == .class || (X.env.scope.kind == .module && X.env.locals != X.env.globals)) = false := by rw [I.ok.kind]; rfl
  have hiσ : i < σ.length := by rw [I.len]; exact (List.getElem?_eq_some_iff.mp hi).1
  have cne := I.cne
  have tracked : ∀ {a : Addr} {h' : Heap}, (∃ o, s.heap.get? a = some o ∧ H a = none) → Heap.SameBut a s.heap h' → HOk X.prog X.w H h' := fun {a h'} ha hs b ob e => by
    obtain ⟨_, _, hfree⟩ := ha
    refine (I.hok b ob e).stay (fun c w' hc q => (hs.2 c ?_).trans q) (fun _ q => q) fun _ _ q => q
    rintro rfl
    rcases hc with rfl | hc
    · rw [hfree] at e; cases e
    · rw [hfree] at hc; cases hc
  rcases hx with hk | hk
  · refine wpAny_storeName_local hk hn (fun h' hn' hs => ?_) hcls
    obtain ⟨oL, _, _, hoL, _⟩ := id hn
    refine h _ ⟨I.ok, I.os, I.bare, ⟨fun b o e n hb hx => ?_, fun b o e n hb hx => ?_, I.base.free, fun b o e hx => ?_, I.base.tups, I.base.frzs, I.base.tbls⟩, ⟨_, hn', fun j y v' e1 e2 e3 => ?_⟩, fun y c e => ?_, I.free, I.freeC, fun p hp => ?_, tracked ⟨oL, hoL, I.free⟩ hs, by simpa using I.len⟩ ⟨_, hs, .inl rfl⟩
    · exact (hs.2 b (Nat.ne_of_lt (Nat.lt_of_lt_of_le (Heap.lt_size e) I.ok.above))).trans (I.base.keep b o e n hb hx)
    · obtain ⟨sl, e1⟩ := I.base.slot b o e n hb hx
      exact ⟨sl, (hs.2 b (Nat.ne_of_lt (Nat.lt_of_lt_of_le (Heap.lt_size e) I.ok.above))).trans e1⟩
    · obtain ⟨o', e1⟩ := I.base.there b o e hx
      exact ⟨o', (hs.2 b (Nat.ne_of_lt (Nat.lt_of_lt_of_le (Heap.lt_size e) I.ok.above))).trans e1⟩
    · by_cases hj : j = i
      · subst hj
        rw [hi] at e1; cases e1
        rw [List.getElem?_set_self hiσ] at e2
        cases e2
        exact ⟨u, r, .inl ⟨hk, by simp⟩⟩
      · rw [List.getElem?_set_ne (Ne.symm hj)] at e2
        obtain ⟨u', r', q⟩ := hl j y v' e1 e2 e3
        refine ⟨u', r', ?_⟩
        rcases q with ⟨k, e⟩ | ⟨k, c, e, z⟩
        · refine .inl ⟨k, ?_⟩
          have : y ≠ x := fun e => hj (nodup_ix hN e1 (e ▸ hi))
          simp [this, e]
        · exact .inr ⟨k, c, e, z.sameBut hs (cne y c e)⟩
    · obtain ⟨w', z⟩ := I.cell y c e
      exact ⟨w', z.sameBut hs (cne y c e)⟩
    · obtain ⟨e, n, ne, nf, d⟩ := I.pin p hp
      exact ⟨(hs.2 p.1 ne).trans e, n, ne, nf, d⟩
  · have hfn : X.fn x = true := by
      rcases hf with z | z
      · exact z
      · rw [z] at hk; cases hk
    obtain ⟨c, hc⟩ := I.ok.has x (.inl hk)
    obtain ⟨w', z⟩ := I.cell x c hc
    refine wpAny_storeName_cell I.ok.kind hk hc z (fun h' hc' hs => ?_)
    obtain ⟨oc, hoc, hocd⟩ := id z
    refine h { s with heap := h' } ⟨I.ok, I.os, I.bare, ⟨fun b o e n hb hx => ?_, fun b o e n hb hx => ?_, I.base.free, fun b o e hx => ?_, I.base.tups, I.base.frzs, I.base.tbls⟩, ⟨m, hn.sameBut hs (Ne.symm (cne x c hc)), fun j y v' e1 e2 e3 => ?_⟩, fun y c' e => ?_, I.free, I.freeC, fun p hp => ?_, tracked ⟨oc, hoc, I.freeC x c hc⟩ hs, by simpa using I.len⟩ ⟨c, hs, .inr hc⟩
    · exact (hs.2 b (Nat.ne_of_lt (Nat.lt_of_lt_of_le (Heap.lt_size e) (I.ok.cab x c hfn hc)))).trans (I.base.keep b o e n hb hx)
    · obtain ⟨sl, e1⟩ := I.base.slot b o e n hb hx
      exact ⟨sl, (hs.2 b (Nat.ne_of_lt (Nat.lt_of_lt_of_le (Heap.lt_size e) (I.ok.cab x c hfn hc)))).trans e1⟩
    · obtain ⟨o', e1⟩ := I.base.there b o e hx
      exact ⟨o', (hs.2 b (Nat.ne_of_lt (Nat.lt_of_lt_of_le (Heap.lt_size e) (I.ok.cab x c hfn hc)))).trans e1⟩
    · by_cases hj : j = i
      · subst hj
        rw [hi] at e1; cases e1
        rw [List.getElem?_set_self hiσ] at e2
        cases e2
        exact ⟨u, r, .inr ⟨.inl hk, c, hc, hc'⟩⟩
      · rw [List.getElem?_set_ne (Ne.symm hj)] at e2
        obtain ⟨u', r', q⟩ := hl j y v' e1 e2 e3
        refine ⟨u', r', ?_⟩
        rcases q with q | ⟨k, c', e, z'⟩
        · exact .inl q
        · refine .inr ⟨k, c', e, z'.sameBut hs ?_⟩
          rintro rfl
          exact hj (nodup_ix hN e1 (I.ok.inj _ _ _ e hc ▸ hi))
    · by_cases hcc : c' = c
      · subst hcc; exact ⟨_, hc'⟩
      · obtain ⟨w2, z2⟩ := I.cell y c' e
        exact ⟨w2, z2.sameBut hs hcc⟩
    · obtain ⟨e, n, ne, nf, d⟩ := I.pin p hp
      refine ⟨(hs.2 p.1 ?_).trans e, n, ne, nf, d⟩
      intro q
      rw [q, hoc] at e
      have q' : oc = p.2 := Option.some.inj e
      exact d w' (by rw [← q']; exact hocd)
theorem store_ok {M : Model} {A : Around} {E : Value → Shared → Prop} {i : Nat} {x : Str} {v : V} {u : Value} {Q : Unit → Shared → Prop} (I : Inv X pins σ H s) (hN : X.N.Nodup) (hi : X.N[i]? = some x) (hx : Loc X.env.scope x) (r : RelV v u)
    (h : ∀ s', Inv X pins (σ.set i (some v)) H s' → Q () s') (hf : X.fn x = true ∨ X.env.scope.names.lookup x = some .local := by first | exact .inl rfl | exact .inr rfl | assumption) : wpAny M A (storeName X.env x u) Q E s :=
  store_ok2 I hN hi hx r (fun s' I' _ => h s' I') hf

theorem Inv.call' {s' : Shared} {ch : List Addr} (I : Inv X pins σ H s) (ho : s'.os = s.os) (u : Un (frs X.stack) ch H H' s.heap s'.heap) (hok : HOk X.prog X.w H' s'.heap) (hg : AllBare s'.gens)
    (hch : ∀ b ∈ ch, (b ∈ X.ex ∨ X.s₀.heap.objs.size ≤ b) ∧ b ≠ X.env.locals ∧ (∀ x c, X.env.cells.lookup x = some c → c ≠ b) ∧ ∀ p ∈ X.pn ++ pins, p.1 ≠ b) : Inv X pins σ H' s' := by
  obtain ⟨h', g', d', t', o'⟩ := s'
  have e : o' = s.os := ho
  subst e
  exact I.call (g' := g') (t' := t') (d' := d') u hok hg hch
end



abbrev XK := Value → Option Addr → Hp → Prop
abbrev St := List (Option V)
abbrev VK := V → Hp → Prop

abbrev TE := St → Hp → VK → Prop
abbrev TT := St → Hp → (Bool → Hp → Prop) → Prop
abbrev TA := St → Hp → (List V → Hp → Prop) → Prop

structure Ends where
  nx : St → Hp → Prop
  rt : VK
  bk : St → Hp → Prop := fun _ _ => False
  ct : St → Hp → Prop := fun _ _ => False
abbrev TS := Ends → St → Hp → Prop

def EP (X : Cx) (pins : List (Addr × Obj)) (σ : St) (Q : VK) (u : Value) (s' : Shared) : Prop := ∃ v H', Inv X pins σ H' s' ∧ RelV v u ∧ Q v H'
def TP (X : Cx) (pins : List (Addr × Obj)) (σ : St) (Q : Bool → Hp → Prop) (b : Bool) (s' : Shared) : Prop := ∃ H', Inv X pins σ H' s' ∧ Q b H'
def AP (X : Cx) (pins : List (Addr × Obj)) (σ : St) (Q : List V → Hp → Prop) (us : List Value) (s' : Shared) : Prop := ∃ vs H', Inv X pins σ H' s' ∧ Vals vs us ∧ Q vs H'
def SP (X : Cx) (pins : List (Addr × Obj)) (D : Ends) (f : Flow) (s' : Shared) : Prop :=
  match f with
  | .next => ∃ σ' H', Inv X pins σ' H' s' ∧ D.nx σ' H'
  | .brk => ∃ σ' H', Inv X pins σ' H' s' ∧ D.bk σ' H'
  | .cont => ∃ σ' H', Inv X pins σ' H' s' ∧ D.ct σ' H'
  | .ret u => ∃ v σ' H', Inv X pins σ' H' s' ∧ RelV v u ∧ D.rt v H'

def PE (X : Cx) (e : Expr) (t : TE) : Prop :=
  ∀ (pins : List (Addr × Obj)) (s : Shared) (σ : St) (H : Hp) (Q : VK), Inv X pins σ H s → t σ H Q → wpAny (model X.prog X.w) X.A (eval e X.env) (EP X pins σ Q) X.xe s
def PT (X : Cx) (e : Expr) (t : TT) : Prop :=
  ∀ (pins : List (Addr × Obj)) (s : Shared) (σ : St) (H : Hp) (Q : Bool → Hp → Prop), Inv X pins σ H s → t σ H Q → wpAny (model X.prog X.w) X.A (isTrue e X.env (eval e X.env)) (TP X pins σ Q) X.xe s

def PW (X : Cx) (e : Expr) (t : TT) : Prop :=
  ∀ (whole : Sem Value) (pins : List (Addr × Obj)) (s : Shared) (σ : St) (H : Hp) (Q : Bool → Hp → Prop), Inv X pins σ H s → t σ H Q → wpAny (model X.prog X.w) X.A (isTrue e X.env whole) (TP X pins σ Q) X.xe s
theorem PW.pt {X : Cx} {e : Expr} {t : TT} (h : PW X e t) : PT X e t := h _

def PA (X : Cx) (es : List Expr) (t : TA) : Prop :=
  ∀ (pos : Pos) (pins : List (Addr × Obj)) (s : Shared) (σ : St) (H : Hp) (Q : List V → Hp → Prop), Inv X pins σ H s → t σ H Q → wpAny (model X.prog X.w) X.A (spliced (backTo pos (starEach es X.env))) (AP X pins σ Q) X.xe s
def PS (X : Cx) (st : Stmt) (t : TS) : Prop :=
  ∀ (pins : List (Addr × Obj)) (s : Shared) (σ : St) (H : Hp) (D : Ends), Inv X pins σ H s → t D σ H → wpAny (model X.prog X.w) X.A (exec st X.env) (SP X pins D) X.xe s
def PSs (X : Cx) (st : List Stmt) (t : TS) : Prop :=
  ∀ (pins : List (Addr × Obj)) (s : Shared) (σ : St) (H : Hp) (D : Ends), Inv X pins σ H s → t D σ H → wpAny (model X.prog X.w) X.A (execs st X.env) (SP X pins D) X.xe s

theorem thn {α : Type} {t : Sem α} {Q Q' : α → Shared → Prop} {M : Model} {A : Around} {E : Value → Shared → Prop} {s : Shared} (h : wpAny M A t Q E s) (hQ : ∀ a s, Q a s → Q' a s) : wpAny M A t Q' E s := wpAny_mono h hQ fun _ _ x => x
end L2

namespace L2
open PySem PySem.Spec PyProof.Rows
section
variable {X : Cx}


def tVar (i : Nat) : TE := fun σ H Q => ∃ v, σ[i]? = some (some v) ∧ Q v H
def tC (v : V) : TE := fun _ H Q => Q v H
theorem pe_var {i : Nat} {x : Str} {pos : Pos} (hN : X.N[i]? = some x) (hv : Vis X.env.scope x) (hd : (x == ("__debug__" : Str)) = false := by decide) (hcd : (x == ("__classdict__" : Str)) = false := by decide) : PE X (.Name x pos) (tVar i) := by
  intro pins s σ H Q I h
  obtain ⟨v, e, h⟩ := h
  obtain ⟨m, hn, hl⟩ := I.loc
  obtain ⟨u, r, l⟩ := hl i x v hN e hv
  have fin : EP X pins σ Q u s := ⟨v, H, I, r, h⟩
  rcases l with ⟨hk, hm⟩ | ⟨hk, c, hc, hcell⟩
  · exact wpAny_Name (wpAny_loadName_local I.ok.kind hk hn hm fin) hd
  · rcases hk with hk | hk
    · exact wpAny_Name (wpAny_loadName_cell I.ok.kind hk hc hcell fin) hd
    · exact wpAny_Name (wpAny_loadName_free I.ok.kind hk hc hcell fin hcd) hd
theorem pe_int {i j pos} : PE X (.Constant (.int i) j pos) (tC (.int i)) := fun _ _ _ H _ I h => wpAny_Constant_int ⟨.int i, H, I.tok _, ⟨_, rfl⟩, h⟩
theorem pe_bl {b j pos} : PE X (.Constant (.bool b) j pos) (tC (.bl b)) := fun _ _ _ H _ I h => Constant_bool ⟨.bl b, H, I, rfl, h⟩
theorem pe_non {j pos} : PE X (.Constant .none j pos) (tC .non) := fun _ _ _ H _ I h => Constant_none ⟨.non, H, I, rfl, h⟩
theorem pe_str {x j pos} : PE X (.Constant (.str x) j pos) (tC (.str x)) := fun _ _ _ H _ I h => Calls.Constant_str ⟨.str x, H, I.tok _, ⟨_, rfl⟩, h⟩


def Gl (X : Cx) (x : Str) : Prop := X.env.kindOf x = some .globalImplicit
theorem ld_glob {E : Value → Shared → Prop} {pins : List (Addr × Obj)} {s : Shared} {σ : St} {H : Hp} {x : Str} {u : Value} {pos : Pos} {Q : Value → Shared → Prop} (I : Inv X pins σ H s) (hg : Gl X x) (hm : X.mg x = some u) (h : Q u s)
    (hd : (x == ("__debug__" : Str)) = false := by decide) : wpAny (model X.prog X.w) X.A (eval (.Name x pos) X.env) Q E s :=
  Calls.Name_function_global I.ok.kind hg (Calls.loadGlobal_global (by rw [I.ok.glob]; exact I.mod.glob.keeps I.bk) hm h) hd
theorem ld_blt {E : Value → Shared → Prop} {pins : List (Addr × Obj)} {s : Shared} {σ : St} {H : Hp} {x : Str} {u : Value} {pos : Pos} {Q : Value → Shared → Prop} (I : Inv X pins σ H s) (hg : Gl X x) (hm : X.mg x = none) (hv : bootBuiltins x = some u) (h : Q u s)
    (hn : x ≠ "__name__" := by decide) (hd : (x == ("__debug__" : Str)) = false := by decide) : wpAny (model X.prog X.w) X.A (eval (.Name x pos) X.env) Q E s := by
  obtain ⟨mb, h1, h2⟩ := I.mod.blt
  exact Calls.Name_function_global I.ok.kind hg (Calls.loadGlobal_builtin (by rw [I.ok.glob]; exact I.mod.glob.keeps I.bk) hm (by rw [I.ok.blt]; exact h1.keeps I.bk) ((h2 x hn).trans hv) h) hd

theorem pe_glob {x : Str} {v : V} {u : Value} {pos : Pos} (hg : Gl X x) (hm : X.mg x = some u) (r : RelV v u) (hd : (x == ("__debug__" : Str)) = false := by decide) : PE X (.Name x pos) (tC v) :=
  fun _ _ _ H _ I h => ld_glob I hg hm ⟨v, H, I, r, h⟩ hd
theorem pe_bltn {x : Str} {v : V} {u : Value} {pos : Pos} (hg : Gl X x) (hm : X.mg x = none) (hv : bootBuiltins x = some u) (r : RelV v u) (hn : x ≠ "__name__" := by decide) (hd : (x == ("__debug__" : Str)) = false := by decide) : PE X (.Name x pos) (tC v) :=
  fun _ _ _ H _ I h => ld_blt I hg hm hv ⟨v, H, I, r, h⟩ hn hd



variable {a b : Expr} {ta tb : TE} {pos : Pos}
def tB (t : TE) : TT := fun σ H Q => t σ H fun x H1 => ∃ c, x = .bl c ∧ Q c H1
theorem pt_val {e : Expr} {t : TE} (h : PE X e t) (he : ∀ whole, isTrue e X.env whole = (do let v ← whole; standAt e.pos; holding [v] (truthy v)) := by intro _; rfl) : PT X e (tB t) := by
  intro pins s σ H Q I hw
  refine isTrue_plain (thn (h pins s σ H _ I hw) fun v s1 ⟨x, H1, I1, r1, q1⟩ => ?_) (he _)
  obtain ⟨d, rfl, q⟩ := q1
  cases r1
  exact wpAny_truthy_bool ⟨H1, I1, q⟩


variable {tA tB' : TT} {rest : List Expr}
def tAnd (t u : TT) : TT := fun σ H Q => t σ H fun c H1 => if c = true then u σ H1 Q else Q false H1
def tOr (t u : TT) : TT := fun σ H Q => t σ H fun c H1 => if c = true then Q true H1 else u σ H1 Q
def tNot (t : TT) : TT := fun σ H Q => t σ H fun c H1 => Q (!c) H1
theorem pw_and1 (ha : PT X a tA) : PW X (.BoolOp .And [a] pos) tA := by
  intro wh pins s σ H Q I h
  refine isTrue_and (thn (ha pins s σ H Q I h) fun c s1 e => ?_)
  cases c with
  | true => exact isTrue_and_nil e
  | false => exact e
theorem pw_or1 (ha : PT X a tA) : PW X (.BoolOp .Or [a] pos) tA := by
  intro wh pins s σ H Q I h
  refine isTrue_or (thn (ha pins s σ H Q I h) fun c s1 e => ?_)
  cases c with
  | false => exact isTrue_or_nil e
  | true => exact e
theorem pw_and (ha : PT X a tA) (hb : PW X (.BoolOp .And (b :: rest) pos) tB') : PW X (.BoolOp .And (a :: b :: rest) pos) (tAnd tA tB') := by
  intro wh pins s σ H Q I h
  refine isTrue_and (thn (ha pins s σ H _ I h) fun c s1 ⟨H1, I1, q1⟩ => ?_)
  cases c with
  | true => exact hb wh pins s1 σ H1 Q I1 q1
  | false => exact ⟨H1, I1, q1⟩
theorem pw_or (ha : PT X a tA) (hb : PW X (.BoolOp .Or (b :: rest) pos) tB') : PW X (.BoolOp .Or (a :: b :: rest) pos) (tOr tA tB') := by
  intro wh pins s σ H Q I h
  refine isTrue_or (thn (ha pins s σ H _ I h) fun c s1 ⟨H1, I1, q1⟩ => ?_)
  cases c with
  | true => exact ⟨H1, I1, q1⟩
  | false => exact hb wh pins s1 σ H1 Q I1 q1
theorem pt_not (ha : PT X a tA) : PT X (.UnaryOp .Not a pos) (tNot tA) := by
  intro pins s σ H Q I h
  exact isTrue_not (ha pins s σ H (fun c H1 => Q (!c) H1) I h)

def tAndV (ta tb : TE) : TE := fun σ H Q => ta σ H fun x H1 => ∃ c, x = .bl c ∧ if c = true then tb σ H1 Q else Q (.bl false) H1
def tOrV (ta tb : TE) : TE := fun σ H Q => ta σ H fun x H1 => ∃ c, x = .bl c ∧ if c = true then Q (.bl true) H1 else tb σ H1 Q
def tNotV (ta : TE) : TE := fun σ H Q => ta σ H fun x H1 => ∃ c, x = .bl c ∧ Q (.bl (!c)) H1
def tIf (t : TT) (ta tb : TE) : TE := fun σ H Q => t σ H fun c H1 => if c = true then ta σ H1 Q else tb σ H1 Q
theorem pe_ifExp {c : Expr} (hc : PT X c tA) (ha : PE X a ta) (hb : PE X b tb) : PE X (.IfExp c a b pos) (tIf tA ta tb) := by
  intro pins s σ H Q I h
  refine wpAny_IfExp (thn (hc pins s σ H _ I h) fun d s1 ⟨H1, I1, q1⟩ => ?_)
  cases d with
  | true => exact ha pins s1 σ H1 Q I1 q1
  | false => exact hb pins s1 σ H1 Q I1 q1
end
end L2

namespace L2
open PySem PySem.Spec PyProof.Rows


def SqL (K : PySem.W.Frag) (H : Hp) (a : Addr) (xs : List V) : Prop :=
  Rd H a (.lst xs) ∨
    ∃ (o : Obj) (its : Array Value) (n : Nat), K.lookup a = some o ∧ o.cls = .type "list" ∧ o.dict = none ∧ o.data = .seq its n ∧ its.size ≤ sizeLine ∧ Vals xs its.toList
def SqT (K : PySem.W.Frag) (H : Hp) (a : Addr) (xs : List V) : Prop :=
  Rd H a (.tup xs) ∨
    ∃ (o : Obj) (its : Array Value) (n : Nat), K.lookup a = some o ∧ o.cls = .type "tuple" ∧ o.data = .seq its n ∧ its.size ≤ sizeLine ∧ Vals xs its.toList
def absV : Value → Option V
  | .none => some .non
  | .bool b => some (.bl b)
  | .int i _ => some (.int i)
  | .str x _ => some (.str x)
  | .bytes b _ => some (.byt b)
  | .float b _ => some (.flt b)
  | .ref a => some (.ref a)
  | .type n => some (.ty n)
  | _ => none
theorem RelV.abs {x : V} {u : Value} (r : RelV x u) : absV u = some x := by
  cases x with
  | non => cases r; rfl
  | bl _ => cases r; rfl
  | int _ => obtain ⟨t, rfl⟩ := r; rfl
  | str _ => obtain ⟨t, rfl⟩ := r; rfl
  | byt _ => obtain ⟨t, rfl⟩ := r; rfl
  | flt _ => obtain ⟨t, rfl⟩ := r; rfl
  | ref _ => cases r; rfl
  | ty _ => cases r; rfl
theorem RelV.inj {x y : V} {u : Value} (r : RelV x u) (q : RelV y u) : x = y := Option.some.inj (r.abs.symm.trans q.abs)
theorem Vals.inj : ∀ {xs ys : List V} {us : List Value}, Vals xs us → Vals ys us → xs = ys
  | _, _, _, .nil, .nil => rfl
  | _, _, _, .cons r t, .cons r' t' => by rw [r.inj r', Vals.inj t t']
section
variable {X : Cx} {pins : List (Addr × Obj)} {σ : St} {H : Hp} {s : Shared} {a : Addr} {xs ys : List V}
theorem SqL.of {K : PySem.W.Frag} (h : H a = some (.lst xs)) : SqL K H a xs := .inl (.inl h)
theorem SqT.of {K : PySem.W.Frag} (h : H a = some (.tup xs)) : SqT K H a xs := .inl (.inl h)
theorem Inv.list (I : Inv X pins σ H s) (h : SqL X.K H a xs) : ∃ its : List Value, Vals xs its ∧ PlainL s.heap a its.toArray ∧ xs.length ≤ sizeLine := by
  rcases h with h | ⟨o, its, n, hk, hc, hd, hs, hz, r⟩
  · obtain ⟨z, its, n, r, e⟩ := h.ok I.hok
    exact ⟨its, r, ⟨_, n, e, rfl, rfl, rfl⟩, z⟩
  · refine ⟨its.toList, r, ⟨o, n, I.kIn a o hk, hc, hd, by simpa using hs⟩, ?_⟩
    have e := r.length
    simp only [Array.length_toList] at e
    omega
theorem Inv.tuple (I : Inv X pins σ H s) (h : SqT X.K H a xs) : ∃ its : List Value, Vals xs its ∧ IsTup s.heap a its.toArray ∧ xs.length ≤ sizeLine := by
  rcases h with h | ⟨o, its, n, hk, hc, hs, hz, r⟩
  · obtain ⟨z, its, r, p⟩ := h.ok I.hok
    exact ⟨its, r, p, z⟩
  · refine ⟨its.toList, r, ⟨o, I.kIn a o hk, hc, n, by simpa using hs⟩, ?_⟩
    have e := r.length
    simp only [Array.length_toList] at e
    omega
theorem Inv.list_inj (I : Inv X pins σ H s) (h : SqL X.K H a xs) (h' : SqL X.K H a ys) : xs = ys := by
  obtain ⟨its, r, ⟨o, n, e, _, _, d⟩, _⟩ := I.list h
  obtain ⟨its', r', ⟨o', n', e', _, _, d'⟩, _⟩ := I.list h'
  rw [e] at e'; cases e'
  rw [d] at d'
  injection d' with d1 _
  have : its = its' := by simpa using congrArg Array.toList d1
  subst this
  exact r.inj r'
theorem Inv.tuple_inj (I : Inv X pins σ H s) (h : SqT X.K H a xs) (h' : SqT X.K H a ys) : xs = ys := by
  obtain ⟨its, r, ⟨o, e, _, n, d⟩, _⟩ := I.tuple h
  obtain ⟨its', r', ⟨o', e', _, n', d'⟩, _⟩ := I.tuple h'
  rw [e] at e'; cases e'
  rw [d] at d'
  injection d' with d1 _
  have : its = its' := by simpa using congrArg Array.toList d1
  subst this
  exact r.inj r'
end


abbrev Cx.wish (X : Cx) (E : Value → Shared → Prop) : Cx := { X with xe := E }

abbrev Cx.nox (X : Cx) : Cx := X.wish fun _ _ => False
theorem Cx.Ok.wish {X : Cx} (ok : X.Ok) (E : Value → Shared → Prop) : (X.wish E).Ok :=
  ⟨ok.mod, ok.kind, ok.glob, ok.blt, ok.above, ok.inj, ok.has, ok.cab, ok.hd, ok.frames, ok.stk, ok.exf, ok.bs, ok.bsz, ok.noex, ok.exfs, ok.funs, ok.frf⟩
theorem Cx.Ok.unwish {X : Cx} {E : Value → Shared → Prop} (ok : (X.wish E).Ok) : X.Ok :=
  ⟨ok.mod, ok.kind, ok.glob, ok.blt, ok.above, ok.inj, ok.has, ok.cab, ok.hd, ok.frames, ok.stk, ok.exf, ok.bs, ok.bsz, ok.noex, ok.exfs, ok.funs, ok.frf⟩
section
variable {X : Cx} {pins : List (Addr × Obj)} {σ : St} {H : Hp} {s : Shared} {E : Value → Shared → Prop}
theorem Inv.wish (I : Inv X pins σ H s) (E : Value → Shared → Prop) : Inv (X.wish E) pins σ H s := ⟨I.ok.wish E, I.os, I.bare, I.base, I.loc, I.cell, I.free, I.freeC, I.pin, I.hok, I.len⟩
theorem Inv.unwish (I : Inv (X.wish E) pins σ H s) : Inv X pins σ H s := ⟨I.ok.unwish, I.os, I.bare, I.base, I.loc, I.cell, I.free, I.freeC, I.pin, I.hok, I.len⟩
theorem SP.unwish {D : Ends} {f : Flow} {s' : Shared} (h : SP (X.wish E) pins D f s') : SP X pins D f s' := by
  cases f with
  | next => obtain ⟨σ', H', I, q⟩ := h; exact ⟨σ', H', I.unwish, q⟩
  | brk => obtain ⟨σ', H', I, q⟩ := h; exact ⟨σ', H', I.unwish, q⟩
  | cont => obtain ⟨σ', H', I, q⟩ := h; exact ⟨σ', H', I.unwish, q⟩
  | ret u => obtain ⟨v, σ', H', I, r, q⟩ := h; exact ⟨v, σ', H', I.unwish, r, q⟩
theorem PE.nox {e : Expr} {t : TE} (h : PE X.nox e t) : PE X e t := fun pins s σ H Q I hw =>
  wpAny_mono (h pins s σ H Q (I.wish _) hw) (fun _ _ ⟨v, H', I', r, q⟩ => ⟨v, H', I'.unwish, r, q⟩) fun _ _ z => False.elim z
theorem PT.nox {e : Expr} {t : TT} (h : PT X.nox e t) : PT X e t := fun pins s σ H Q I hw =>
  wpAny_mono (h pins s σ H Q (I.wish _) hw) (fun _ _ ⟨H', I', q⟩ => ⟨H', I'.unwish, q⟩) fun _ _ z => False.elim z
theorem PSs.nox {st : List Stmt} {t : TS} (h : PSs X.nox st t) : PSs X st t := fun pins s σ H D I hw =>
  wpAny_mono (h pins s σ H D (I.wish _) hw) (fun _ _ q => q.unwish) fun _ _ z => False.elim z
end


section
variable {X : Cx} {st : Stmt} {rest : List Stmt} {t u : TS} {e : Expr} {te : TE} {pos : Pos}
def tNext : TS := fun D σ H => D.nx σ H
def tSeq (t u : TS) : TS := fun D σ H => t { D with nx := u D } σ H
theorem pss_nil : PSs X [] tNext := fun _ _ σ H _ I h => wpAny_execs_nil ⟨σ, H, I, h⟩
theorem pss_cons (h1 : PS X st t) (h2 : PSs X rest u) : PSs X (st :: rest) (tSeq t u) := by
  intro pins s σ H D I h
  refine wpAny_execs_cons (thn (h1 pins s σ H { D with nx := u D } I h) fun f s1 q => ?_)
  cases f with
  | next =>
    obtain ⟨σ', H', I', q⟩ := q
    exact h2 pins s1 σ' H' D I' q
  | ret v => exact q
  | brk => exact q
  | cont => exact q
theorem pss_one (h1 : PS X st t) : PSs X [st] t := by
  intro pins s σ H D I h
  refine wpAny_execs_cons (thn (h1 pins s σ H D I h) fun f s1 q => ?_)
  cases f with
  | next => exact wpAny_execs_nil q
  | ret v => exact q
  | brk => exact q
  | cont => exact q
theorem Inv.quiet {pins : List (Addr × Obj)} {σ : St} {H : Hp} {s : Shared} (I : Inv X pins σ H s) : interactive X.env = false := by simp [interactive, I.ok.kind]

def tDrop (te : TE) : TS := fun D σ H => te σ H fun _ H1 => D.nx σ H1
theorem ps_expr (he : PE X e te) (hs : swapsWith e none pos.line X.env = pure false := by rfl) : PS X (.Expr e pos) (tDrop te) := by
  intro pins s σ H D I h
  exact wpAny_Expr_any (thn (he pins s σ H _ I h) fun v s1 ⟨x, H1, I1, r1, q1⟩ => ⟨σ, H1, I1, q1⟩) I.quiet hs
def tRet (te : TE) : TS := fun D σ H => te σ H D.rt
theorem ps_ret (he : PE X e te) : PS X (.Return (some e) pos) (tRet te) := by
  intro pins s σ H D I h
  exact wpAny_Return_some (thn (he pins s σ H _ I h) fun v s1 ⟨x, H1, I1, r1, q1⟩ => ⟨x, σ, H1, I1, r1, q1⟩)
def tRetN : TS := fun D _ H => D.rt .non H
def tIfS (c : TT) (t u : TS) : TS := fun D σ H => c σ H fun b H1 => if b = true then t D σ H1 else u D σ H1
theorem ps_if {c : Expr} {a b : List Stmt} {tc : TT} (hc : PT X c tc) (ha : PSs X a t) (hb : PSs X b u) : PS X (.If c a b pos) (tIfS tc t u) := by
  intro pins s σ H D I h
  refine wpAny_If (thn (hc pins s σ H _ I h) fun d s1 ⟨H1, I1, q1⟩ => ?_)
  cases d with
  | true => exact ha pins s1 σ H1 D I1 q1
  | false => exact hb pins s1 σ H1 D I1 q1

def tNever : TS := fun _ _ _ => False
end


abbrev TG := V → St → Hp → (St → Hp → Prop) → Prop
abbrev TGs := List V → St → Hp → (St → Hp → Prop) → Prop
def PG (X : Cx) (target : Expr) (t : TG) : Prop :=
  ∀ (pins : List (Addr × Obj)) (s : Shared) (σ : St) (H : Hp) (v : V) (u : Value) (Q : St → Hp → Prop), Inv X pins σ H s → RelV v u → t v σ H Q →
    wpAny (model X.prog X.w) X.A (assign target X.env u) (fun _ s' => ∃ σ' H', Inv X pins σ' H' s' ∧ Q σ' H') X.xe s

def PGs (X : Cx) (ts : List Expr) (t : TGs) : Prop :=
  ∀ (pins : List (Addr × Obj)) (s : Shared) (σ : St) (H : Hp) (vs : List V) (us : List Value) (Q : St → Hp → Prop), Inv X pins σ H s → Vals vs us → t vs σ H Q →
    wpAny (model X.prog X.w) X.A (assignInOrder ((assignEach ts X.env).map (·.2)) us) (fun _ s' => ∃ σ' H', Inv X pins σ' H' s' ∧ Q σ' H') X.xe s

abbrev TIp := V → V → Hp → VK → Prop
section
variable {X : Cx} {pos : Pos}
def gName (i : Nat) : TG := fun v σ H Q => Q (σ.set i (some v)) H
theorem pg_name {i : Nat} {x : Str} (hN : X.N.Nodup) (hi : X.N[i]? = some x) (hx : Loc X.env.scope x) (hf : X.fn x = true ∨ X.env.scope.names.lookup x = some .local := by first | exact .inl rfl | exact .inr rfl | assumption) : PG X (.Name x pos) (gName i) := by
  intro pins s σ H v u Q I r h
  exact wpAny_assign_Name (store_ok I hN hi hx r (fun s' I' => ⟨_, H, I', h⟩) hf)
def gNil : TGs := fun vs σ H Q => vs = [] ∧ Q σ H
def gCons (t : TG) (u : TGs) : TGs := fun vs σ H Q => ∃ v r, vs = v :: r ∧ t v σ H fun σ' H' => u r σ' H' Q
theorem pgs_nil : PGs X [] gNil := by
  intro pins s σ H vs us Q I r h
  obtain ⟨e, h⟩ := h
  subst e
  cases r
  exact assignInOrder_nil ⟨σ, H, I, h⟩
theorem pgs_cons {e : Expr} {es : List Expr} {t : TG} {u : TGs} (h1 : PG X e t) (h2 : PGs X es u)
    (hs : (assignEach (e :: es) X.env).map (·.2) = assign e X.env :: (assignEach es X.env).map (·.2) := by rfl) : PGs X (e :: es) (gCons t u) := by
  intro pins s σ H vs us Q I r h
  obtain ⟨v, vr, e1, h⟩ := h
  subst e1
  cases r with
  | cons r rr =>
    rw [hs]
    refine assignInOrder_cons (thn (h1 pins s σ H _ _ _ I r h) fun _ s1 ⟨σ1, H1, I1, q1⟩ => ?_)
    exact h2 pins s1 σ1 H1 _ _ Q I1 rr q1

def gTup (K : PySem.W.Frag) (n : Nat) (t : TGs) : TG := fun v σ H Q => ∃ a xs, v = .ref a ∧ SqT K H a xs ∧ xs.length = n ∧ t xs σ H Q
theorem pg_tup {es : List Expr} {k : Nat} {t : TGs} {n : Nat} (hc : X.calm = true) (h : PGs X es t)
    (hn : (assignEach es X.env).length = n := by rfl) (hst : (assignEach es X.env).findIdx? (·.1) = none := by rfl) : PG X (.Tuple es k pos) (gTup X.K n t) := by
  intro pins s σ H v u Q I r hw
  obtain ⟨a, xs, e1, hq, hl, hw⟩ := hw
  subst e1
  cases r
  obtain ⟨its, rv, ht, hz⟩ := I.tuple hq
  refine assign_Tuple_tuple (I.ok.hd hc) ht (by simp [hn, ← hl, rv.length]) hst fun h' hx => ?_
  have I1 : Inv X pins σ H { s with heap := h' } := I.kept (t' := s.toks) fun b o e => hx b o (Nat.ne_of_lt (Heap.lt_size e)) e
  exact h pins _ σ H xs _ Q I1 (by simpa using rv) hw

def tAsg (te : TE) (g : TG) : TS := fun D σ H => te σ H fun x H1 => g x σ H1 D.nx
theorem ps_asg {tg e : Expr} {te : TE} {g : TG} (he : PE X e te) (hg : PG X tg g) (hs : swapsWithSole [tg] e pos.line X.env = pure false := by rfl) (hw : swappedStores [tg] e X.env = pure none := by rfl)
    (h1 : (assignEach [tg] X.env).map (·.2) = [assign tg X.env] := by rfl) : PS X (.Assign [tg] e pos) (tAsg te g) := by
  intro pins s σ H D I h
  refine wpAny_Assign_stores (thn (he pins s σ H _ I h) fun v s1 ⟨x, H1, I1, r1, q1⟩ => ?_) hs hw
  rw [h1]
  exact thn (hg pins s1 σ H1 x v _ I1 r1 q1) fun _ s2 q => q

theorem ps_set {i : Nat} {x : Str} {e : Expr} {te : TE} {pos' : Pos} (hN : X.N.Nodup) (hi : X.N[i]? = some x) (hx : Loc X.env.scope x) (he : PE X e te) (hs : swapsWith e (some (.Name x pos')) pos.line X.env = pure false := by rfl) (hf : X.fn x = true ∨ X.env.scope.names.lookup x = some .local := by first | exact .inl rfl | exact .inr rfl | assumption) :
    PS X (.Assign [.Name x pos'] e pos) (tAsg te (gName i)) := by
  intro pins s σ H D I h
  refine wpAny_Assign_Name (thn (he pins s σ H _ I h) fun v s1 ⟨y, H1, I1, r1, q1⟩ => ?_) hs
  exact store_ok I1 hN hi hx r1 (fun s2 I2 => ⟨_, H1, I2, q1⟩) hf

def tAug (i : Nat) (te : TE) (ti : TIp) : TS := fun D σ H => ∃ x, σ[i]? = some (some x) ∧ te σ H fun y H1 => ti x y H1 fun z H2 => D.nx (σ.set i (some z)) H2
def ipI (f : Int → Int → Int) : TIp := fun x y H Q => ∃ i j, x = .int i ∧ y = .int j ∧ Q (.int (f i j)) H
end


section
variable {X : Cx} {pos : Pos}

def tWhile (c : TT) (tb : TS) : TS := fun D σ H => ∃ W : Nat → St → Hp → Prop, (∃ m, W m σ H) ∧ ∀ m σ H, W m σ H →
  c σ H fun b H1 => if b = true then ∃ N : St → Hp → Prop, (∀ σ' H', N σ' H' → ∃ m', m' < m ∧ W m' σ' H') ∧ tb { D with nx := N, ct := N, bk := D.nx } σ H1 else D.nx σ H1
end



structure It where
  go : Nat → Hp → Prop
  yld : Nat → Hp → V → Hp → Prop
  stop : Nat → Hp → Prop

def FpOk (X : Cx) (pins : List (Addr × Obj)) (H : Hp) (b : Addr) : Prop :=
  H b = none ∧ b ≠ X.env.locals ∧ b ∉ X.fs ∧ (b ∈ X.ex ∨ X.s₀.heap.objs.size ≤ b) ∧ (∀ x c, X.env.cells.lookup x = some c → c ≠ b) ∧ ∀ p ∈ X.pn ++ pins, p.1 ≠ b
theorem Inv.fpOk {X : Cx} {pins : List (Addr × Obj)} {σ : St} {H H' : Hp} {s : Shared} {b : Addr} (I : Inv X pins σ H s) (hb : s.heap.objs.size ≤ b) (hn : H' b = none) : FpOk X pins H' b := by
  refine ⟨hn, Nat.ne_of_gt (Nat.lt_of_lt_of_le I.lt hb), I.nofs hb, .inr (Nat.le_trans I.sz hb), fun x c e z => ?_, fun p hp z => ?_⟩
  · obtain ⟨v, q⟩ := I.cell x c e
    exact absurd (Nat.lt_of_lt_of_le q.lt (by rw [z]; exact hb)) (Nat.lt_irrefl _)
  · exact absurd (Nat.lt_of_lt_of_le (Heap.lt_size (I.pin p hp).1) (by rw [z]; exact hb)) (Nat.lt_irrefl _)
structure Turn (P : Program) (w : World) (K : PySem.W.Frag) (tg : Expr) (J : It) (fp : List Addr) (it : Addr) (tn : Nat → Heap → Prop) : Prop where
  mem : it ∈ fp
  obj : ∀ i h, tn i h → ∀ b ∈ fp, ∃ o, h.get? b = some o ∧ ∀ v, o.data ≠ .cell v
  keep : ∀ i h h', tn i h → (∀ b ∈ fp, ∀ o, h.get? b = some o → h'.get? b = some o) → tn i h'
  item : ∀ (X : Cx), X.prog = P → X.w = w → X.K = K → X.calm = true → ∀ (i : Nat) (pins : List (Addr × Obj)) (s : Shared) (σ : St) (H : Hp) (E : Value → Shared → Prop), Inv X pins σ H s → (∀ b ∈ fp, FpOk X pins H b) → tn i s.heap → J.go i H →
    wpAny (model P w) X.A (pyNext (.ref it)) (fun r s1 => ∃ u, r = some u ∧
      wpAny (model P w) X.A (letOwnedTupleGo tg (.ref it) u) (fun _ s2 => ∃ x H', Inv X pins σ H' s2 ∧ RelV x u ∧ J.yld i H x H' ∧ tn (i + 1) s2.heap ∧ ∀ b ∈ fp, H' b = none) E s1) E s
  done : ∀ (X : Cx), X.prog = P → X.w = w → X.K = K → X.calm = true → ∀ (i : Nat) (pins : List (Addr × Obj)) (s : Shared) (σ : St) (H : Hp) (E : Value → Shared → Prop), Inv X pins σ H s → (∀ b ∈ fp, FpOk X pins H b) → tn i s.heap → J.stop i H →
    wpAny (model P w) X.A (pyNext (.ref it)) (fun r s1 => r = none ∧ Inv X pins σ H s1) E s
  self : ∀ (A : Around) (i : Nat) (s : Shared) (Q : Value → Shared → Prop) (E : Value → Shared → Prop), tn i s.heap → Q (.ref it) s → wpAny (model P w) A (pyIter (.ref it)) Q E s
abbrev TI := St → Hp → (It → Hp → Prop) → Prop

def PIE (X : Cx) (pins : List (Addr × Obj)) (σ : St) (tg : Expr) (R : It → Hp → Prop) (itv : Value) (s2 : Shared) : Prop :=
  ∃ (it : Addr) (fp : List Addr) (tn : Nat → Heap → Prop) (J : It) (H' : Hp), itv = .ref it ∧ Inv X pins σ H' s2 ∧ Turn X.prog X.w X.K tg J fp it tn ∧ tn 0 s2.heap ∧ (∀ b ∈ fp, FpOk X pins H' b) ∧ R J H'
def PI (X : Cx) (tg iter : Expr) (wi : TI) : Prop :=
  ∀ (pins : List (Addr × Obj)) (s : Shared) (σ : St) (H : Hp) (R : It → Hp → Prop), Inv X pins σ H s → wi σ H R →
    wpAny (model X.prog X.w) X.A (eval iter X.env) (fun v s1 => wpAny (model X.prog X.w) X.A (pyIter v) (PIE X pins σ tg R) X.xe s1) X.xe s


theorem go_of {M : Model} {A : Around} {E : Value → Shared → Prop} {s : Shared} {tg : Expr} {it : Addr} {u : Value} {o : Obj} {n : String} {vs : Array Value} {Q : Unit → Shared → Prop} (ho : s.heap.get? it = some o) (hc : o.cls = .type n) (hd : o.data = .fields vs)
    (hn : ["enumerate", "zip", "dict_itemiterator", "dict_reverseitemiterator", "odict_iterator", "itertools.zip_longest", "itertools.pairwise"].contains n = false) (hQ : Q () s) : wpAny M A (letOwnedTupleGo tg (.ref it) u) Q E s := by
  unfold letOwnedTupleGo
  cases tg <;> first
    | exact wpAny_pure hQ
    | (cases u <;> first
        | exact wpAny_pure hQ
        | (refine wpAny_bind (wpAny_load ho ?_)
           rw [hc, hd]
           show wpAny M A (if (["enumerate", "zip", "dict_itemiterator", "dict_reverseitemiterator", "odict_iterator", "itertools.zip_longest", "itertools.pairwise"].contains n && vs[0]? == some (rawInt _)) = true then _ else _) Q E s
           rw [if_neg (by intro h; rw [hn, Bool.false_and] at h; cases h)]
           exact wpAny_pure hQ))


def Itl (K : PySem.W.Frag) (a : Addr) : It :=
  ⟨fun i H => ∃ xs x, SqL K H a xs ∧ xs[i]? = some x, fun i H x H' => H' = H ∧ ∀ xs, SqL K H a xs → xs[i]? = some x, fun i H => ∃ xs, SqL K H a xs ∧ xs.length ≤ i⟩
def Itt (K : PySem.W.Frag) (a : Addr) : It :=
  ⟨fun i H => ∃ xs x, SqT K H a xs ∧ xs[i]? = some x, fun i H x H' => H' = H ∧ ∀ xs, SqT K H a xs → xs[i]? = some x, fun i H => ∃ xs, SqT K H a xs ∧ xs.length ≤ i⟩

def Itr (lo : Int) (n : Nat) : It := ⟨fun i _ => i < n, fun i H x H' => H' = H ∧ x = .int (lo + i), fun i _ => n ≤ i⟩
theorem turn_list {P : Program} {w : World} {K : PySem.W.Frag} {tg : Expr} (a it : Addr) : Turn P w K tg (Itl K a) [it] it (fun i h => h.IsListIter it a i) where
  mem := by simp
  obj := fun i h st b hb => by
    have e : b = it := by simpa using hb
    subst e
    obtain ⟨o, e, c, d⟩ := st
    exact ⟨o, e, fun v z => by rw [d] at z; cases z⟩
  keep := fun i h h' st k => st.at fun o e => k it (by simp) o e
  item := by
    intro X hP hw hK hc i pins s σ H E I hf st hg
    subst hP hw hK
    obtain ⟨xs, x, hq, hx⟩ := hg
    obtain ⟨its, rv, p, hz⟩ := I.list hq
    obtain ⟨u, hu, ru⟩ := rv.get hx
    obtain ⟨f0, f1, f2, f3, f4, f5⟩ := hf it (by simp)
    refine wpAny_pyNext_list_item st p.isList (x := u) (by simpa using hu) fun h' st' sb => ?_
    have I1 : Inv X pins σ H { s with heap := h' } := I.turned (t' := s.toks) (fun b o hb e => (sb.2 b hb).trans e) f0 f1 f3 f4 f5
    obtain ⟨o, e, c, d⟩ := id st'
    exact ⟨u, rfl, go_of (s := { s with heap := h' }) e c d (by decide) ⟨x, H, I1, ru, ⟨rfl, fun ys hy => by rw [I.list_inj hy hq]; exact hx⟩, st', fun b hb => (hf b hb).1⟩⟩
  done := by
    intro X hP hw hK hc i pins s σ H E I hf st hg
    subst hP hw hK
    obtain ⟨xs, hq, hx⟩ := hg
    obtain ⟨its, rv, p, hz⟩ := I.list hq
    obtain ⟨f0, f1, f2, f3, f4, f5⟩ := hf it (by simp)
    have hl := rv.length
    exact wpAny_pyNext_list_end (I.ok.hd hc) st p.isList (by simp; omega) fun h' eb => ⟨rfl, I.turned (t' := s.toks) (fun b o hb e => eb b o hb e) f0 f1 f3 f4 f5⟩
  self := fun _ _ _ _ _ st h => wpAny_pyIter_listiter st h
theorem turn_tuple {P : Program} {w : World} {K : PySem.W.Frag} {tg : Expr} (a it : Addr) : Turn P w K tg (Itt K a) [it] it (fun i h => h.IsTupleIter it a i) where
  mem := by simp
  obj := fun i h st b hb => by
    have e : b = it := by simpa using hb
    subst e
    obtain ⟨o, e, c, d⟩ := st
    exact ⟨o, e, fun v z => by rw [d] at z; cases z⟩
  keep := fun i h h' st k => st.at fun o e => k it (by simp) o e
  item := by
    intro X hP hw hK hc i pins s σ H E I hf st hg
    subst hP hw hK
    obtain ⟨xs, x, hq, hx⟩ := hg
    obtain ⟨its, rv, p, hz⟩ := I.tuple hq
    obtain ⟨u, hu, ru⟩ := rv.get hx
    obtain ⟨f0, f1, f2, f3, f4, f5⟩ := hf it (by simp)
    refine wpAny_pyNext_tuple_item st (show s.heap.IsTuple a its.toArray from p) (x := u) (by simpa using hu) fun h' st' sb => ?_
    have I1 : Inv X pins σ H { s with heap := h' } := I.turned (t' := s.toks) (fun b o hb e => (sb.2 b hb).trans e) f0 f1 f3 f4 f5
    obtain ⟨o, e, c, d⟩ := id st'
    exact ⟨u, rfl, go_of (s := { s with heap := h' }) e c d (by decide) ⟨x, H, I1, ru, ⟨rfl, fun ys hy => by rw [I.tuple_inj hy hq]; exact hx⟩, st', fun b hb => (hf b hb).1⟩⟩
  done := by
    intro X hP hw hK hc i pins s σ H E I hf st hg
    subst hP hw hK
    obtain ⟨xs, hq, hx⟩ := hg
    obtain ⟨its, rv, p, hz⟩ := I.tuple hq
    obtain ⟨f0, f1, f2, f3, f4, f5⟩ := hf it (by simp)
    have hl := rv.length
    exact wpAny_pyNext_tuple_end (I.ok.hd hc) st (show s.heap.IsTuple a its.toArray from p) (by simp; omega) fun h' eb => ⟨rfl, I.turned (t' := s.toks) (fun b o hb e => eb b o hb e) f0 f1 f3 f4 f5⟩
  self := fun _ _ _ _ _ st h => wpAny_pyIter_tupleiter st h
theorem turn_range {P : Program} {w : World} {K : PySem.W.Frag} {tg : Expr} (it : Addr) (lo : Int) (n : Nat) : Turn P w K tg (Itr lo n) [it] it (fun i h => IsRangeIter h it (lo + (i : Nat) * 1) ((n : Int) - (i : Nat)) 1) where
  mem := by simp
  obj := fun i h st b hb => by
    have e : b = it := by simpa using hb
    subst e
    exact ⟨_, st, fun v z => by
      have z' : Data.fields _ = Data.cell v := z
      cases z'⟩
  keep := fun i h h' st k => k it (by simp) _ st
  item := by
    intro X hP hw hK hc i pins s σ H E I hf st hg
    subst hP hw hK
    obtain ⟨f0, f1, f2, f3, f4, f5⟩ := hf it (by simp)
    have W := Walks.range (prog := X.prog) (w := X.w) (I.ok.hd hc) it lo 1 n
    refine W.item i s _ _ hg st fun v h' tk hv st' kk => ?_
    obtain ⟨t, rfl⟩ := hv
    have I1 : Inv X pins σ H { s with heap := h', toks := tk } := I.turned (fun b o hb e => kk b o (by simpa using hb) e) f0 f1 f3 f4 f5
    refine ⟨_, rfl, go_of (s := { s with heap := h', toks := tk }) (n := "range_iterator") st' rfl rfl (by decide) ⟨.int (lo + i), H, I1, ⟨t, ?_⟩, ⟨rfl, rfl⟩, st', fun b hb => (hf b hb).1⟩⟩
    rw [Int.mul_one]
  done := by
    intro X hP hw hK hc i pins s σ H E I hf st hg
    subst hP hw hK
    obtain ⟨f0, f1, f2, f3, f4, f5⟩ := hf it (by simp)
    exact wpAny_pyNext_range_end (I.ok.hd hc) st (by have : n ≤ i := hg; omega) fun h' eb => ⟨rfl, I.turned (t' := s.toks) (fun b o hb e => eb b o hb e) f0 f1 f3 f4 f5⟩
  self := fun _ _ _ _ _ st h => wpAny_pyIter_rangeiter st h
end L2

namespace L2
open PySem PySem.Spec PyProof.Rows
section
variable {X : Cx} {tg : Expr}
def iList (K : PySem.W.Frag) (tl : TE) : TI := fun σ H R => tl σ H fun x H1 => ∃ a, x = .ref a ∧ (∃ xs, SqL K H1 a xs) ∧ R (Itl K a) H1
def iTup (K : PySem.W.Frag) (tl : TE) : TI := fun σ H R => tl σ H fun x H1 => ∃ a, x = .ref a ∧ (∃ xs, SqT K H1 a xs) ∧ R (Itt K a) H1
theorem pi_list {l : Expr} {tl : TE} (hl : PE X l tl) : PI X tg l (iList X.K tl) := by
  intro pins s σ H R I h
  refine thn (hl pins s σ H _ I h) fun v s1 ⟨x, H1, I1, r1, q1⟩ => ?_
  obtain ⟨a, e, ⟨xs, hq⟩, q⟩ := q1
  subst e
  cases r1
  obtain ⟨its, rv, p, hz⟩ := I1.list hq
  refine wpAny_pyIter_list p.isList ?_
  refine ⟨s1.heap.objs.size, [s1.heap.objs.size], _, _, H1, rfl, I1.kept (t' := s1.toks) fun b o e => Heap.get?_push_of_some _ e, turn_list a _, ⟨_, Heap.get?_push_size _ rfl, rfl, rfl⟩, fun b hb => ?_, q⟩
  have e : b = s1.heap.objs.size := by simpa using hb
  subst e
  exact I1.fpOk (Nat.le_refl _) (I1.hok.fresh (Nat.le_refl _))
theorem pi_tup {l : Expr} {tl : TE} (hl : PE X l tl) : PI X tg l (iTup X.K tl) := by
  intro pins s σ H R I h
  refine thn (hl pins s σ H _ I h) fun v s1 ⟨x, H1, I1, r1, q1⟩ => ?_
  obtain ⟨a, e, ⟨xs, hq⟩, q⟩ := q1
  subst e
  cases r1
  obtain ⟨its, rv, p, hz⟩ := I1.tuple hq
  refine wpAny_pyIter_tuple (show s1.heap.IsTuple a its.toArray from p) ?_
  refine ⟨s1.heap.objs.size, [s1.heap.objs.size], _, _, H1, rfl, I1.kept (t' := s1.toks) fun b o e => Heap.get?_push_of_some _ e, turn_tuple a _, ⟨_, Heap.get?_push_size _ rfl, rfl, rfl⟩, fun b hb => ?_, q⟩
  have e : b = s1.heap.objs.size := by simpa using hb
  subst e
  exact I1.fpOk (Nat.le_refl _) (I1.hok.fresh (Nat.le_refl _))

theorem range_it {pins : List (Addr × Obj)} {σ : St} {H : Hp} {s : Shared} {R : It → Hp → Prop} {E : Value → Shared → Prop} {lo hi : Int} {t u v : Tok} {tk : Nat} (I : Inv X pins σ H s) (h1 : -(2 ^ 62) ≤ lo) (h2 : lo < 2 ^ 62) (h3 : -(2 ^ 62) ≤ hi) (h4 : hi < 2 ^ 62)
    (q : R (Itr lo (hi - lo).toNat) H) : wpAny (model X.prog X.w) X.A (pyIter (.ref s.heap.objs.size)) (PIE X pins σ tg R) E { s with heap := s.heap.push { cls := .type "range", data := .fields #[.int lo t, .int hi u, .int 1 v] }, toks := tk } := by
  refine wpAny_pyIter_range (IsRange.new ..) (small_one h1 h2 h3 h4) ?_
  have I1 : Inv X pins σ H { s with heap := s.heap.push { cls := .type "range", data := .fields #[.int lo t, .int hi u, .int 1 v] }, toks := tk } := I.kept fun b o e => Heap.get?_push_of_some _ e
  refine ⟨(s.heap.push { cls := .type "range", data := .fields #[.int lo t, .int hi u, .int 1 v] }).objs.size, [(s.heap.push { cls := .type "range", data := .fields #[.int lo t, .int hi u, .int 1 v] }).objs.size], _, _, H, rfl,
    I1.kept (t' := tk) fun b o e => Heap.get?_push_of_some _ e, turn_range _ lo (hi - lo).toNat, ?_, fun b hb => ?_, q⟩
  · have e1 : lo + ((0 : Nat) : Int) * 1 = lo := by simp
    have e2 : (((hi - lo).toNat : Nat) : Int) - ((0 : Nat) : Int) = Builtin.Range.rangeSize lo hi 1 := by rw [rangeSize_one]; split <;> omega
    show IsRangeIter _ _ (lo + ((0 : Nat) : Int) * 1) ((((hi - lo).toNat : Nat) : Int) - ((0 : Nat) : Int)) 1
    rw [e1, e2]
    exact Heap.get?_push_size _ rfl
  · have e : b = (s.heap.push { cls := .type "range", data := .fields #[.int lo t, .int hi u, .int 1 v] }).objs.size := by simpa using hb
    subst e
    exact I1.fpOk (Nat.le_refl _) (I1.hok.fresh (Nat.le_refl _))
def iRng1 (ta : TA) : TI := fun σ H R => ta σ H fun vs H1 => ∃ j : Int, vs = [.int j] ∧ -(2 ^ 62) ≤ j ∧ j < 2 ^ 62 ∧ R (Itr 0 j.toNat) H1
def iRng2 (ta : TA) : TI := fun σ H R => ta σ H fun vs H1 => ∃ i j : Int, vs = [.int i, .int j] ∧ (-(2 ^ 62) ≤ i ∧ i < 2 ^ 62 ∧ -(2 ^ 62) ≤ j ∧ j < 2 ^ 62) ∧ R (Itr i (j - i).toNat) H1
theorem pi_range1 {a : Expr} {ta : TA} {p pos : Pos} (hg : Gl X "range") (hm : X.mg "range" = none) (ha : PA X [a] ta) (hs : starEach [a] X.env = [(false, eval a X.env)] := by rfl) : PI X tg (.Call (.Name "range" p) [a] [] pos) (iRng1 ta) := by
  intro pins s σ H R I h
  refine Call_ (ld_blt I hg hm boot_range (PyProof.Rows.callWith_type1 (thn (ha pos pins s σ H _ I h) fun us s1 ⟨vs, H1, I1, r1, q1⟩ => ?_) hs rfl))
  obtain ⟨j, e, q1, q2, q⟩ := q1
  subst e
  cases r1 with
  | cons r rr =>
    cases rr
    obtain ⟨t, rfl⟩ := r
    exact call_range_1 (range_it I1 (by omega) (by omega) q1 q2 (by simpa using q))
def tFor (wi : TI) (g : TG) (tb : TS) : TS := fun D σ H => wi σ H fun J H1 => ∃ W : Nat → Nat → St → Hp → Prop, (∃ m, W 0 m σ H1) ∧ ∀ i m σ H, W i m σ H →
  (J.stop i H ∧ D.nx σ H) ∨ (J.go i H ∧ ∃ N : St → Hp → Prop, (∀ σ' H', N σ' H' → ∃ m', m' < m ∧ W (i + 1) m' σ' H') ∧ ∀ x H', J.yld i H x H' → g x σ H' fun σ2 H2 => tb { D with nx := N, ct := N, bk := D.nx } σ2 H2)

def pinsAt (fp : List Addr) (h : Heap) : List (Addr × Obj) := fp.filterMap fun b => (h.get? b).map fun o => (b, o)
theorem mem_pinsAt {fp : List Addr} {h : Heap} {b : Addr} {o : Obj} (hb : b ∈ fp) (e : h.get? b = some o) : (b, o) ∈ pinsAt fp h := List.mem_filterMap.mpr ⟨b, hb, by rw [e]; rfl⟩
theorem of_pinsAt {fp : List Addr} {h : Heap} {p : Addr × Obj} (hp : p ∈ pinsAt fp h) : p.1 ∈ fp ∧ h.get? p.1 = some p.2 := by
  obtain ⟨b, hb, e⟩ := List.mem_filterMap.mp hp
  cases q : h.get? b with
  | none => rw [q] at e; cases e
  | some o =>
    rw [q] at e
    have e' : (b, o) = p := Option.some.inj e
    subst e'
    exact ⟨hb, q⟩
theorem Inv.pinned {pins : List (Addr × Obj)} {σ : St} {H : Hp} {s : Shared} {fp : List Addr} (I : Inv X pins σ H s) (hf : ∀ b ∈ fp, FpOk X pins H b) (ho : ∀ b ∈ fp, ∃ o, s.heap.get? b = some o ∧ ∀ v, o.data ≠ .cell v) : Inv X (pins ++ pinsAt fp s.heap) σ H s :=
  I.pins_of fun p hp => (List.mem_append.mp hp).elim (fun z => I.pin p (List.mem_append_right _ z)) fun z => by
    obtain ⟨hb, e⟩ := of_pinsAt z
    obtain ⟨f0, f1, f2, _⟩ := hf p.1 hb
    obtain ⟨o, e', d⟩ := ho p.1 hb
    rw [e] at e'; cases e'
    exact ⟨e, f0, f1, f2, d⟩
theorem Inv.unpinned {pins pl : List (Addr × Obj)} {σ : St} {H : Hp} {s : Shared} (I : Inv X (pins ++ pl) σ H s) : Inv X pins σ H s := I.pins_of fun p hp => I.pin p (List.mem_append_right _ (List.mem_append_left _ hp))
theorem ps_for {iter : Expr} {body : List Stmt} {wi : TI} {g : TG} {tb : TS} {pos : Pos} (hp : PassesOwn (model X.prog X.w) X.A X.env X.xe) (hc : X.calm = true) (hi : PI X tg iter wi) (hg : PG X tg g) (hb : PSs X body tb)
    (hs : ∀ x, foldedSetIterable iter X.env x = pure x := by intro _; rfl) : PS X (.For tg iter body [] pos) (tFor wi g tb) := by
  intro pins s σ H D I h
  refine wpAny_For (thn (hi pins s σ H _ I h) fun v s1 h1 => thn h1 fun itv s2 h2 => ?_) hs
  obtain ⟨it, fp, tn, J, H2, e, I2, T, st2, f2, W, ⟨m0, w0⟩, turn⟩ := h2
  subst e
  -- what stays true of the iterator's objects through the loop
  have stat : ∀ {H' : Hp}, (∀ b ∈ fp, H' b = none) → ∀ b ∈ fp, FpOk X pins H' b := fun hn b hb => ⟨hn b hb, (f2 b hb).2⟩
  refine codeAny_forLoop_any (fun n s' => ∃ i σ' H', Inv X pins σ' H' s' ∧ tn i s'.heap ∧ (∀ b ∈ fp, H' b = none) ∧ W i n σ' H') ?_ m0 ⟨0, σ, H2, I2, st2, fun b hb => (f2 b hb).1, w0⟩
  rintro n s3 ⟨i, σ3, H3, I3, st3, fr3, w3⟩
  rcases turn i n σ3 H3 w3 with ⟨stop, qn⟩ | ⟨go, N, hN, step⟩
  · refine wpAny_passesOwn hp (thn (T.done X rfl rfl rfl hc i pins s3 σ3 H3 X.xe I3 (stat fr3) st3 stop) fun r s4 ⟨hr, I4⟩ => ?_)
    subst hr
    exact wpAny_execs_nil ⟨σ3, H3, I4, qn⟩
  · refine wpAny_passesOwn hp (thn (T.item X rfl rfl rfl hc i pins s3 σ3 H3 X.xe I3 (stat fr3) st3 go) fun r s4 ⟨u, hr, h4⟩ => ?_)
    subst hr
    refine wpAny_passesOwn hp (thn h4 fun _ s5 ⟨x, H5, I5, r5, y5, st5, fr5⟩ => ?_)
    have I5' := I5.pinned (stat fr5) (T.obj _ _ st5)
    refine wpAny_passesOwn hp (thn (hg _ s5 σ3 H5 x u _ I5' r5 (step x H5 y5)) fun _ s6 ⟨σ6, H6, I6, q6⟩ => ?_)
    refine wpAny_passesOwn hp (thn (hb _ s6 σ6 H6 _ I6 q6) fun f s7 q7 => ?_)
    have again : ∀ {σ7 : St} {H7 : Hp}, Inv X (pins ++ pinsAt fp s5.heap) σ7 H7 s7 → N σ7 H7 → ∃ m, m < n ∧ ∃ i σ' H', Inv X pins σ' H' s7 ∧ tn i s7.heap ∧ (∀ b ∈ fp, H' b = none) ∧ W i m σ' H' := fun {σ7 H7} I7 n7 => by
      obtain ⟨m', hm, w7⟩ := hN σ7 H7 n7
      refine ⟨m', hm, i + 1, σ7, H7, I7.unpinned, T.keep _ _ _ st5 fun b hb o e => (I7.pin (b, o) (List.mem_append_right _ (List.mem_append_right _ (mem_pinsAt hb e)))).1, fun b hb => ?_, w7⟩
      obtain ⟨o, e, d⟩ := T.obj _ _ st5 b hb
      exact (I7.pin (b, o) (List.mem_append_right _ (List.mem_append_right _ (mem_pinsAt hb e)))).2.1
    cases f with
    | next => obtain ⟨σ7, H7, I7, n7⟩ := q7; exact again I7 n7
    | cont => obtain ⟨σ7, H7, I7, n7⟩ := q7; exact again I7 n7
    | brk => obtain ⟨σ7, H7, I7, q7⟩ := q7; exact ⟨σ7, H7, I7.unpinned, q7⟩
    | ret v => obtain ⟨x7, σ7, H7, I7, r7, q7⟩ := q7; exact ⟨x7, σ7, H7, I7.unpinned, r7, q7⟩
end



theorem for_list {K : PySem.W.Frag} {a : Addr} {xs : List V} {g : TG} {tb : TS} {D : Ends} {σ : St} {H : Hp} (Pv : Nat → St → Hp → Prop) (h0 : Pv 0 σ H) (hl : ∀ i σ H, i ≤ xs.length → Pv i σ H → SqL K H a xs)
    (hs : ∀ i x σ H, xs[i]? = some x → Pv i σ H → g x σ H fun σ2 H2 => tb { D with nx := Pv (i + 1), ct := Pv (i + 1), bk := D.nx } σ2 H2) (hd : ∀ σ H, Pv xs.length σ H → D.nx σ H) :
    ∃ W : Nat → Nat → St → Hp → Prop, (∃ m, W 0 m σ H) ∧ ∀ i m σ H, W i m σ H →
      ((Itl K a).stop i H ∧ D.nx σ H) ∨ ((Itl K a).go i H ∧ ∃ N : St → Hp → Prop, (∀ σ' H', N σ' H' → ∃ m', m' < m ∧ W (i + 1) m' σ' H') ∧ ∀ x H', (Itl K a).yld i H x H' → g x σ H' fun σ2 H2 => tb { D with nx := N, ct := N, bk := D.nx } σ2 H2) := by
  refine ⟨fun i m σ H => m = xs.length - i ∧ i ≤ xs.length ∧ Pv i σ H, ⟨xs.length, by simp, Nat.zero_le _, h0⟩, ?_⟩
  rintro i m σ H ⟨rfl, hi, p⟩
  have q := hl i σ H hi p
  by_cases hlt : i < xs.length
  · refine .inr ⟨⟨xs, xs[i], q, by simp [hlt]⟩, Pv (i + 1), fun σ' H' p' => ⟨xs.length - (i + 1), by omega, rfl, hlt, p'⟩, fun x H' y => ?_⟩
    obtain ⟨e, y⟩ := y
    subst e
    exact hs i x σ _ (y xs q) p
  · have e : i = xs.length := by omega
    subst e
    exact .inl ⟨⟨xs, q, Nat.le_refl _⟩, hd σ H p⟩
theorem for_tup {K : PySem.W.Frag} {a : Addr} {xs : List V} {g : TG} {tb : TS} {D : Ends} {σ : St} {H : Hp} (Pv : Nat → St → Hp → Prop) (h0 : Pv 0 σ H) (hl : ∀ i σ H, i ≤ xs.length → Pv i σ H → SqT K H a xs)
    (hs : ∀ i x σ H, xs[i]? = some x → Pv i σ H → g x σ H fun σ2 H2 => tb { D with nx := Pv (i + 1), ct := Pv (i + 1), bk := D.nx } σ2 H2) (hd : ∀ σ H, Pv xs.length σ H → D.nx σ H) :
    ∃ W : Nat → Nat → St → Hp → Prop, (∃ m, W 0 m σ H) ∧ ∀ i m σ H, W i m σ H →
      ((Itt K a).stop i H ∧ D.nx σ H) ∨ ((Itt K a).go i H ∧ ∃ N : St → Hp → Prop, (∀ σ' H', N σ' H' → ∃ m', m' < m ∧ W (i + 1) m' σ' H') ∧ ∀ x H', (Itt K a).yld i H x H' → g x σ H' fun σ2 H2 => tb { D with nx := N, ct := N, bk := D.nx } σ2 H2) := by
  refine ⟨fun i m σ H => m = xs.length - i ∧ i ≤ xs.length ∧ Pv i σ H, ⟨xs.length, by simp, Nat.zero_le _, h0⟩, ?_⟩
  rintro i m σ H ⟨rfl, hi, p⟩
  have q := hl i σ H hi p
  by_cases hlt : i < xs.length
  · refine .inr ⟨⟨xs, xs[i], q, by simp [hlt]⟩, Pv (i + 1), fun σ' H' p' => ⟨xs.length - (i + 1), by omega, rfl, hlt, p'⟩, fun x H' y => ?_⟩
    obtain ⟨e, y⟩ := y
    subst e
    exact hs i x σ _ (y xs q) p
  · have e : i = xs.length := by omega
    subst e
    exact .inl ⟨⟨xs, q, Nat.le_refl _⟩, hd σ H p⟩
end L2

namespace L2
open PySem PySem.Spec PyProof.Rows

abbrev R2 := V → V → Hp → VK → Prop

def OpR (X : Cx) (f : Value → Value → Sem Value) (r : R2) : Prop :=
  ∀ (pins : List (Addr × Obj)) (s : Shared) (σ : St) (H : Hp) (x y : V) (v u : Value) (Q : VK), Inv X pins σ H s → RelV x v → RelV y u → r x y H Q →
    wpAny (model X.prog X.w) X.A (f v u) (EP X pins σ Q) X.xe s

def UnR (X : Cx) (f : Value → Sem Value) (r : V → Hp → VK → Prop) : Prop :=
  ∀ (pins : List (Addr × Obj)) (s : Shared) (σ : St) (H : Hp) (x : V) (v : Value) (Q : VK), Inv X pins σ H s → RelV x v → r x H Q →
    wpAny (model X.prog X.w) X.A (f v) (EP X pins σ Q) X.xe s

def CallR (X : Cx) (f : Value) (r : List V → Hp → VK → Prop) : Prop :=
  ∀ (pins : List (Addr × Obj)) (s : Shared) (σ : St) (H : Hp) (xs : List V) (us : List Value) (Q : VK), Inv X pins σ H s → Vals xs us → r xs H Q →
    wpAny (model X.prog X.w) X.A (call f us) (EP X pins σ Q) X.xe s

def TruR (X : Cx) (r : V → Hp → (Bool → Hp → Prop) → Prop) : Prop :=
  ∀ (pins : List (Addr × Obj)) (s : Shared) (σ : St) (H : Hp) (x : V) (v : Value) (Q : Bool → Hp → Prop), Inv X pins σ H s → RelV x v → r x H Q →
    wpAny (model X.prog X.w) X.A (truthy v) (TP X pins σ Q) X.xe s

def tOp (r : R2) (ta tb : TE) : TE := fun σ H Q => ta σ H fun x H1 => tb σ H1 fun y H2 => r x y H2 Q
def tUn (r : V → Hp → VK → Prop) (ta : TE) : TE := fun σ H Q => ta σ H fun x H1 => r x H1 Q

def rI (C : Int → Int → Prop) (g : Int → Int → V) : R2 := fun x y H Q => ∃ i j, x = .int i ∧ y = .int j ∧ C i j ∧ Q (g i j) H
def rI0 (g : Int → Int → V) : R2 := fun x y H Q => ∃ i j, x = .int i ∧ y = .int j ∧ Q (g i j) H
def rU (g : Int → V) : V → Hp → VK → Prop := fun x H Q => ∃ i, x = .int i ∧ Q (g i) H

section
variable {X : Cx} {a b c : Expr} {ta tb tc : TE} {pos : Pos}

theorem binT (ha : PE X a ta) (hb : PE X b tb) {pins : List (Addr × Obj)} {s : Shared} {σ : St} {H : Hp} {R : V → V → Hp → Prop} (I : Inv X pins σ H s)
    (h : ta σ H fun x H1 => tb σ H1 fun y H2 => R x y H2) {Q : Value → Shared → Prop} {f : Value → Value → Sem Value}
    (hf : ∀ v u s2 x y H2, Inv X pins σ H2 s2 → RelV x v → RelV y u → R x y H2 → wpAny (model X.prog X.w) X.A (f v u) Q X.xe s2) :
    wpAny (model X.prog X.w) X.A (eval a X.env) (fun v s₁ => wpAny (model X.prog X.w) X.A (eval b X.env) (fun u s₂ => wpAny (model X.prog X.w) X.A (f v u) Q X.xe s₂) X.xe s₁) X.xe s := by
  refine thn (ha pins s σ H _ I h) fun v s1 ⟨x, H1, I1, r1, q1⟩ => ?_
  refine thn (hb pins s1 σ H1 _ I1 q1) fun u s2 ⟨y, H2, I2, r2, q2⟩ => ?_
  exact hf v u s2 x y H2 I2 r1 r2 q2

theorem pe_op {op : Operator} {r : R2} (ho : OpR X (binaryOp op) r) (ha : PE X a ta) (hb : PE X b tb) : PE X (.BinOp a op b pos) (tOp r ta tb) := by
  intro pins s σ H Q I h
  exact wpAny_BinOp (binT ha hb I h fun v u s2 x y H2 I2 rx ry q => ho pins s2 σ H2 x y v u Q I2 rx ry q)
theorem pe_un {op : UnaryOp} {r : V → Hp → VK → Prop} (ho : UnR X (unaryOp op) r) (ha : PE X a ta) : PE X (.UnaryOp op a pos) (tUn r ta) := by
  intro pins s σ H Q I h
  exact UnaryOp_ (thn (ha pins s σ H _ I h) fun v s1 ⟨x, H1, I1, r1, q1⟩ => ho pins s1 σ H1 x v Q I1 r1 q1)

theorem opI {f : Value → Value → Sem Value} {C : Int → Int → Prop} {g : Int → Int → Int}
    (rule : ∀ (i j : Int) (t u : Tok) (s : Shared) (Q : Value → Shared → Prop) (E : Value → Shared → Prop), C i j → Q (.int (g i j) s.toks) { s with toks := s.toks + 1 } → wpAny (model X.prog X.w) X.A (f (.int i t) (.int j u)) Q E s) :
    OpR X f (rI C fun i j => .int (g i j)) := by
  intro pins s σ H x y v u Q I rx ry h
  obtain ⟨i, j, rfl, rfl, hc, q⟩ := h
  obtain ⟨t, rfl⟩ := rx
  obtain ⟨t', rfl⟩ := ry
  exact rule i j t t' s _ _ hc ⟨.int (g i j), H, I.tok _, ⟨_, rfl⟩, q⟩
theorem opI0 {f : Value → Value → Sem Value} {g : Int → Int → Int}
    (rule : ∀ (i j : Int) (t u : Tok) (s : Shared) (Q : Value → Shared → Prop) (E : Value → Shared → Prop), Q (.int (g i j) s.toks) { s with toks := s.toks + 1 } → wpAny (model X.prog X.w) X.A (f (.int i t) (.int j u)) Q E s) :
    OpR X f (rI0 fun i j => .int (g i j)) := by
  intro pins s σ H x y v u Q I rx ry h
  obtain ⟨i, j, rfl, rfl, q⟩ := h
  obtain ⟨t, rfl⟩ := rx
  obtain ⟨t', rfl⟩ := ry
  exact rule i j t t' s _ _ ⟨.int (g i j), H, I.tok _, ⟨_, rfl⟩, q⟩
theorem opB0 {f : Value → Value → Sem Value} {g : Int → Int → Bool}
    (rule : ∀ (i j : Int) (t u : Tok) (s : Shared) (Q : Value → Shared → Prop) (E : Value → Shared → Prop), Q (.bool (g i j)) s → wpAny (model X.prog X.w) X.A (f (.int i t) (.int j u)) Q E s) :
    OpR X f (rI0 fun i j => .bl (g i j)) := by
  intro pins s σ H x y v u Q I rx ry h
  obtain ⟨i, j, rfl, rfl, q⟩ := h
  obtain ⟨t, rfl⟩ := rx
  obtain ⟨t', rfl⟩ := ry
  exact rule i j t t' s _ _ ⟨.bl (g i j), H, I, rfl, q⟩

def CDiv (i j : Int) : Prop := 0 < j ∧ j < 1073741824
def CPow (i j : Int) : Prop := 0 ≤ j ∧ j ≤ 1000000 ∧ i.natAbs < 2 ^ 64
def CMul (i j : Int) : Prop := (-(2 ^ 64) < i ∧ i < 2 ^ 64) ∨ (-(2 ^ 64) < j ∧ j < 2 ^ 64)
theorem CMul.ok {i j : Int} (h : CMul i j) : IntMulOk i j := by
  rcases h with ⟨h1, h2⟩ | ⟨h1, h2⟩
  · exact .of_left (intBits_le_64 h1 h2)
  · exact .of_right (intBits_le_64 h1 h2)
theorem two_pow_nn (k : Nat) : (0 : Int) ≤ 2 ^ k := by
  rw [two_pow_cast]
  exact Int.natCast_nonneg _

theorem op_add : OpR X (binaryOp .Add) (rI0 fun i j => .int (i + j)) := opI0 fun _ _ _ _ _ _ _ q => add_int q
theorem op_fdiv : OpR X (binaryOp .FloorDiv) (rI CDiv fun i j => .int (i / j)) := opI fun i j _ _ _ _ _ hc q => by
  have h1 : (0 : Int) < j := hc.1
  have h2 : j < 1073741824 := hc.2
  exact floordiv_int (by omega) (by rw [Int.fdiv_eq_ediv_of_nonneg i (by omega)]; exact q) (.inl (PyProof.noPylong_small (by omega)))
theorem op_mod : OpR X (binaryOp .Mod) (rI (fun _ j => 0 < j) fun i j => .int (i % j)) := opI fun i j _ _ _ _ _ hc q => by
  have h1 : (0 : Int) < j := hc
  exact mod_int' (by omega) (by rw [Int.fmod_eq_emod_of_nonneg i (by omega)]; exact q)
theorem op_pow : OpR X (binaryOp .Pow) (rI CPow fun i j => .int (i ^ j.toNat)) := opI fun _ _ _ _ _ _ _ hc q => pow_int_small hc.1 hc.2.1 hc.2.2 q
theorem op_shr : OpR X (binaryOp .RShift) (rI (fun _ j => 0 ≤ j) fun i j => .int (i / 2 ^ j.toNat)) := opI fun i j _ _ _ _ _ hc q =>
  rshift_int hc (by rw [Int.fdiv_eq_ediv_of_nonneg i (two_pow_nn _)]; exact q)
theorem unI {f : Value → Sem Value} {g : Int → Int}
    (rule : ∀ (i : Int) (t : Tok) (s : Shared) (Q : Value → Shared → Prop) (E : Value → Shared → Prop), Q (.int (g i) s.toks) { s with toks := s.toks + 1 } → wpAny (model X.prog X.w) X.A (f (.int i t)) Q E s) :
    UnR X f (rU fun i => .int (g i)) := by
  intro pins s σ H x v Q I rx h
  obtain ⟨i, rfl, q⟩ := h
  obtain ⟨t, rfl⟩ := rx
  exact rule i t s _ _ ⟨.int (g i), H, I.tok _, ⟨_, rfl⟩, q⟩
theorem un_neg : UnR X (unaryOp .USub) (rU fun i => .int (-i)) := unI fun _ _ _ _ _ q => neg_int q
end



def scal : V → V → Bool
  | .non, .non => true | .non, .int _ => true | .int _, .non => true | .non, .bl _ => true | .bl _, .non => true | .non, .str _ => true | .str _, .non => true
  | .int _, .int _ => true | .bl _, .bl _ => true | .str _, .str _ => true | .byt _, .byt _ => true
  | .int _, .str _ => true | .str _, .int _ => true | .bl _, .str _ => true | .str _, .bl _ => true
  | _, _ => false
def rEq : R2 := fun x y H Q => scal x y = true ∧ Q (.bl (decide (x = y))) H
def rNe : R2 := fun x y H Q => scal x y = true ∧ Q (.bl (!decide (x = y))) H

theorem dec_int {i j : Int} : decide (V.int i = V.int j) = (i == j) := by
  rw [Bool.eq_iff_iff]
  simp
theorem dec_bl {i j : Bool} : decide (V.bl i = V.bl j) = (i == j) := by
  rw [Bool.eq_iff_iff]
  simp
theorem dec_str {i j : Str} : decide (V.str i = V.str j) = (i == j) := by
  rw [Bool.eq_iff_iff]
  simp
theorem dec_byt {i j : Array UInt8} : decide (V.byt i = V.byt j) = (i.toList == j.toList) := by
  rw [Bool.eq_iff_iff]
  cases i
  cases j
  simp

section
variable {X : Cx} {a b c : Expr} {ta tb tc : TE} {pos : Pos}
theorem fin_bl {pins : List (Addr × Obj)} {σ : St} {H : Hp} {s : Shared} {Q : VK} {k k' : Bool} (I : Inv X pins σ H s) (q : Q (.bl k) H) (e : k = k') : EP X pins σ Q (.bool k') s := by
  subst e
  exact ⟨.bl k, H, I, rfl, q⟩
theorem op_eq : OpR X (compareOp .Eq) rEq := by
  intro pins s σ H x y v u Q I rx ry h
  obtain ⟨hs, q⟩ := h
  cases x with
  | non =>
    cases rx
    cases y with
    | non => cases ry; exact PySem.EqNone.eq_none_none (fin_bl I q (by simp))
    | bl j => cases ry; exact PySem.EqNone.eq_none_bool (fin_bl I q (by simp))
    | int j => obtain ⟨t', rfl⟩ := ry; exact PySem.EqNone.eq_none_int (fin_bl I q (by simp))
    | str j => obtain ⟨t', rfl⟩ := ry; exact PySem.EqNone.eq_none_str (fin_bl I q (by simp))
    | _ => exact absurd (show false = true from hs) Bool.false_ne_true
  | bl i =>
    cases rx
    cases y with
    | non => cases ry; exact PySem.EqNone.eq_bool_none (fin_bl I q (by simp))
    | bl j => cases ry; exact eq_bool (fin_bl I q dec_bl)
    | str j => obtain ⟨t', rfl⟩ := ry; exact PySem.EqMixed.eq_bool_str (fin_bl I q (by simp))
    | _ => exact absurd (show false = true from hs) Bool.false_ne_true
  | int i =>
    obtain ⟨t, rfl⟩ := rx
    cases y with
    | non => cases ry; exact PySem.EqNone.eq_int_none (fin_bl I q (by simp))
    | int j => obtain ⟨t', rfl⟩ := ry; exact eq_int (fin_bl I q dec_int)
    | str j => obtain ⟨t', rfl⟩ := ry; exact PySem.EqMixed.eq_int_str (fin_bl I q (by simp))
    | _ => exact absurd (show false = true from hs) Bool.false_ne_true
  | str i =>
    obtain ⟨t, rfl⟩ := rx
    cases y with
    | non => cases ry; exact PySem.EqNone.eq_str_none (fin_bl I q (by simp))
    | bl j => cases ry; exact PySem.EqMixed.eq_str_bool (fin_bl I q (by simp))
    | int j => obtain ⟨t', rfl⟩ := ry; exact PySem.EqMixed.eq_str_int (fin_bl I q (by simp))
    | str j => obtain ⟨t', rfl⟩ := ry; exact eq_str (fin_bl I q dec_str)
    | _ => exact absurd (show false = true from hs) Bool.false_ne_true
  | byt i =>
    obtain ⟨t, rfl⟩ := rx
    cases y with
    | byt j => obtain ⟨t', rfl⟩ := ry; exact PySem.W.eq_bytes (fin_bl I q dec_byt)
    | _ => exact absurd (show false = true from hs) Bool.false_ne_true
  | _ => cases y <;> exact absurd (show false = true from hs) Bool.false_ne_true
theorem op_ne : OpR X (compareOp .NotEq) rNe := by
  intro pins s σ H x y v u Q I rx ry h
  obtain ⟨hs, q⟩ := h
  cases x with
  | non =>
    cases rx
    cases y with
    | non => cases ry; exact PySem.EqNone.ne_none_none (fin_bl I q (by simp))
    | bl j => cases ry; exact PySem.EqNone.ne_none_bool (fin_bl I q (by simp))
    | int j => obtain ⟨t', rfl⟩ := ry; exact PySem.EqNone.ne_none_int (fin_bl I q (by simp))
    | str j => obtain ⟨t', rfl⟩ := ry; exact PySem.EqNone.ne_none_str (fin_bl I q (by simp))
    | _ => exact absurd (show false = true from hs) Bool.false_ne_true
  | bl i =>
    cases rx
    cases y with
    | non => cases ry; exact PySem.EqNone.ne_bool_none (fin_bl I q (by simp))
    | bl j => cases ry; exact ne_bool (fin_bl I q (congrArg not dec_bl))
    | str j => obtain ⟨t', rfl⟩ := ry; exact PySem.EqMixed.ne_bool_str (fin_bl I q (by simp))
    | _ => exact absurd (show false = true from hs) Bool.false_ne_true
  | int i =>
    obtain ⟨t, rfl⟩ := rx
    cases y with
    | non => cases ry; exact PySem.EqNone.ne_int_none (fin_bl I q (by simp))
    | int j => obtain ⟨t', rfl⟩ := ry; exact ne_int (fin_bl I q (congrArg not dec_int))
    | str j => obtain ⟨t', rfl⟩ := ry; exact PySem.EqMixed.ne_int_str (fin_bl I q (by simp))
    | _ => exact absurd (show false = true from hs) Bool.false_ne_true
  | str i =>
    obtain ⟨t, rfl⟩ := rx
    cases y with
    | non => cases ry; exact PySem.EqNone.ne_str_none (fin_bl I q (by simp))
    | bl j => cases ry; exact PySem.EqMixed.ne_str_bool (fin_bl I q (by simp))
    | int j => obtain ⟨t', rfl⟩ := ry; exact PySem.EqMixed.ne_str_int (fin_bl I q (by simp))
    | str j => obtain ⟨t', rfl⟩ := ry; exact ne_str (fin_bl I q (congrArg not dec_str))
    | _ => exact absurd (show false = true from hs) Bool.false_ne_true
  | byt i =>
    obtain ⟨t, rfl⟩ := rx
    cases y with
    | byt j => obtain ⟨t', rfl⟩ := ry; exact PySem.W.ne_bytes (fin_bl I q (congrArg not dec_byt))
    | _ => exact absurd (show false = true from hs) Bool.false_ne_true
  | _ => cases y <;> exact absurd (show false = true from hs) Bool.false_ne_true

theorem op_lt : OpR X (compareOp .Lt) (rI0 fun i j => .bl (decide (i < j))) := opB0 fun _ _ _ _ _ _ _ q => lt_int q
theorem op_gt : OpR X (compareOp .Gt) (rI0 fun i j => .bl (decide (j < i))) := opB0 fun _ _ _ _ _ _ _ q => gt_int q
theorem op_in_str : OpR X (compareOp .In) (fun x y H Q => ∃ i j, x = .str i ∧ y = .str j ∧ Q (.bl (!(Builtin.Str.occurrences j i 0 j.length 1).isEmpty)) H) := by
  intro pins s σ H x y v u Q I rx ry h
  obtain ⟨i, j, rfl, rfl, q⟩ := h
  obtain ⟨t, rfl⟩ := rx
  obtain ⟨t', rfl⟩ := ry
  exact in_str (fin_bl I q rfl)


theorem op_isN : OpR X (compareOp .Is) (fun x y H Q => y = .non ∧ Q (.bl (decide (x = .non))) H) := by
  intro pins s σ H x y v u Q I rx ry h
  obtain ⟨rfl, q⟩ := h
  cases ry
  refine is_none_gen (fin_bl I q ?_)
  cases x <;> first
    | (cases rx; rfl)
    | (obtain ⟨t, rfl⟩ := rx; rfl)
theorem op_notN : OpR X (compareOp .IsNot) (fun x y H Q => y = .non ∧ Q (.bl (!decide (x = .non))) H) := by
  intro pins s σ H x y v u Q I rx ry h
  obtain ⟨rfl, q⟩ := h
  cases ry
  refine isnot_none_gen (fin_bl I q ?_)
  cases x <;> first
    | (cases rx; rfl)
    | (obtain ⟨t, rfl⟩ := rx; rfl)

theorem op_notin_str : OpR X (compareOp .NotIn) (fun x y H Q => ∃ i j, x = .str i ∧ y = .str j ∧ Q (.bl (!(!(Builtin.Str.occurrences j i 0 j.length 1).isEmpty))) H) := by
  intro pins s σ H x y v u Q I rx ry h
  obtain ⟨i, j, rfl, rfl, q⟩ := h
  obtain ⟨t, rfl⟩ := rx
  obtain ⟨t', rfl⟩ := ry
  exact notIn_str (fin_bl I q rfl)

theorem OpR.or {f : Value → Value → Sem Value} {r r' : R2} (h : OpR X f r) (h' : OpR X f r') : OpR X f (fun x y H Q => r x y H Q ∨ r' x y H Q) := by
  intro pins s σ H x y v u Q I rx ry q
  rcases q with q | q
  · exact h pins s σ H x y v u Q I rx ry q
  · exact h' pins s σ H x y v u Q I rx ry q

theorem nomark (b : Expr) {op : CmpOp} (h : op ≠ .In := by decide) (h2 : op ≠ .NotIn := by decide) : behindInMarks op b = false := by
  have e1 : (op == CmpOp.In) = false := by cases op <;> first | rfl | exact absurd rfl h
  have e2 : (op == CmpOp.NotIn) = false := by cases op <;> first | rfl | exact absurd rfl h2
  cases b <;> simp [behindInMarks, e1, e2]

theorem pe_cmpR {op : CmpOp} {r : R2} (ho : OpR X (compareOp op) r) (ha : PE X a ta) (hb : PE X b tb) (hm : behindInMarks op b = false) : PE X (.Compare a [op] [b] pos) (tOp r ta tb) := by
  intro pins s σ H Q I h
  exact wpAny_Compare1 (binT ha hb I h fun v u s2 x y H2 I2 rx ry q => ho pins s2 σ H2 x y v u Q I2 rx ry q) hm

def tTest (t : TE) : TT := fun σ H Q => t σ H fun x H' => ∃ k, x = .bl k ∧ Q k H'
theorem pt_cmpR {op : CmpOp} {r : R2} (ho : OpR X (compareOp op) r) (ha : PE X a ta) (hb : PE X b tb) (hm : behindInMarks op b = false) : PT X (.Compare a [op] [b] pos) (tTest (tOp r ta tb)) := by
  intro pins s σ H Q I h
  refine wpAny_isTrue_Compare1 (thn (ha pins s σ H _ I h) fun v s1 ⟨x, H1, I1, r1, q1⟩ => thn (hb pins s1 σ H1 _ I1 q1) fun u s2 ⟨y, H2, I2, r2, q2⟩ =>
    thn (ho pins s2 σ H2 x y v u _ I2 r1 r2 q2) fun c s3 ⟨z, H3, I3, r3, k, e, q3⟩ => ?_) hm
  subst e
  cases r3
  exact wpAny_truthy_bool ⟨H3, I3, q3⟩

def tChain (r r' : R2) (ta tb tc : TE) : TE := fun σ H Q => ta σ H fun x H1 => tb σ H1 fun y H2 => r x y H2 fun z H3 => ∃ k, z = .bl k ∧
  (if k = true then tc σ H3 fun w' H4 => r' y w' H4 Q else Q (.bl false) H3)
def TruV (K : PySem.W.Frag) (x : V) (H : Hp) (k : Bool) : Prop :=
  match x with
  | .non => k = false
  | .bl b => k = b
  | .int i => k = (i != 0)
  | .str y => y.length ≤ sizeLine ∧ k = ((y.length : Int) != 0)
  | .byt y => y.size ≤ sizeLine ∧ k = ((y.size : Int) != 0)
  | .ref p => (∃ xs, SqL K H p xs ∧ k = !xs.isEmpty) ∨ (∃ xs, SqT K H p xs ∧ k = !xs.isEmpty) ∨ ∃ kvs, H p = some (.dK kvs) ∧ k = !kvs.isEmpty
  | _ => False
theorem isEmpty_kv {κ : Type} {kvs : List (κ × V)} {vs : List (κ × Value)} (r : KV kvs vs) : (!vs.isEmpty) = !kvs.isEmpty := by
  cases r <;> rfl
theorem isEmpty_of {xs : List V} {its : List Value} (r : Vals xs its) : (!its.toArray.isEmpty) = !xs.isEmpty := by
  cases r <;> simp
theorem line63 : (sizeLine : Nat) < 2 ^ 63 := by rw [sizeLine_eq]; decide
theorem tru_ok : TruR X (fun x H Q => ∃ k, TruV X.K x H k ∧ Q k H) := by
  intro pins s σ H x v Q I rx h
  obtain ⟨k, e, q⟩ := h
  have hl := line63
  have hs : sizeLine = 16777216 := sizeLine_eq
  cases x with
  | non =>
    cases rx
    have e' : k = false := e
    subst e'
    exact truthy_none ⟨H, I, q⟩
  | bl b =>
    cases rx
    have e' : k = b := e
    subst e'
    exact wpAny_truthy_bool ⟨H, I, q⟩
  | int i =>
    obtain ⟨t, rfl⟩ := rx
    have e' : k = (i != 0) := e
    subst e'
    exact PySem.P.truthy_int ⟨H, I, q⟩
  | str y =>
    obtain ⟨t, rfl⟩ := rx
    obtain ⟨hy, e'⟩ : y.length ≤ sizeLine ∧ k = ((y.length : Int) != 0) := e
    subst e'
    exact PySem.P.truthy_str (by omega) ⟨H, I.tok _, q⟩
  | byt y =>
    obtain ⟨t, rfl⟩ := rx
    obtain ⟨hy, e'⟩ : y.size ≤ sizeLine ∧ k = ((y.size : Int) != 0) := e
    subst e'
    exact PySem.W.truthy_bytes (by omega) ⟨H, I.tok _, q⟩
  | ref p =>
    cases rx
    have e' : (∃ xs, SqL X.K H p xs ∧ k = !xs.isEmpty) ∨ (∃ xs, SqT X.K H p xs ∧ k = !xs.isEmpty) ∨ ∃ kvs, H p = some (.dK kvs) ∧ k = !kvs.isEmpty := e
    rcases e' with ⟨xs, hx, e'⟩ | ⟨xs, hx, e'⟩ | ⟨kvs, hx, e'⟩
    · subst e'
      obtain ⟨its, r, pl, hz⟩ := I.list hx
      have hlen := r.length
      exact wpAny_truthy_list pl.isList (by simp only [List.size_toArray]; omega) ⟨H, I.tok _, by rw [isEmpty_of r]; exact q⟩
    · subst e'
      obtain ⟨its, r, pl, hz⟩ := I.tuple hx
      have hlen := r.length
      exact truthy_tuple pl (by simp only [List.size_toArray]; omega) ⟨H, I.tok _, by rw [isEmpty_of r]; exact q⟩
    · subst e'
      obtain ⟨hz, hS, vs, r, m⟩ : kvs.length ≤ sizeLine ∧ (p == sysModules) = false ∧ ∃ vs, KV kvs vs ∧ s.heap.DictOf (mixKind X.prog X.w) p vs := I.hok p _ hx
      have hlen : kvs.length = vs.length := Paired.length r
      exact wpAny_truthy_dict hS m (by omega) ⟨H, I.tok _, by rw [isEmpty_kv r]; exact q⟩
  | _ => exact (show False from e).elim

theorem pt_truth (ha : PE X a ta) (he : ∀ whole, isTrue a X.env whole = (do let v ← whole; standAt a.pos; holding [v] (truthy v))) :
    PT X a (fun σ H Q => ta σ H fun x H' => ∃ k, TruV X.K x H' k ∧ Q k H') := by
  intro pins s σ H Q I h
  exact isTrue_plain (thn (ha pins s σ H _ I h) fun v s1 ⟨x, H1, I1, r1, q1⟩ => tru_ok pins s1 σ H1 x v Q I1 r1 q1) (he _)


theorem op_add_str : OpR X (binaryOp .Add) (fun x y H Q => ∃ i j, x = .str i ∧ y = .str j ∧ i.length + j.length ≤ sizeLine ∧ Q (.str (i ++ j)) H) := by
  intro pins s σ H x y v u Q I rx ry h
  obtain ⟨i, j, rfl, rfl, hz, q⟩ := h
  obtain ⟨t, rfl⟩ := rx
  obtain ⟨t', rfl⟩ := ry
  exact add_str (fun t' tk => ⟨.str (i ++ j), H, I.tok _, ⟨_, rfl⟩, q⟩) hz
theorem vals1 {x : V} {us : List Value} (r : Vals [x] us) : ∃ u, us = [u] ∧ RelV x u := by
  cases r with
  | cons r1 r2 => cases r2; exact ⟨_, rfl, r1⟩
theorem vals2 {x y : V} {us : List Value} (r : Vals [x, y] us) : ∃ u w', us = [u, w'] ∧ RelV x u ∧ RelV y w' := by
  cases r with
  | cons r1 r2 =>
    cases r2 with
    | cons r3 r4 => cases r4; exact ⟨_, _, rfl, r1, r3⟩
theorem call_max2 (hc : X.calm = true) : CallR X (.builtin "max") (fun xs H Q => ∃ i j, xs = [.int i, .int j] ∧ Q (.int (if j > i then j else i)) H) := by
  intro pins s σ H xs us Q I r h
  obtain ⟨i, j, rfl, q⟩ := h
  obtain ⟨u, w', rfl, ⟨t, rfl⟩, ⟨t', rfl⟩⟩ := vals2 r
  refine max_two_ints (I.ok.hd hc) fun h' tk k => ⟨_, H, I.kept k, ?_, q⟩
  by_cases hj : j > i
  · rw [if_pos hj, if_pos hj]; exact ⟨_, rfl⟩
  · rw [if_neg hj, if_neg hj]; exact ⟨_, rfl⟩
theorem call_min2 (hc : X.calm = true) : CallR X (.builtin "min") (fun xs H Q => ∃ i j, xs = [.int i, .int j] ∧ Q (.int (if j < i then j else i)) H) := by
  intro pins s σ H xs us Q I r h
  obtain ⟨i, j, rfl, q⟩ := h
  obtain ⟨u, w', rfl, ⟨t, rfl⟩, ⟨t', rfl⟩⟩ := vals2 r
  refine min_two_ints (I.ok.hd hc) fun h' tk k => ⟨_, H, I.kept k, ?_, q⟩
  by_cases hj : j < i
  · rw [if_pos hj, if_pos hj]; exact ⟨_, rfl⟩
  · rw [if_neg hj, if_neg hj]; exact ⟨_, rfl⟩
theorem call_str_int : CallR X (.type "str") (fun xs H Q => ∃ i, xs = [.int i] ∧ i.natAbs.log2 < 1920 ∧ Q (.str (toString i)) H) := by
  intro pins s σ H xs us Q I r h
  obtain ⟨i, rfl, hz, q⟩ := h
  obtain ⟨u, rfl, t, rfl⟩ := vals1 r
  exact PySem.P.str_of_int hz ⟨.str _, H, I.tok _, ⟨_, rfl⟩, q⟩
end
end L2

namespace L2
open PySem PySem.Spec PyProof.Rows


structure ObjM (h : Heap) (x dx C : Addr) (mA : Str → Option Value) : Prop where
  obj : h.get? x = some (PySem.W.instObj C dx)
  ns : h.Ns1 dx mA
  ne : dx ≠ x

theorem lookIn_ns {h : Heap} {dx : Addr} {mA : Str → Option Value} (n : h.Ns1 dx mA) : ∃ od, h.get? dx = some od ∧ ∀ name, PySem.W.lookIn name od = some (mA name) := by
  obtain ⟨o, es, ep, ho, hd, hk, _, hm⟩ := n
  refine ⟨o, ho, fun name => ?_⟩
  have e := hm name
  unfold nsFind findBy at e
  rw [← Array.find?_toList] at e
  unfold PySem.W.lookIn
  rw [hd]
  dsimp only
  split
  · rename_i y q
    rw [q] at e
    exact congrArg some e
  · rename_i q
    rw [q] at e
    have a : es.toList.any (·.refKey) = false := by
      rw [List.any_eq_false]
      intro y hy
      obtain ⟨z, t, hkey⟩ := hk y (Array.mem_toList_iff.mp hy)
      simp [DictEntry.refKey, hkey]
    have a' : ¬ es.toList.any (·.refKey) = true := by rw [a]; exact Bool.false_ne_true
    rw [if_neg a']
    exact congrArg some e

theorem ObjM.look {h : Heap} {x dx C : Addr} {mA : Str → Option Value} (I : ObjM h x dx C mA) : ∃ od, PySem.W.InstAt h x (PySem.W.instObj C dx) C (some od) ∧ ∀ name, PySem.W.lookIn name od = some (mA name) :=
  let ⟨od, ho, hl⟩ := lookIn_ns I.ns
  ⟨od, ⟨I.obj, rfl, rfl, ho⟩, hl⟩

section
variable {prog : Program} {w : World} {A : Around} {E : Value → Shared → Prop} {s : Shared} {K : PySem.W.Frag} {x dx C f : Addr} {mA : Str → Option Value} {name : Str} {v : Value}

end


theorem RelO.some_of {v : V} {o : Option Value} (r : RelO (some v) o) : ∃ u, o = some u ∧ RelV v u := by
  cases o with
  | none => exact (show False from r).elim
  | some u => exact ⟨u, rfl, r⟩
theorem handed_of {v : V} {u : Value} (r : RelV v u) : PySem.W.handedIn u = true := by
  cases v with
  | non => cases (show u = Value.none from r); rfl
  | bl b => cases (show u = Value.bool b from r); rfl
  | int i => obtain ⟨t, e⟩ := (show ∃ t, u = Value.int i t from r); cases e; rfl
  | str x => obtain ⟨t, e⟩ := (show ∃ t, u = Value.str x t from r); cases e; rfl
  | byt b => obtain ⟨t, e⟩ := (show ∃ t, u = Value.bytes b t from r); cases e; rfl
  | flt b => obtain ⟨t, e⟩ := (show ∃ t, u = Value.float b t from r); cases e; rfl
  | ref a => cases (show u = Value.ref a from r); rfl
  | ty n => cases (show u = Value.type n from r); rfl

section
variable {P : Program} {w : World} {H H' : Hp} {h h' : Heap} {a C dx : Addr} {fs fs' : List (Str × V)}
theorem ins_get (hok : HOk P w H h) (e : H a = some (.ins C dx fs)) : ∃ mA, ObjM h a dx C mA ∧ (∀ f, RelO (fs.lookup f) (mA f)) ∧ PySem.Within mA (fs.map (·.1)) ∧ fs.length ≤ 1000 ∧ H dx = some (.own a) := by
  obtain ⟨d, z, ne, ob, mA, n, r, q⟩ := (show ObjOk P w H h a (.ins C dx fs) from hok a _ e)
  exact ⟨mA, ⟨ob, n, ne⟩, r, q, z, d⟩
end


structure Cls (K : PySem.W.Frag) (C : Addr) : Prop where
  pg : PySem.W.plainGet K C Str.empty = true
  hd : PySem.W.hasDictIn K C = true
  po : PySem.W.plainOver K C = true
  sa : PySem.W.findIn K (.ref C) "__setattr__" = some (some (.builtin "object.__setattr__"))
theorem Cls.get {K : PySem.W.Frag} {C : Addr} (c : Cls K C) (f : Str) : PySem.W.plainGet K C f = true := c.pg

section
variable {X : Cx} {pins : List (Addr × Obj)} {σ : St} {H : Hp} {s : Shared} {a C dx : Addr} {fs : List (Str × V)} {f : Str} {v : V} {A : Around} {E : Value → Shared → Prop}

theorem attr_of {prog : Program} {w : World} {env : Env} {e : Expr} {f : Str} {pos : Pos} {s : Shared} {Q : Value → Shared → Prop} (hb : attributeBase e f env (eval e env) = eval e env)
    (h : wpAny (model prog w) A (eval e env) (fun o s₁ => wpAny (model prog w) A (getAttr o f true) Q E s₁) E s) : wpAny (model prog w) A (eval (.Attribute e f pos) env) Q E s :=
  Attribute_any_ h (by rw [arm_eval_Attribute, hb])
end



section
variable {X : Cx} {o e value : Expr} {f : Str} {pos pos' tpos : Pos} {ta tv : TE}
end


section
variable {X : Cx} {pins : List (Addr × Obj)} {σ : St} {H : Hp} {s : Shared} {A : Around} {E : Value → Shared → Prop} {Q : Value → Shared → Prop} {c : Value} {b : Bool}

inductive TyOf (K : PySem.W.Frag) (H : Hp) : V → Value → Prop where
  | non : TyOf K H .non (.type "NoneType")
  | bl (x : Bool) : TyOf K H (.bl x) (.type "bool")
  | int (i : Int) : TyOf K H (.int i) (.type "int")
  | str (x : Str) : TyOf K H (.str x) (.type "str")
  | flt (x : UInt64) : TyOf K H (.flt x) (.type "float")
  | lst {a : Addr} {xs : List V} (e : H a = some (.lst xs)) : TyOf K H (.ref a) (.type "list")
  | frz {a : Addr} {o : Obj} {xs : List V} (e : H a = some (.frz o (.lst xs))) : TyOf K H (.ref a) (.type "list")
  | tup {a : Addr} {xs : List V} (e : H a = some (.tup xs)) : TyOf K H (.ref a) (.type "tuple")
  | dK {a : Addr} {kvs : List (Key × V)} (e : H a = some (.dK kvs)) : TyOf K H (.ref a) (.type "dict")
  | dT {a : Addr} {kvs : List (List Key × V)} (e : H a = some (.dT kvs)) : TyOf K H (.ref a) (.type "dict")
  | ins {a C dx : Addr} {fs : List (Str × V)} (e : H a = some (.ins C dx fs)) (cl : Cls K C) (ha : PySem.W.findIn K (.ref C) "__class__" = some (some (.builtin "object.__class__")))
      (hn : PySem.W.specialIn K (.builtin "object.__class__") "__get__" = some (some (.builtin "getset_descriptor.__get__"))) (htk : PySem.W.takesIn K (.builtin "object.__class__") = some true)
      (hm : PySem.W.mroIn K C (.type "object") = some true) : TyOf K H (.ref a) (.ref C)

theorem isinst_ok {x : V} {u t : Value} (I : Inv X pins σ H s) (rx : RelV x u) (ty : TyOf X.K H x t) (e : PySem.W.kitOne X.K t c = some b) (h : ∀ tk, Q (.bool b) { s with toks := tk }) :
    wpAny (model X.prog X.w) A (call (.builtin "isinstance") [u, c]) Q E s := by
  cases ty with
  | non => cases (show u = Value.none from rx); exact PySem.W.kia_one PySem.W.kitx_none I.kIn True.intro e (fun z => nomatch z) h
  | bl y => cases (show u = Value.bool y from rx); exact PySem.W.kia_one PySem.W.kitx_bool I.kIn True.intro e (fun z => nomatch z) h
  | int i => obtain ⟨t, q⟩ := (show ∃ t, u = Value.int i t from rx); cases q; exact PySem.W.kia_one PySem.W.kitx_int I.kIn True.intro e (fun z => nomatch z) h
  | str y => obtain ⟨t, q⟩ := (show ∃ t, u = Value.str y t from rx); cases q; exact PySem.W.kia_one PySem.W.kitx_str I.kIn True.intro e (fun z => nomatch z) h
  | flt y => obtain ⟨t, q⟩ := (show ∃ t, u = Value.float y t from rx); cases q; exact PySem.W.kia_one PySem.W.kitx_float I.kIn True.intro e (fun z => nomatch z) h
  | @lst a xs ea =>
    cases (show u = Value.ref a from rx)
    obtain ⟨_, _, n, _, h1⟩ := (show ObjOk X.prog X.w H s.heap a (.lst xs) from I.hok a _ ea)
    exact PySem.W.kia_one PySem.W.kitx_list I.kIn ⟨_, h1, rfl⟩ e (fun z => nomatch z) h
  | @frz a ob xs ea =>
    cases (show u = Value.ref a from rx)
    obtain ⟨_, _, _, n, _, h1⟩ := (show ObjOk X.prog X.w H s.heap a (.frz ob (.lst xs)) from I.hok a _ ea)
    exact PySem.W.kia_one PySem.W.kitx_list I.kIn ⟨_, h1, rfl⟩ e (fun z => nomatch z) h
  | @tup a xs ea =>
    cases (show u = Value.ref a from rx)
    obtain ⟨_, _, _, p⟩ := (show ObjOk X.prog X.w H s.heap a (.tup xs) from I.hok a _ ea)
    obtain ⟨o, h1, h2, _⟩ := p
    exact PySem.W.kia_one PySem.W.kitx_tuple I.kIn ⟨o, h1, h2⟩ e (fun z => nomatch z) h
  | @dK a kvs ea =>
    cases (show u = Value.ref a from rx)
    obtain ⟨_, _, vs, _, p⟩ := (show ObjOk X.prog X.w H s.heap a (.dK kvs) from I.hok a _ ea)
    obtain ⟨o, es, ep, h1, h2, _⟩ := p
    exact PySem.W.kia_one PySem.W.kitx_dict I.kIn ⟨o, h1, h2.1⟩ e (fun z => nomatch z) h
  | @dT a kvs ea =>
    cases (show u = Value.ref a from rx)
    obtain ⟨_, _, xs, _, o, es, ep, h1, h2, _⟩ := (show ObjOk X.prog X.w H s.heap a (.dT kvs) from I.hok a _ ea)
    exact PySem.W.kia_one PySem.W.kitx_dict I.kIn ⟨o, h1, h2.1⟩ e (fun z => nomatch z) h
  | @ins a C dx fs ea cl ha hn htk hm =>
    cases (show u = Value.ref a from rx)
    obtain ⟨mA, O, _⟩ := ins_get I.hok ea
    obtain ⟨od, J, _⟩ := O.look
    exact PySem.W.kia_one (PySem.W.kitx_own (cl.get _) cl.hd ha hn htk hm) I.kIn J e (fun z => nomatch z) h
end
end L2

namespace L2
open PySem PySem.Spec PyProof.Rows


structure Room (k : Nat) (A : Around) : Prop where
  hd : A.handled = none
  dp : A.depth + 3 * k + 5 < recursionLimit
  un : A.units + 16 * k + 200 < cLine
  gd : A.guards = some []
theorem Room.mono {j k : Nat} {A : Around} (r : Room k A) (h : j ≤ k) : Room j A := ⟨r.hd, by have := r.dp; omega, by have := r.un; omega, r.gd⟩
theorem Room.deeper {k : Nat} {A : Around} (r : Room (k + 1) A) (env : Env) : Room k (A.deeper env) :=
  ⟨r.hd, by have := r.dp; show A.depth + 1 + 3 * k + 5 < _; omega, by have := r.un; show A.units + 3 + 16 * k + 200 < _; omega, r.gd⟩
theorem Room.in1 {k : Nat} {A : Around} (r : Room (k + 1) A) : Room k A.in1 :=
  ⟨r.hd, by have := r.dp; show A.depth + 3 * k + 5 < _; omega, by have := r.un; show A.units + 1 + 16 * k + 200 < _; omega, r.gd⟩
theorem make_depth {A : Around} {C : Addr} {us : List Value} {kw : List (Str × Value)} : (A.under (.builtin "type.__call__" ⟨.ref C :: us, kw⟩)).depth = A.depth + 1 := by
  first | rfl | simp [Around.under, Code.weight, Code.isCreation, Code.isGuard, Code.isCaller, Code.frames, Code.isFrame, guardIds]
theorem make_units {A : Around} {C : Addr} {us : List Value} {kw : List (Str × Value)} : (A.under (.builtin "type.__call__" ⟨.ref C :: us, kw⟩)).units = A.units + 1 := by
  first | rfl | simp [Around.under, Code.cUnits, Code.frames, Code.isFrame]
theorem make_guards {A : Around} {C : Addr} {us : List Value} {kw : List (Str × Value)} : (A.under (.builtin "type.__call__" ⟨.ref C :: us, kw⟩)).guards = A.guards := by
  first | rfl | simp [Around.under, Code.weight, Code.isCreation, Code.isGuard, Code.isCaller, Code.frames, Code.isFrame, guardIds]
theorem Room.make {k : Nat} {A : Around} (r : Room (k + 1) A) (C : Addr) (us : List Value) (kw : List (Str × Value)) : Room k (A.under (.builtin "type.__call__" ⟨.ref C :: us, kw⟩)) :=
  ⟨r.hd, by have := r.dp; rw [make_depth]; omega, by have := r.un; rw [make_units]; omega, by rw [make_guards]; exact r.gd⟩
theorem Room.depth {k : Nat} {A : Around} (r : Room k A) : A.depth < recursionLimit := by have := r.dp; omega
theorem Room.units {k : Nat} {A : Around} (r : Room k A) : A.units + 64 < cLine := by have := r.un; omega
def tNil : TA := fun _ H Q => Q [] H
def tCons (ta : TE) (tr : TA) : TA := fun σ H Q => ta σ H fun x H1 => tr σ H1 fun xs H2 => Q (x :: xs) H2
section
variable {X : Cx} {e : Expr} {es : List Expr} {te : TE} {t : TA} {pos : Pos}
theorem pa_nil : PA X [] tNil := fun _ _ _ _ H Q I h => Calls.spliced_nil ⟨[], H, I, .nil, h⟩
theorem pa_cons (ha : PE X e te) (hr : PA X es t) (hs : starEach (e :: es) X.env = (false, eval e X.env) :: starEach es X.env := by rfl) : PA X (e :: es) (tCons te t) := by
  intro pos pins s σ H Q I h
  rw [hs]
  show wpAny _ _ (spliced ((false, eval e X.env) :: backTo pos (starEach es X.env))) _ _ s
  refine Calls.spliced_cons (thn (ha pins s σ H _ I h) fun u s1 ⟨x, H1, I1, r1, q1⟩ => ?_)
  exact thn (hr pos pins s1 σ H1 _ I1 q1) fun us s2 ⟨xs, H2, I2, r2, q2⟩ => ⟨x :: xs, H2, I2, .cons r1 r2, q2⟩


def tTup (t : TA) : TE := fun σ H Q => t σ H fun xs H1 => xs.length ≤ sizeLine ∧ ∀ p, H1 p = none → Q (.ref p) (upd H1 p (.tup xs))
def tLst (t : TA) : TE := fun σ H Q => t σ H fun xs H1 => xs.length ≤ sizeLine ∧ ∀ p, H1 p = none → Q (.ref p) (upd H1 p (.lst xs))
theorem pe_tup {x1} (h : PA X es t) : PE X (.Tuple es x1 pos) (tTup t) := by
  intro pins s σ H Q I hq
  refine wpAny_Tuple_spliced (thn (h pos pins s σ H _ I hq) fun us s1 ⟨xs, H1, I1, r, z, q⟩ => ⟨by rw [← r.length]; exact z, ?_⟩)
  have hf : H1 s1.heap.objs.size = none := I1.hok.fresh (Nat.le_refl _)
  refine ⟨.ref s1.heap.objs.size, upd H1 s1.heap.objs.size (.tup xs), I1.laid (t' := s1.toks) (fun b u e => Heap.get?_push_of_some _ e) (Nat.le_refl _) ?_, rfl, q _ hf⟩
  exact ⟨z, us, r, ⟨_, Heap.get?_push_size _ rfl, rfl, _, rfl⟩⟩
theorem pe_lst (h : PA X es t) : PE X (.List es pos) (tLst t) := by
  intro pins s σ H Q I hq
  refine wpAny_List_spliced (thn (h pos pins s σ H _ I hq) fun us s1 ⟨xs, H1, I1, r, z, q⟩ => ⟨by rw [← r.length]; exact z, ?_⟩)
  have hf : H1 s1.heap.objs.size = none := I1.hok.fresh (Nat.le_refl _)
  refine ⟨.ref s1.heap.objs.size, upd H1 s1.heap.objs.size (.lst xs), I1.laid (t' := s1.toks) (fun b u e => Heap.get?_push_of_some _ e) (Nat.le_refl _) ?_, rfl, q _ hf⟩
  exact ⟨z, us, 0, r, Heap.get?_push_size _ rfl⟩
end



abbrev Sp := List V → Hp → VK → XK → Prop

abbrev CXT := List Env → Hp → Shared → XK → Value → Shared → Prop


structure Env0 (P : Program) (w : World) (K : PySem.W.Frag) (mg : Str → Option Value) (base : Heap) (A : Around) (outer : List Env) (s : Shared) (H : Hp) : Prop where
  frames : A.frames = some outer
  mod : Mod K mg base
  bs : ∀ b o, base.get? b = some o → s.heap.get? b = some o ∧ H b = none
  bsz : base.objs.size ≤ s.heap.objs.size
  funs : s.heap.FunFrames base outer
  frf : ∀ b ∈ frs outer, H b = none
  hok : HOk P w H s.heap
  bare : AllBare s.gens

def CE (outer : List Env) (P : Program) (w : World) (H : Hp) (s : Shared) (Q : VK) (u : Value) (s' : Shared) : Prop :=
  ∃ v H', s'.os = s.os ∧ AllBare s'.gens ∧ Un (frs outer) [] H H' s.heap s'.heap ∧ HOk P w H' s'.heap ∧ RelV v u ∧ Q v H'
def CR (CX : CXT) (outer : List Env) (P : Program) (w : World) (H : Hp) (s : Shared) (Q : VK) (E : XK) (r : Result) (s' : Shared) : Prop :=
  match r with
  | .ok (.ret u) => CE outer P w H s Q u s'
  | .ok _ => False
  | .error e => CX outer H s E e s'
structure FnOk (P : Program) (w : World) (K : PySem.W.Frag) (mg : Str → Option Value) (base : Heap) (CX : CXT) (k : Nat) (f : Addr) (fd : FuncData) (ps : List Str) (sp : Sp) : Prop where
  len : ∀ vs H Q E, sp vs H Q E → vs.length = ps.length
  run : ∀ (A : Around) (outer : List Env) (s : Shared) (H : Hp) (args : Args) (us : List Value) (vs : List V) (Q : VK) (E : XK), Room k A → Env0 P w K mg base A outer s H → BindsTo s fd args (ps.zip us) → Vals vs us → sp vs H Q E →
    codeAny (model P w) A (.call (.ref f) args) (CR CX outer P w H s Q E) s
theorem FnOk.mono {P : Program} {w : World} {K : PySem.W.Frag} {mg : Str → Option Value} {base : Heap} {CX : CXT} {j k : Nat} {f : Addr} {fd : FuncData} {ps : List Str} {sp : Sp} (F : FnOk P w K mg base CX j f fd ps sp) (h : j ≤ k) :
    FnOk P w K mg base CX k f fd ps sp := ⟨F.len, fun A outer s H args us vs Q E hr => F.run A outer s H args us vs Q E (hr.mono h)⟩

theorem FnOk.imp {P : Program} {w : World} {K : PySem.W.Frag} {mg : Str → Option Value} {base : Heap} {CX : CXT} {k : Nat} {f : Addr} {fd : FuncData} {ps : List Str} {sp sp' : Sp} (F : FnOk P w K mg base CX k f fd ps sp)
    (h : ∀ vs H Q E, sp' vs H Q E → sp vs H Q E) : FnOk P w K mg base CX k f fd ps sp' :=
  ⟨fun vs H Q E q => F.len vs H Q E (h _ _ _ _ q), fun A outer s H args us vs Q E hr he hb hv hs => F.run A outer s H args us vs Q E hr he hb hv (h _ _ _ _ hs)⟩

theorem Env0.make {P : Program} {w : World} {K : PySem.W.Frag} {mg : Str → Option Value} {base : Heap} {A : Around} {outer : List Env} {s : Shared} {H : Hp} (e : Env0 P w K mg base A outer s H) (C : Addr) (us : List Value) (kw : List (Str × Value)) :
    Env0 P w K mg base (A.under (.builtin "type.__call__" ⟨.ref C :: us, kw⟩)) outer s H := ⟨by first | exact e.frames | (simpa [Around.under, Code.envs, Code.isFrame, pushEnvs] using e.frames), e.mod, e.bs, e.bsz, e.funs, e.frf, e.hok, e.bare⟩
theorem Env0.in1 {P : Program} {w : World} {K : PySem.W.Frag} {mg : Str → Option Value} {base : Heap} {A : Around} {outer : List Env} {s : Shared} {H : Hp} (e : Env0 P w K mg base A outer s H) :
    Env0 P w K mg base A.in1 outer s H := ⟨e.frames, e.mod, e.bs, e.bsz, e.funs, e.frf, e.hok, e.bare⟩

section
variable {X : Cx} {pins : List (Addr × Obj)} {σ : St} {H : Hp} {s s' : Shared}

theorem Inv.env0 (I : Inv X pins σ H s) : Env0 X.prog X.w X.K X.mg X.base X.A X.stack s H :=
  ⟨I.ok.frames, I.ok.mod, I.bs, Nat.le_trans I.ok.bsz I.sz, I.stack, I.stkFree, I.hok, I.bare⟩

theorem Inv.after {Q : VK} {u : Value} (I : Inv X pins σ H s) (h : CE X.stack X.prog X.w H s Q u s') : EP X pins σ Q u s' := by
  obtain ⟨v, H', os, bare, un, hok, r, q⟩ := h
  obtain ⟨hh, g, d, t, os'⟩ := s'
  obtain rfl : os' = s.os := os
  exact ⟨v, H', I.call (h' := hh) (g' := g) (d' := d) (t' := t) (ch := []) un hok bare (fun b z => absurd z (by simp)), r, q⟩
end



def tCall (sp : Sp) (dvs : List V) (E : XK) (t : TA) : TE := fun σ H Q => t σ H fun vs H1 => sp (vs ++ dvs) H1 Q E

def Binds (K : PySem.W.Frag) (fd : FuncData) (ps : List Str) (ds : List Value) : Prop :=
  ∀ (s : Shared) (us : List Value), K.In s.heap → (us ++ ds).length = ps.length → BindsTo s fd ⟨us, []⟩ (ps.zip (us ++ ds))

theorem Binds.all {K : PySem.W.Frag} {fd : FuncData} {ps : List Str} (h : ∀ us : List Value, us.length = ps.length → bindArgs fd ⟨us, []⟩ = pure (ps.zip us)) : Binds K fd ps [] := fun s us _ hl => by
  rw [List.append_nil] at hl ⊢
  exact .of_eq (h us hl)


def Passes (CX : CXT) (X : Cx) (E : XK) : Prop := ∀ (pins : List (Addr × Obj)) (σ : St) (H : Hp) (s : Shared) (e : Value) (s' : Shared), Inv X pins σ H s → CX X.stack H s E e s' → X.xe e s'

section
variable {X : Cx} {CX : CXT} {k : Nat} {f C : Addr} {fd : FuncData} {ps : List Str} {sp : Sp} {dvs : List V} {ds : List Value} {E : XK} {x m : Str} {p pos apos : Pos} {e o : Expr} {es : List Expr} {ta : TE} {t : TA}


theorem run_fn {pins : List (Addr × Obj)} {σ : St} {H : Hp} {s : Shared} {Q : VK} {us : List Value} {vs : List V} (F : FnOk X.prog X.w X.K X.mg X.base CX k f fd ps sp) (hr : Room k X.A) (hb : Binds X.K fd ps ds) (hd : Vals dvs ds) (hx : Passes CX X E)
    (I : Inv X pins σ H s) (r : Vals vs us) (h : sp (vs ++ dvs) H Q E) : wpAny (model X.prog X.w) X.A (call (.ref f) us) (EP X pins σ Q) X.xe s := by
  have r2 : Vals (vs ++ dvs) (us ++ ds) := r.append hd
  have hl : (us ++ ds).length = ps.length := by rw [← r2.length]; exact F.len _ _ _ _ h
  refine wpAny_call (codeAny_mono (F.run X.A X.stack s H ⟨us, []⟩ (us ++ ds) (vs ++ dvs) Q E hr I.env0 (hb s us I.kIn hl) r2 h) fun r s' hq => ?_)
  cases r with
  | error e => exact hx pins σ H s e s' I hq
  | ok fl =>
    cases fl with
    | ret u => exact I.after hq
    | next => exact False.elim hq
    | brk => exact False.elim hq
    | cont => exact False.elim hq

theorem pe_call (F : FnOk X.prog X.w X.K X.mg X.base CX k f fd ps sp) (hr : Room k X.A) (hg : Gl X x) (hm : X.mg x = some (.ref f)) (hk : PySem.W.keepIn X.K (.ref f) = true) (hb : Binds X.K fd ps ds) (hd : Vals dvs ds) (hx : Passes CX X E)
    (ha : PA X (e :: es) t) (hdb : (x == ("__debug__" : Str)) = false := by decide) (he : starEach (e :: es) X.env = (false, eval e X.env) :: starEach es X.env := by rfl) (hpl : (backTo pos (starEach es X.env)).any (·.1) = false := by rfl) :
    PE X (.Call (.Name x p) (e :: es) [] pos) (tCall sp dvs E t) := by
  intro pins s σ H Q I h
  refine wpAny_Call_Name_kw (ld_glob I hg hm ?_ hdb)
  refine PySem.W.callWith_K (h₀ := X.base) I.ok.mod.kin hk (thn (ha pos pins s σ H _ I h) fun us s1 ⟨vs, H1, I1, r, q⟩ => ⟨I1.kIn, ?_⟩) he hpl
  exact run_fn F hr hb hd hx I1 r q
theorem pe_call0 (F : FnOk X.prog X.w X.K X.mg X.base CX k f fd ps sp) (hr : Room k X.A) (hg : Gl X x) (hm : X.mg x = some (.ref f)) (hk : PySem.W.keepIn X.K (.ref f) = true) (hb : Binds X.K fd ps ds) (hd : Vals dvs ds) (hx : Passes CX X E)
    (hdb : (x == ("__debug__" : Str)) = false := by decide) : PE X (.Call (.Name x p) [] [] pos) (tCall sp dvs E tNil) := by
  intro pins s σ H Q I h
  refine wpAny_Call_Name_kw (ld_glob I hg hm ?_ hdb)
  exact PySem.W.callWith_K0 I.kIn hk (run_fn (us := []) F hr hb hd hx I .nil h)


end



section
variable {X : Cx} {CX : CXT} {k : Nat} {f C : Addr} {fd : FuncData} {ps ks : List Str} {sp : Sp} {E : XK} {x m : Str} {p pos apos kpos : Pos} {e o : Expr} {es : List Expr} {kws : List Keyword} {te ta : TE} {t tk : TA} {nm : Option Str}
variable {g : List Value → List Value → List Value} {gV : List V → List V → List V}
end



structure FnScope (N P : List Str) (sc : Scope) : Prop where
  kind : sc.kind = .function
  co : sc.isCoroutine = false
  gen : sc.isGenerator = false
  nd : N.Nodup
  pre : N.take P.length = P
  par : ∀ x ∈ P, sc.names.lookup x = some .local ∨ sc.names.lookup x = some .cell
  nofree : ∀ y ∈ sc.names, y.2 ≠ .free

theorem bindL_out {kindOf : Str → Option NameKind} {x : Str} : ∀ {binds : List (Str × Value)} {m : Str → Option Value}, (∀ v, (x, v) ∉ binds) → bindL kindOf binds m x = m x
  | [], _, _ => rfl
  | (n, v) :: r, m, h => by
    unfold bindL
    rw [bindL_out fun w hw => h w (List.mem_cons_of_mem _ hw)]
    split
    · have : x ≠ n := by rintro rfl; exact h v List.mem_cons_self
      simp [this]
    · rfl
theorem bindC_out {kindOf : Str → Option NameKind} {x : Str} : ∀ {binds : List (Str × Value)} {m : Str → Option Value}, (∀ v, (x, v) ∉ binds) → bindC kindOf binds m x = m x
  | [], _, _ => rfl
  | (n, v) :: r, m, h => by
    unfold bindC
    rw [bindC_out fun w hw => h w (List.mem_cons_of_mem _ hw)]
    split
    · rfl
    · have : x ≠ n := by rintro rfl; exact h v List.mem_cons_self
      simp [this]
theorem bindL_get {kindOf : Str → Option NameKind} {x : Str} {v : Value} : ∀ {P : List Str} {vs : List Value} {i : Nat} {m : Str → Option Value}, P.Nodup → P[i]? = some x → vs[i]? = some v → kindOf x = some .local →
    bindL kindOf (P.zip vs) m x = some v
  | [], _, _, _, _, h, _, _ => by simp at h
  | _ :: _, [], _, _, _, _, h, _ => by simp at h
  | p :: P, w :: vs, 0, m, nd, h1, h2, hk => by
    simp at h1 h2; subst h1; subst h2
    show bindL kindOf ((p, w) :: P.zip vs) m p = _
    unfold bindL
    rw [bindL_out fun v hv => (List.nodup_cons.mp nd).1 (List.of_mem_zip hv).1, if_pos hk]
    simp
  | p :: P, w :: vs, i + 1, m, nd, h1, h2, hk => by
    show bindL kindOf ((p, w) :: P.zip vs) m x = _
    unfold bindL
    exact bindL_get (i := i) (List.nodup_cons.mp nd).2 (by simpa using h1) (by simpa using h2) hk
theorem bindC_get {kindOf : Str → Option NameKind} {x : Str} {v : Value} : ∀ {P : List Str} {vs : List Value} {i : Nat} {m : Str → Option Value}, P.Nodup → P[i]? = some x → vs[i]? = some v → kindOf x ≠ some .local →
    bindC kindOf (P.zip vs) m x = some v
  | [], _, _, _, _, h, _, _ => by simp at h
  | _ :: _, [], _, _, _, _, h, _ => by simp at h
  | p :: P, w :: vs, 0, m, nd, h1, h2, hk => by
    simp at h1 h2; subst h1; subst h2
    show bindC kindOf ((p, w) :: P.zip vs) m p = _
    unfold bindC
    rw [bindC_out fun v hv => (List.nodup_cons.mp nd).1 (List.of_mem_zip hv).1, if_neg hk]
    simp
  | p :: P, w :: vs, i + 1, m, nd, h1, h2, hk => by
    show bindC kindOf ((p, w) :: P.zip vs) m x = _
    unfold bindC
    exact bindC_get (i := i) (List.nodup_cons.mp nd).2 (by simpa using h1) (by simpa using h2) hk


def start (N : List Str) (vs : List V) : St := vs.map some ++ List.replicate (N.length - vs.length) none


def cxOf (CX : CXT) (P : Program) (w : World) (K : PySem.W.Frag) (mg : Str → Option Value) (base : Heap) (N : List Str) (qual : Str) (scope : Scope) (f : Addr) (cd : Value) (A : Around) (outer : List Env) (s : Shared) (H : Hp) (E : XK) : Cx where
  prog := P
  w := w
  K := K
  mg := mg
  base := base
  A := A.deeper (envOfC qual scope s.heap.objs.size f cd)
  N := N
  s₀ := s
  H₀ := H
  env := envOfC qual scope s.heap.objs.size f cd
  outer := outer
  stack := envOfC qual scope s.heap.objs.size f cd :: outer
  ex := []
  calm := true
  fn := fun _ => true
  pn := []
  xe := fun e s' => wpAny (model P w) (A.deeper (envOfC qual scope s.heap.objs.size f cd)) (leaving (envOfC qual scope s.heap.objs.size f cd) e) (fun _ s'' => CX outer H s E e s'') (fun e' s'' => CX outer H s E e' s'') s'

theorem cell_has {sc : Scope} {n : Nat} {x : Str} (h : sc.names.lookup x = some .cell) : ∃ c, (cellsFrom n sc.names []).lookup x = some c := by
  have q := PySem.W.cellsFrom_some sc.names n [] (.inl h)
  exact Option.isSome_iff_exists.mp q

theorem inv_start {CX : CXT} {P : Program} {w : World} {K : PySem.W.Frag} {mg : Str → Option Value} {base : Heap} {N ps : List Str} {qual : Str} {scope : Scope} {f : Addr} {cd : Value} {A : Around} {outer : List Env} {s s1 : Shared} {H : Hp} {E : XK} {us : List Value} {vs : List V}
    (S : FnScope N ps scope) (hd : A.handled = none) (e0 : Env0 P w K mg base A outer s H) (hl : vs.length = ps.length) (r : Vals vs us)
    (x : InCallC s s.heap.objs.size (bindL (envOfC qual scope s.heap.objs.size f cd).kindOf (ps.zip us) fun _ => none) (cellsFrom (s.heap.objs.size + 1) scope.names []) (bindC (envOfC qual scope s.heap.objs.size f cd).kindOf (ps.zip us) fun _ => none) s1) :
    Inv (cxOf CX P w K mg base N qual scope f cd A outer s H E) [] (start N vs) H s1 := by
  have hpl : ps.length ≤ N.length := by have := congrArg List.length S.pre; rw [List.length_take] at this; omega
  obtain ⟨h1, tk, rfl, hk⟩ := x.done
  have noA : ∀ b : Addr, b ∉ (cxOf CX P w K mg base N qual scope f cd A outer s H E).ex := fun b z => absurd (show b ∈ ([] : List Addr) from z) (by simp)
  refine ⟨⟨e0.mod, S.kind, rfl, rfl, Nat.le_refl _, fun y z c h1 h2 => ?_, fun y hy => ?_, fun y c _ h => ?_, fun _ => hd, Around.frames_deeper e0.frames, .inr ⟨rfl, rfl⟩, fun b z => absurd z (noA b), e0.bs, e0.bsz, fun b _ _ => noA b, fun b z => absurd z (noA b), e0.funs, e0.frf⟩,
    rfl, e0.bare, Un.kept hk, ⟨_, x.toInCall.ns, fun i y v h1 h2 h3 => ?_⟩, fun y c h => ⟨_, x.cell y c h⟩, e0.hok.fresh (Nat.le_refl _), fun y c h => ?_, fun p hp => absurd (show p ∈ ([] : List (Addr × Obj)) from hp) (by simp), e0.hok.kept hk, ?_⟩
  · exact name_of_addr x.apart (PySem.mem_of_lookup h1) (PySem.mem_of_lookup h2)
  · have hy : scope.names.lookup y = some .cell ∨ scope.names.lookup y = some .free := hy
    rcases hy with hy | hy
    · exact cell_has hy
    · exact absurd rfl (S.nofree _ (PySem.mem_of_lookup hy))
  · exact Nat.le_of_lt (x.above y c (PySem.mem_of_lookup h))
  · have hi : i < vs.length := by
      unfold start at h2
      by_cases hi : i < vs.length
      · exact hi
      · rw [List.getElem?_append_right (by simpa using hi)] at h2
        rw [List.getElem?_replicate] at h2
        split at h2 <;> cases h2
    have ha : vs[i]? = some v := by
      unfold start at h2
      rw [List.getElem?_append_left (by simpa using hi), List.getElem?_map] at h2
      cases e : vs[i]? with
      | none => rw [e] at h2; cases h2
      | some a => rw [e] at h2; cases h2; rfl
    obtain ⟨u, hu, rv⟩ := r.get ha
    have hp : ps[i]? = some y := by
      rw [← S.pre, List.getElem?_take_of_lt (by omega)]; exact h1
    have ndP : ps.Nodup := by rw [← S.pre]; exact S.nd.sublist (List.take_sublist _ _)
    refine ⟨u, rv, ?_⟩
    rcases S.par y (List.mem_of_getElem? hp) with k | k
    · exact .inl ⟨k, bindL_get ndP hp hu k⟩
    · obtain ⟨c, e⟩ := cell_has (n := s.heap.objs.size + 1) k
      refine .inr ⟨.inl k, c, e, ?_⟩
      have q := x.cell y c e
      rw [bindC_get ndP hp hu (by show scope.names.lookup y ≠ _; rw [k]; decide)] at q
      exact q
  · exact e0.hok.fresh (Nat.le_of_lt (x.above y c (PySem.mem_of_lookup h)))
  · unfold start
    show _ = N.length
    rw [List.length_append, List.length_map, List.length_replicate]
    omega


theorem fn_of {CX : CXT} {P : Program} {w : World} {K : PySem.W.Frag} {mg : Str → Option Value} {base : Heap} {k : Nat} {f : Addr} {name qual : Str} {params : Arguments} {body : List Stmt} {scope : Scope} {dV kV doc pm cdv ct oc : Value} {an od : Option Addr}
    {osl : Array (Option Value)} {N ps : List Str} {sp : Sp} (lk : K.lookup f = some ⟨oc, od, .func (PySem.W.fnOf name qual params body scope dV kV doc pm an cdv ct), osl⟩) (hcd : PySem.W.codeIn K cdv qual = true) (S : FnScope N ps scope)
    (len : ∀ vs H Q E, sp vs H Q E → vs.length = ps.length)
    (hbody : ∀ (A : Around) (outer : List Env) (s : Shared) (H : Hp) (vs : List V) (Q : VK) (E : XK), Room k (A.deeper (envOfC qual scope s.heap.objs.size f cdv)) → sp vs H Q E →
      ∃ t, PSs (cxOf CX P w K mg base N qual scope f cdv A outer s H E) body t ∧ t { nx := fun _ H' => Q .non H', rt := Q } (start N vs) H) :
    FnOk P w K mg base CX (k + 1) f (PySem.W.fnOf name qual params body scope dV kV doc pm an cdv ct) ps sp := by
  refine ⟨len, fun A outer s H args us vs Q E hr e0 hb r hsp => ?_⟩
  have hl := len _ _ _ _ hsp
  have KX : K.In s.heap := e0.mod.kin.keeps fun b o e => (e0.bs b o e).1
  have lim : s.heap.NoLimit := e0.mod.nolimit.keeps fun b o e => (e0.bs b o e).1
  have hkind : ∀ y ∈ ps.zip us, scope.names.lookup y.1 = some .local ∨ (scope.names.lookup y.1 = some .cell ∧ ((cellsFrom (s.heap.objs.size + 1) scope.names []).lookup y.1).isSome = true) := fun ⟨n, v⟩ hy => by
    rcases S.par n (List.of_mem_zip hy).1 with q | q
    · exact .inl q
    · exact .inr ⟨q, PySem.W.cellsFrom_some _ _ _ (.inl q)⟩
  refine codeAny_call_function hr.depth (KX _ _ lk) rfl S.co S.gen rfl (PySem.W.codeRec_of KX hcd) (hb _ _ _ _ ?_)
  refine wpAny_newFunctionEnv_cells S.kind hkind fun env he s1 x => ?_
  subst he
  refine ⟨lim.keeps x.toInCall.keep, codeAny_func ?_⟩
  obtain ⟨t, ht, hq⟩ := hbody A outer s H vs Q E (hr.deeper _) hsp
  have I : Inv (cxOf CX P w K mg base N qual scope f cdv A outer s H E) [] (start N vs) H s1 := inv_start S hr.hd e0 hl r x
  refine wpAny_mono (ht [] s1 (start N vs) H _ I hq) (fun fl s' hs => ?_) fun e s' hs => hs
  have fin : ∀ {σ' : St} {H' : Hp} {v : V} {u : Value}, Inv (cxOf CX P w K mg base N qual scope f cdv A outer s H E) [] σ' H' s' → RelV v u → Q v H' → CE outer P w H s Q u s' :=
    fun {σ' H' v u} J rv q => ⟨v, H', J.os, J.bare, J.base, J.hok, rv, q⟩
  cases fl with
  | ret u =>
    obtain ⟨v, σ', H', J, rv, q⟩ := hs
    exact fin J rv q
  | next =>
    obtain ⟨σ', H', J, q⟩ := hs
    exact fin (v := V.non) (u := Value.none) J rfl q
  | brk =>
    obtain ⟨_, _, _, q⟩ := hs
    exact False.elim q
  | cont =>
    obtain ⟨_, _, _, q⟩ := hs
    exact False.elim q
end L2

namespace L2
open PySem PySem.Spec PyProof.Rows
section
variable {X : Cx} {x : Str} {p pos : Pos} {e : Expr} {es : List Expr} {t : TA} {id T : String} {r : List V → Hp → VK → Prop}

def tCB (r : List V → Hp → VK → Prop) (t : TA) : TE := fun σ H Q => t σ H fun vs H1 => r vs H1 Q

theorem pe_callB (hc : CallR X (.builtin id) r) (hg : Gl X x) (hm : X.mg x = none) (hv : bootBuiltins x = some (.builtin id)) (ha : PA X (e :: es) t) (hn : x ≠ "__name__" := by decide) (hdb : (x == ("__debug__" : Str)) = false := by decide)
    (he : starEach (e :: es) X.env = (false, eval e X.env) :: starEach es X.env := by rfl) (hpl : (backTo pos (starEach es X.env)).any (·.1) = false := by rfl) : PE X (.Call (.Name x p) (e :: es) [] pos) (tCB r t) := by
  intro pins s σ H Q I h
  refine wpAny_Call_Name_kw (ld_blt I hg hm hv ?_ hn hdb)
  exact PyProof.Rows.callWith_builtin1 (thn (ha pos pins s σ H _ I h) fun us s1 ⟨vs, H1, I1, r1, q1⟩ => hc pins s1 σ H1 vs us Q I1 r1 q1) he hpl

theorem pe_callTy (hc : CallR X (.type T) r) (hg : Gl X x) (hm : X.mg x = none) (hv : bootBuiltins x = some (.type T)) (ha : PA X (e :: es) t) (hn : x ≠ "__name__" := by decide) (hdb : (x == ("__debug__" : Str)) = false := by decide)
    (he : starEach (e :: es) X.env = (false, eval e X.env) :: starEach es X.env := by rfl) (hpl : (backTo pos (starEach es X.env)).any (·.1) = false := by rfl) : PE X (.Call (.Name x p) (e :: es) [] pos) (tCB r t) := by
  intro pins s σ H Q I h
  refine wpAny_Call_Name_kw (ld_blt I hg hm hv ?_ hn hdb)
  exact PyProof.Rows.callWith_type1 (thn (ha pos pins s σ H _ I h) fun us s1 ⟨vs, H1, I1, r1, q1⟩ => hc pins s1 σ H1 vs us Q I1 r1 q1) he hpl

end
end L2

namespace HT
open PySem PyProof.Rows


section
open PySem.SeqAt
open PySem.AutoSeq1 (wpAny_loadPart')
open PySem.MeetsSeq PySem.MeetsSeq2 PySem.MeetsSeq3

end

section
variable {prog : Program} {w : World} {A : Around} {E : Value → Shared → Prop} {s : Shared}

theorem cat_tup {t b : Addr} {vs ws : List Value} {Q : Value → Shared → Prop} (ht : IsTup s.heap t vs.toArray) (hb : IsTup s.heap b ws.toArray) (hv : vs ≠ [])
    (h1 : ws = [] → Q (.ref t) s) (h2 : ws ≠ [] → Q (.ref s.heap.objs.size) { s with heap := s.heap.push { cls := .type "tuple", data := .seq (vs ++ ws).toArray } })
    (hsz : vs.length + ws.length ≤ sizeLine) : wpAny (model prog w) A (binaryOp .Add (.ref t) (.ref b)) Q E s := by
  obtain ⟨⟨cls, dd, data, sl⟩, ho, hc, n, hd⟩ := id ht
  obtain ⟨⟨cls2, dd2, data2, sl2⟩, ho2, hc2, n2, hd2⟩ := id hb
  simp only at hc hd hc2 hd2
  subst hc hd hc2 hd2
  have e : vs.toArray ++ ws.toArray = (vs ++ ws).toArray := by simp
  by_cases hw : ws = []
  · exact concat_meets ⟨_, ho, rfl⟩ ⟨_, ho2, rfl⟩ noFill_tuple_add seq_tuple_add PySem.F.slot_tuple_add PySem.F.entry_tuple_add (PySem.F.args_tuple_add_2 _ _)
      (tuple_addW1 t b vs.toArray ws.toArray n n2 dd dd2 sl sl2 (by simpa using hv) (by simp [hw])) ⟨ho, ho2, h1 hw⟩
  · refine concat_meets ⟨_, ho, rfl⟩ ⟨_, ho2, rfl⟩ noFill_tuple_add seq_tuple_add PySem.F.slot_tuple_add PySem.F.entry_tuple_add (PySem.F.args_tuple_add_2 _ _)
      (tuple_addW2 t b vs.toArray ws.toArray n n2 dd dd2 sl sl2 (by simpa using hv) (by simpa using hw) (by rw [List.size_toArray, List.size_toArray]; exact hsz)) ⟨ho, ho2, ?_⟩
    rw [e]
    exact h2 hw



def sIx (n d : Nat) : Option Int → Nat
  | none => d
  | some v => if v < 0 then (v + (n : Int)).toNat else min v.toNat n
theorem sIx_none (n d : Nat) : sIx n d none = d := rfl
theorem sIx_nat (n d k : Nat) : sIx n d (some (k : Int)) = min k n := by
  show (if (k : Int) < 0 then ((k : Int) + (n : Int)).toNat else min (k : Int).toNat n) = min k n
  rw [if_neg (by omega), Int.toNat_natCast]
theorem sIx_le (n d : Nat) (hd : d ≤ n) (o : Option Int) : sIx n d o ≤ n := by
  cases o with
  | none => exact hd
  | some v =>
    show (if v < 0 then (v + (n : Int)).toNat else min v.toNat n) ≤ n
    by_cases hv : v < 0
    · rw [if_pos hv]; omega
    · rw [if_neg hv]; exact Nat.min_le_right _ _
theorem clip_eq (v : Int) (n d : Nat) : (if v < 0 then max (v + (n : Int)) 0 else min v (n : Int)) = ((sIx n d (some v) : Nat) : Int) := by
  show (if v < 0 then max (v + (n : Int)) 0 else min v (n : Int)) = (((if v < 0 then (v + (n : Int)).toNat else min v.toNat n) : Nat) : Int)
  by_cases hv : v < 0
  · simp only [if_pos hv]; omega
  · simp only [if_neg hv]; omega
theorem adjust_gen (lo hi : Option Int) (n : Nat) : Builtin.Slice.sliceAdjust lo hi 1 (n : Int) = (((sIx n 0 lo : Nat) : Int), ((sIx n n hi : Nat) : Int)) := by
  have h1 : ¬ ((1 : Int) < 0) := by omega
  unfold Builtin.Slice.sliceAdjust
  simp only [h1, if_false]
  refine Prod.ext ?_ ?_
  · cases lo with
    | none => rfl
    | some v => exact clip_eq v n 0
  · cases hi with
    | none => rfl
    | some v => exact clip_eq v n n
theorem places_gen (i j : Nat) : Builtin.Slice.slicePlaces (i : Int) (j : Int) 1 = j - i := by
  unfold Builtin.Slice.slicePlaces
  have h1 : (1 : Int) > 0 := by omega
  simp only [h1, if_true, Int.ediv_one]
  split <;> omega
theorem slicePart_ {v : Value} {o : Option Int} {Q : Option Int → Shared → Prop} (p : IsPart v o) (h : Q o s) : wpAny (model prog w) A (Builtin.Slice.slicePartIndex v) Q E s := by
  cases p with
  | none => exact slicePart_none h
  | int i t => exact slicePart_int h
theorem sliceApplied_gen {sl : Addr} {vl vu : Value} {lo hi : Option Int} {n : Nat} {Q : Int × Int × Nat → Shared → Prop} (hs : s.heap.IsSliceOf sl vl vu .none) (pl : IsPart vl lo) (pu : IsPart vu hi)
    (h : Q (((sIx n 0 lo : Nat) : Int), 1, sIx n n hi - sIx n 0 lo) s) : wpAny (model prog w) A (Builtin.Slice.sliceApplied (.ref sl) (pure (n : Int))) Q E s := by
  obtain ⟨os, hos, hcs, hds⟩ := id hs
  unfold Builtin.Slice.sliceApplied Builtin.Slice.sliceFields
  refine wpAny_bind (wpAny_bind (wpAny_field hos hds (x := vl) rfl (wpAny_bind (wpAny_field hos hds (x := vu) rfl (wpAny_bind (wpAny_field hos hds (x := .none) rfl (wpAny_pure ?_)))))))
  refine wpAny_bind (slicePart_none ?_)
  show wpAny _ _ (if ((1 : Int) == 0) = true then _ else _) _ _ s
  rw [if_neg (by decide)]
  refine wpAny_bind (slicePart_ pl (wpAny_bind (slicePart_ pu (wpAny_bind (wpAny_pure ?_)))))
  show wpAny _ _ (match Builtin.Slice.sliceAdjust lo hi 1 (n : Int) with | (lo, hi) => pure (lo, (1 : Int), Builtin.Slice.slicePlaces lo hi 1)) _ _ s
  rw [adjust_gen lo hi n]
  show wpAny _ _ (pure (((sIx n 0 lo : Nat) : Int), (1 : Int), Builtin.Slice.slicePlaces ((sIx n 0 lo : Nat) : Int) ((sIx n n hi : Nat) : Int) 1)) _ _ s
  rw [places_gen]
  exact wpAny_pure h
theorem pick_gen (xs : Array Value) (i k : Nat) : ((List.range k).filterMap fun (m : Nat) => xs[((i : Int) + (m : Int) * 1).toNat]?).toArray = ((xs.toList.drop i).take k).toArray := by
  have e : (fun (m : Nat) => xs[((i : Int) + (m : Int) * 1).toNat]?) = fun m => xs[i + m]? := by
    funext m
    have : ((i : Int) + (m : Int) * 1).toNat = i + m := by omega
    rw [this]
  rw [e]
  have := pick_run xs i k
  rw [List.filterMap_map] at this
  have e2 : ((fun x => xs[x]?) ∘ fun x => i + x) = fun m => xs[i + m]? := rfl
  rw [e2] at this
  rw [this]

theorem getItem_tuple_cut {t sl : Addr} {items : Array Value} {vl vu : Value} {lo hi : Option Int} {Q : Value → Shared → Prop} (ht : IsTup s.heap t items) (hs : s.heap.IsSliceOf sl vl vu .none) (pl : IsPart vl lo) (pu : IsPart vu hi)
    (hw : ¬ (sIx items.size 0 lo = 0 ∧ sIx items.size items.size hi = items.size))
    (h : Q (.ref s.heap.objs.size) { s with heap := s.heap.push { cls := .type "tuple", data := .seq ((items.toList.drop (sIx items.size 0 lo)).take (sIx items.size items.size hi - sIx items.size 0 lo)).toArray } })
    (hsz : items.size ≤ sizeLine) : wpAny (model prog w) A (getItem (.ref t) (.ref sl)) Q E s := by
  have htake : sizeOk (.seq ((items.toList.drop (sIx items.size 0 lo)).take (sIx items.size items.size hi - sIx items.size 0 lo)).toArray) := by
    show ((items.toList.drop (sIx items.size 0 lo)).take (sIx items.size items.size hi - sIx items.size 0 lo)).toArray.size ≤ sizeLine
    rw [List.size_toArray, List.length_take, List.length_drop, Array.length_toList]
    omega
  have hj : sIx items.size items.size hi ≤ items.size := sIx_le _ _ (Nat.le_refl _) hi
  obtain ⟨os, hos, hcs, hds⟩ := id hs
  have hTs : s.TypeIs (.ref sl) "slice" := ⟨os, hos, hcs⟩
  unfold getItem
  try with_reducible refine wpAny_holding ?_
  first | refine wpAny_bind (wpAny_pure ?_) | skip
  refine wpAny_bind (wpAny_sequenceKey ht.typeIs (by decide) ?_)
  refine wpAny_bind (wpAny_callSpecial?_slot (name := Str.ofString "__getitem__") ht.typeIs PyProof.Rows.slot_tuple_getitem
    (wpAny_call_entry PyProof.Rows.slot_tuple_getitem ht.typeIs entry_tuple_getitem ?_ (args_tuple_getitem _ _)))
  show wpAny _ _ (Builtin.Tuple.tupleItemsOf (.ref t) >>= _) _ _ s
  refine wpAny_bind (tupleItemsOf_ ht ?_)
  refine wpAny_bind (wpAny_typeOf hTs ?_)
  rw [if_pos (by decide)]
  refine wpAny_bind (sliceApplied_gen hs pl pu ?_)
  have hno : ¬ ((((sIx items.size 0 lo : Nat) : Int) == 0 && (1 : Int) == 1 && (sIx items.size items.size hi - sIx items.size 0 lo) == items.size) = true) := by
    intro q
    rw [Bool.and_eq_true, Bool.and_eq_true] at q
    have q1 : ((sIx items.size 0 lo : Nat) : Int) = 0 := eq_of_beq q.1.1
    have q2 : sIx items.size items.size hi - sIx items.size 0 lo = items.size := eq_of_beq q.2
    exact hw ⟨by omega, by omega⟩
  show wpAny _ _ (if (((sIx items.size 0 lo : Nat) : Int) == 0 && (1 : Int) == 1 && (sIx items.size items.size hi - sIx items.size 0 lo) == items.size) = true then _ else _) _ _ s
  rw [if_neg hno, pick_gen]
  first
    | exact wpAny_bind (m := Builtin.Tuple.tupleExact _) (wpAny_newObj_type (wpAny_pure ⟨_, rfl, wpAny_pure h⟩) htake)
    | exact wpAny_bind (m := Builtin.Tuple.tupleExact _) (wpAny_newObj_type (wpAny_bind (wpAny_pure (wpAny_pure ⟨_, rfl, wpAny_pure h⟩))) htake)
    | exact wpAny_bind (wpAny_bind (m := Builtin.Tuple.tupleExact _) (wpAny_newObj_type (wpAny_pure (wpAny_pure ⟨_, rfl, wpAny_pure h⟩)) htake))
    | exact wpAny_bind (wpAny_bind (m := Builtin.Tuple.tupleExact _) (wpAny_newObj_type (wpAny_pure ⟨_, rfl, wpAny_pure h⟩) htake))
end
end HT

namespace L2
open PySem PySem.Spec PyProof.Rows


abbrev TO := St → Hp → (Option Int → Hp → Prop) → Prop

def PO (X : Cx) (e : Option Expr) (t : TO) : Prop :=
  ∀ (pins : List (Addr × Obj)) (s : Shared) (σ : St) (H : Hp) (Q : Option Int → Hp → Prop), Inv X pins σ H s → t σ H Q →
    wpAny (model X.prog X.w) X.A (evalPart e X.env) (fun u s' => ∃ o H', Inv X pins σ H' s' ∧ IsPart u o ∧ Q o H') X.xe s
def tNoPart : TO := fun _ H Q => Q none H
def tPart (t : TE) : TO := fun σ H Q => t σ H fun x H1 => ∃ i, x = .int i ∧ Q (some i) H1

section
variable {X : Cx} {e : Expr} {te : TE} {lo hi : Option Expr} {tl th : TO} {pos p2 : Pos}

theorem po_none : PO X none tNoPart := by
  intro pins s σ H Q I h
  rw [evalPart_none]
  exact wpAny_pure ⟨none, H, I, .none, h⟩
theorem po_some (h : PE X e te) : PO X (some e) (tPart te) := by
  intro pins s σ H Q I hw
  rw [evalPart_some]
  refine thn (h pins s σ H _ I hw) fun u s1 ⟨x, H1, I1, r1, q1⟩ => ?_
  obtain ⟨i, rfl, q⟩ := q1
  obtain ⟨t, rfl⟩ := r1
  exact ⟨some i, H1, I1, .int i t, q⟩


def SlR (X : Cx) (r : V → Option Int → Option Int → Hp → VK → Prop) : Prop :=
  ∀ (pins : List (Addr × Obj)) (s : Shared) (σ : St) (H : Hp) (x : V) (v vl vu : Value) (lo hi : Option Int) (sl : Addr) (Q : VK), Inv X pins σ H s → RelV x v → s.heap.IsSliceOf sl vl vu .none → IsPart vl lo → IsPart vu hi → r x lo hi H Q →
    ∃ T id, typeLookup (.type T) "__getitem__" = pure (some (.builtin id)) ∧ s.TypeIs v T ∧ wpAny (model X.prog X.w) X.A (getItem v (.ref sl)) (EP X pins σ Q) X.xe s
theorem SlR.or {r r' : V → Option Int → Option Int → Hp → VK → Prop} (h : SlR X r) (h' : SlR X r') : SlR X (fun x lo hi H Q => r x lo hi H Q ∨ r' x lo hi H Q) := by
  intro pins s σ H x v vl vu lo hi sl Q I rx hs pl pu q
  rcases q with q | q
  · exact h pins s σ H x v vl vu lo hi sl Q I rx hs pl pu q
  · exact h' pins s σ H x v vl vu lo hi sl Q I rx hs pl pu q
def tSl (r : V → Option Int → Option Int → Hp → VK → Prop) (te : TE) (tl th : TO) : TE := fun σ H Q => te σ H fun x H1 => tl σ H1 fun l H2 => th σ H2 fun u H3 => r x l u H3 Q

theorem pe_slice {r : V → Option Int → Option Int → Hp → VK → Prop} (hr : SlR X r) (he : PE X e te) (hl : PO X lo tl) (hu : PO X hi th) : PE X (.Subscript e (.Slice lo hi none p2) pos) (tSl r te tl th) := by
  intro pins s σ H Q I h
  refine Subscript_ (thn (he pins s σ H _ I h) fun v s1 ⟨x, H1, I1, r1, q1⟩ => ?_)
  refine wpAny_Slice (thn (hl pins s1 σ H1 _ I1 q1) fun vl s2 ⟨l, H2, I2, pl, q2⟩ => thn (hu pins s2 σ H2 _ I2 q2) fun vu s3 ⟨u, H3, I3, pu, q3⟩ => ?_)
  rw [evalPart_none]
  refine wpAny_pure ?_
  have I4 : Inv X pins σ H3 { s3 with heap := s3.heap.push { cls := .type "slice", data := .fields #[vl, vu, .none] } } := I3.kept (t' := s3.toks) fun b ob q => Heap.get?_push_of_some _ q
  obtain ⟨T, id, hT, ht, hg⟩ := hr pins { s3 with heap := s3.heap.push { cls := .type "slice", data := .fields #[vl, vu, .none] } } σ H3 x v vl vu l u s3.heap.objs.size Q I4 r1 (Heap.IsSliceOf.new ..) pl pu q3
  show wpAny (model X.prog X.w) X.A (subscriptTail e (.Slice lo hi none p2) v (.ref s3.heap.objs.size)) (EP X pins σ Q) X.xe { s3 with heap := s3.heap.push { cls := .type "slice", data := .fields #[vl, vu, .none] } }
  exact tail_any (ops := [.ref s3.heap.objs.size, v]) ht hT hg (by with_unfolding_all rfl)


def cutV (xs : List V) (lo hi : Option Int) : List V := (xs.drop (HT.sIx xs.length 0 lo)).take (HT.sIx xs.length xs.length hi - HT.sIx xs.length 0 lo)
theorem cutV_length (xs : List V) (lo hi : Option Int) : (cutV xs lo hi).length ≤ xs.length := by
  unfold cutV
  rw [List.length_take, List.length_drop]
  omega

def rSlT (K : PySem.W.Frag) : V → Option Int → Option Int → Hp → VK → Prop := fun x lo hi H Q => ∃ a xs, x = .ref a ∧ SqT K H a xs ∧
  ¬ (HT.sIx xs.length 0 lo = 0 ∧ HT.sIx xs.length xs.length hi = xs.length) ∧ ∀ p, H p = none → Q (.ref p) (upd H p (.tup (cutV xs lo hi)))
theorem sl_tup : SlR X (rSlT X.K) := by
  intro pins s σ H x v vl vu lo hi sl Q I rx hs pl pu h
  obtain ⟨a, xs, rfl, hx, hw, q⟩ := h
  cases rx
  obtain ⟨its, r, ht, hz⟩ := I.tuple hx
  have hlen : its.toArray.size = xs.length := by rw [List.size_toArray]; exact r.length.symm
  refine ⟨"tuple", _, PyProof.Rows.slot_tuple_getitem.lookup, ht.typeIs, ?_⟩
  refine HT.getItem_tuple_cut ht hs pl pu (by rw [hlen]; exact hw) ?_ (by rw [hlen]; exact hz)
  rw [hlen]
  refine ⟨.ref s.heap.objs.size, _, I.laid (t' := s.toks) (o := .tup (cutV xs lo hi)) (fun b ob q => Heap.get?_push_of_some _ q) (Nat.le_refl _) ?_, rfl, q _ (I.hok.fresh (Nat.le_refl _))⟩
  exact ⟨Nat.le_trans (cutV_length xs lo hi) hz, _, (r.drop (HT.sIx xs.length 0 lo)).take (HT.sIx xs.length xs.length hi - HT.sIx xs.length 0 lo), IsTup.new _ _⟩


def rCatT (K : PySem.W.Frag) : R2 := fun x y H Q => ∃ a b xs ys, x = .ref a ∧ y = .ref b ∧ SqT K H a xs ∧ SqT K H b ys ∧ xs ≠ [] ∧ xs.length + ys.length ≤ sizeLine ∧
  (ys = [] → Q (.ref a) H) ∧ (ys ≠ [] → ∀ p, H p = none → Q (.ref p) (upd H p (.tup (xs ++ ys))))
theorem Vals.nil_iff {xs : List V} {us : List Value} (r : Vals xs us) : us = [] ↔ xs = [] := by
  cases r with
  | nil => simp
  | cons _ _ => simp
theorem op_catT : OpR X (binaryOp .Add) (rCatT X.K) := by
  intro pins s σ H x y v u Q I rx ry h
  obtain ⟨a, b, xs, ys, rfl, rfl, ha, hb, hx, hz, q1, q2⟩ := h
  cases rx
  cases ry
  obtain ⟨its, r1, p1, _⟩ := I.tuple ha
  obtain ⟨its2, r2, p2, _⟩ := I.tuple hb
  refine HT.cat_tup p1 p2 (fun z => hx (r1.nil_iff.mp z)) (fun z => ⟨.ref a, H, I, rfl, q1 (r2.nil_iff.mp z)⟩) (fun z => ?_) (by rw [← r1.length, ← r2.length]; exact hz)
  refine ⟨.ref s.heap.objs.size, _, I.laid (t' := s.toks) (o := .tup (xs ++ ys)) (fun b ob q => Heap.get?_push_of_some _ q) (Nat.le_refl _) ?_, rfl, q2 (fun w => z (r2.nil_iff.mpr w)) _ (I.hok.fresh (Nat.le_refl _))⟩
  exact ⟨by rw [List.length_append]; exact hz, _, r1.append r2, IsTup.new _ _⟩

end
end L2

namespace L2
open PySem PySem.Spec PyProof.Rows



def ixN (n : Nat) (i : Int) : Option Nat := if 0 ≤ i then (if i < n then some i.toNat else none) else if -(n : Int) ≤ i then some (i + n).toNat else none
def atI {α : Type} (xs : List α) (i : Int) : Option α := (ixN xs.length i).bind fun j => xs[j]?
theorem ixN_seq {n : Nat} {i : Int} {j : Nat} (h : ixN n i = some j) : seqIndex? i n = some j ∧ j < n ∧ -(n : Int) ≤ i ∧ i < n := by
  unfold ixN at h
  by_cases h0 : 0 ≤ i
  · rw [if_pos h0] at h
    by_cases h1 : i < n
    · rw [if_pos h1] at h
      have e : i.toNat = j := Option.some.inj h
      exact ⟨by rw [seqIndex_of h0 h1, e], by omega, by omega, h1⟩
    · rw [if_neg h1] at h; cases h
  · rw [if_neg h0] at h
    by_cases h1 : -(n : Int) ≤ i
    · rw [if_pos h1] at h
      have e : (i + n).toNat = j := Option.some.inj h
      exact ⟨by rw [seqIndex_neg (by omega) h1, e], by omega, h1, by omega⟩
    · rw [if_neg h1] at h; cases h
theorem atI_get {α : Type} {xs : List α} {i : Int} {v : α} (h : atI xs i = some v) : ∃ j, seqIndex? i xs.length = some j ∧ xs[j]? = some v ∧ j < xs.length ∧ -(xs.length : Int) ≤ i ∧ i < xs.length := by
  unfold atI at h
  cases e : ixN xs.length i with
  | none => rw [e] at h; cases h
  | some j =>
    rw [e] at h
    obtain ⟨h1, h2, h3, h4⟩ := ixN_seq e
    exact ⟨j, h1, h, h2, h3, h4⟩
theorem atI_nat {α : Type} {xs : List α} {j : Nat} {v : α} (h : xs[j]? = some v) : atI xs (j : Int) = some v := by
  have hj : j < xs.length := (List.getElem?_eq_some_iff.mp h).1
  have e : ixN xs.length (j : Int) = some j := by
    unfold ixN
    rw [if_pos (by omega), if_pos (by omega)]; simp
  unfold atI; rw [e]; exact h
def PlainIx (b : Expr) : Prop := ∀ o i, subscripted b false o i = operate [o, i] (getItem o i)

def IxR (X : Cx) (r : R2) : Prop :=
  ∀ (value slice : Expr) (pins : List (Addr × Obj)) (s : Shared) (σ : St) (H : Hp) (x y : V) (v u : Value) (Q : VK), Inv X pins σ H s → RelV x v → RelV y u → r x y H Q →
    subscripted slice false v u = operate [v, u] (getItem v u) → wpAny (model X.prog X.w) X.A (subscriptTail value slice v u) (EP X pins σ Q) X.xe s

def MtR (X : Cx) (id : String) (r : V → List V → Hp → VK → Prop) : Prop :=
  ∀ (pins : List (Addr × Obj)) (s : Shared) (σ : St) (H : Hp) (x : V) (xs : List V) (v : Value) (us : List Value) (Q : VK), Inv X pins σ H s → RelV x v → Vals xs us → r x xs H Q →
    wpAny (model X.prog X.w) X.A (call (.builtin id) (v :: us)) (EP X pins σ Q) X.xe s
section
variable {X : Cx} {a b : Expr} {ta tb : TE} {pos : Pos}
theorem IxR.or {r r' : R2} (h : IxR X r) (h' : IxR X r') : IxR X (fun x y H Q => r x y H Q ∨ r' x y H Q) := by
  intro value slice pins s σ H x y v u Q I rx ry q hs
  rcases q with q | q
  · exact h value slice pins s σ H x y v u Q I rx ry q hs
  · exact h' value slice pins s σ H x y v u Q I rx ry q hs
theorem MtR.or {id : String} {r r' : V → List V → Hp → VK → Prop} (h : MtR X id r) (h' : MtR X id r') : MtR X id (fun x xs H Q => r x xs H Q ∨ r' x xs H Q) := by
  intro pins s σ H x xs v us Q I rx rs q
  rcases q with q | q
  · exact h pins s σ H x xs v us Q I rx rs q
  · exact h' pins s σ H x xs v us Q I rx rs q

theorem pe_ix {r : R2} (hr : IxR X r) (ha : PE X a ta) (hb : PE X b tb) (hs : PlainIx b) : PE X (.Subscript a b pos) (tOp r ta tb) := by
  intro pins s σ H Q I h
  exact Subscript_ (binT ha hb I h fun v u s2 x y H2 I2 rx ry q => hr a b pins s2 σ H2 x y v u Q I2 rx ry q (hs _ _))

def rIxL (K : PySem.W.Frag) : R2 := fun x y H Q => ∃ p xs i v, x = .ref p ∧ y = .int i ∧ SqL K H p xs ∧ atI xs i = some v ∧ Q v H
def rIxT (K : PySem.W.Frag) : R2 := fun x y H Q => ∃ p xs i v, x = .ref p ∧ y = .int i ∧ SqT K H p xs ∧ atI xs i = some v ∧ Q v H
def rIxS : R2 := fun x y H Q => ∃ z i c, x = .str z ∧ y = .int i ∧ z.length ≤ sizeLine ∧ atI z.cps.toList i = some c ∧ Q (.str ⟨#[c]⟩) H
theorem ix_list : IxR X (rIxL X.K) := by
  intro value slice pins s σ H x y v u Q I rx ry h hs
  obtain ⟨p, xs, i, z, rfl, rfl, hq, he, q⟩ := h
  cases rx
  obtain ⟨t, rfl⟩ := ry
  obtain ⟨its, r, pl, hz⟩ := I.list hq
  obtain ⟨j, h1, h2, h3, h4, h5⟩ := atI_get he
  obtain ⟨w, ew, rw'⟩ := r.get h2
  have hl := r.length
  have hn := line63
  have fin : EP X pins σ Q w s := ⟨z, H, I, rw', q⟩
  by_cases h0 : 0 ≤ i
  · have hj : i.toNat = j := by
      rw [seqIndex_of h0 h5] at h1
      exact Option.some.inj h1
    exact item_listR pl.isList h0 (by omega) (by rw [hj]; simpa using ew) fin hs
  · have hj : (i + (its.toArray.size : Int)).toNat = j := by
      rw [seqIndex_neg (by omega) h4] at h1
      rw [List.size_toArray, ← hl]
      exact Option.some.inj h1
    exact subscriptTail_builtinR (x := w) pl.isList.typeIs slot_list_getitem.lookup
      (wpAny_getItem_list_neg (Q := fun r s' => r = w ∧ EP X pins σ Q r s') pl.isList (by omega) (by rw [List.size_toArray] <;> omega) (by omega) (by rw [hj]; simpa using ew) ⟨rfl, fin⟩) hs
theorem ix_tup : IxR X (rIxT X.K) := by
  intro value slice pins s σ H x y v u Q I rx ry h hs
  obtain ⟨p, xs, i, z, rfl, rfl, hq, he, q⟩ := h
  cases rx
  obtain ⟨t, rfl⟩ := ry
  obtain ⟨its, r, pl, hz⟩ := I.tuple hq
  obtain ⟨j, h1, h2, h3, h4, h5⟩ := atI_get he
  obtain ⟨w, ew, rw'⟩ := r.get h2
  have hl := r.length
  have hn := line63
  have fin : EP X pins σ Q w s := ⟨z, H, I, rw', q⟩
  exact subscriptTail_builtinR (x := w) pl.typeIs slot_tuple_getitem.lookup
    (getItem_tuple (j := j) (Q := fun r s' => r = w ∧ EP X pins σ Q r s') pl (by omega) (by omega) (by rw [List.size_toArray, ← hl]; exact h1) (by simpa using ew) ⟨rfl, fin⟩) hs
theorem ix_str : IxR X rIxS := by
  intro value slice pins s σ H x y v u Q I rx ry h hs
  obtain ⟨z, i, c, rfl, rfl, hz, he, q⟩ := h
  obtain ⟨t, rfl⟩ := rx
  obtain ⟨t', rfl⟩ := ry
  obtain ⟨j, h1, h2, h3, h4, h5⟩ := atI_get he
  have hl : z.cps.toList.length = z.length := by simp [Str.length]
  rw [hl] at h1 h4 h5
  have hn := line63
  exact tail_any (typeIs_str s z t) slot_str_getitem.lookup (getItem_str (c := c) (by
    have e1 : decide (i < -(2 ^ 63 : Int)) = false := decide_eq_false (by omega)
    have e2 : decide (i ≥ 2 ^ 63) = false := decide_eq_false (by omega)
    rw [e1, e2, Bool.or_false]) (by rw [h1]; simpa using h2) ⟨.str ⟨#[c]⟩, H, I.tok _, ⟨_, rfl⟩, q⟩) hs

theorem Inv.lst {pins : List (Addr × Obj)} {σ : St} {H : Hp} {s : Shared} {p : Addr} {xs : List V} (I : Inv X pins σ H s) (h : H p = some (.lst xs)) :
    ∃ (its : List Value) (n : Nat), Vals xs its ∧ s.heap.get? p = some { cls := .type "list", data := .seq its.toArray n } ∧ xs.length ≤ sizeLine := by
  obtain ⟨z, its, n, r, e⟩ := I.hok p _ h
  exact ⟨its, n, r, e, z⟩

theorem slice_bounds (lo hi : Option Int) (n : Nat) : (sliceBounds lo hi none n).1 = ((HT.sIx n 0 lo : Nat) : Int) ∧ (sliceBounds lo hi none n).2.1 = ((HT.sIx n n hi : Nat) : Int) ∧ (sliceBounds lo hi none n).2.2 = 1 := by
  refine ⟨?_, ?_, rfl⟩
  · cases lo with
    | none => simp [sliceBounds, HT.sIx]
    | some i =>
      simp only [sliceBounds, HT.sIx, Option.getD_none, show (1 : Int) > 0 by decide, if_true]
      by_cases h : i < 0
      · simp only [h, if_true] <;> omega
      · simp only [h, if_false] <;> omega
  · cases hi with
    | none => simp [sliceBounds, HT.sIx]
    | some i =>
      simp only [sliceBounds, HT.sIx, Option.getD_none, show (1 : Int) > 0 by decide, if_true]
      by_cases h : i < 0
      · simp only [h, if_true] <;> omega
      · simp only [h, if_false] <;> omega
theorem slicePick_cut (its : List Value) (lo hi : Option Int) : slicePick its.toArray lo hi none = ((its.drop (HT.sIx its.length 0 lo)).take (HT.sIx its.length its.length hi - HT.sIx its.length 0 lo)).toArray := by
  obtain ⟨h1, h2, h3⟩ := slice_bounds lo hi its.toArray.size
  unfold slicePick
  rw [h1, h2, h3]
  simp only [sliceRange_one, pick_run, List.size_toArray] <;> rfl

def rSlL (K : PySem.W.Frag) : V → Option Int → Option Int → Hp → VK → Prop := fun x lo hi H Q => ∃ a xs, x = .ref a ∧ SqL K H a xs ∧ ∀ p, H p = none → Q (.ref p) (upd H p (.lst (cutV xs lo hi)))
theorem sl_list : SlR X (rSlL X.K) := by
  intro pins s σ H x v vl vu lo hi sl Q I rx hs pl pu h
  obtain ⟨a, xs, rfl, hx, q⟩ := h
  cases rx
  obtain ⟨its, r, ht, hz⟩ := I.list hx
  have hlen := r.length
  refine ⟨"list", _, slot_list_getitem.lookup, ht.isList.typeIs, ?_⟩
  refine wpAny_getItem_list_slice ht.isList hs pl pu .none (by simp) ?_ (by rw [List.size_toArray] <;> omega)
  rw [slicePick_cut, ← hlen]
  refine ⟨.ref s.heap.objs.size, _, I.laid (t' := s.toks) (o := .lst (cutV xs lo hi)) (fun b ob q => Heap.get?_push_of_some _ q) (Nat.le_refl _) ?_, rfl, q _ (I.hok.fresh (Nat.le_refl _))⟩
  exact ⟨Nat.le_trans (cutV_length xs lo hi) hz, _, 0, (r.drop (HT.sIx xs.length 0 lo)).take (HT.sIx xs.length xs.length hi - HT.sIx xs.length 0 lo), Heap.get?_push_size _ rfl⟩


def flatV : V → Bool
  | .non => true
  | .bl _ => true
  | .int _ => true
  | .str _ => true
  | _ => false

def eqV : V → V → Bool
  | .non, .non => true
  | .bl a, .bl b => a == b
  | .bl a, .int b => (if a then 1 else 0) == b
  | .int a, .bl b => a == (if b then 1 else 0)
  | .int a, .int b => a == b
  | .str a, .str b => a == b
  | _, _ => false
theorem eqAt_V {A : Around} {s : Shared} {y x : V} {u v : Value} (ry : RelV y u) (rx : RelV x v) (fy : flatV y = true) (fx : flatV x = true) : SeqAt.EqAt A s u v (eqV y x) := by
  cases y with
  | non =>
    cases ry
    cases x with
    | non => cases rx; exact SeqAt.EqAt.same _
    | bl b => cases rx; exact SeqAt.EqAt.none_bool b
    | int b => obtain ⟨t, rfl⟩ := rx; exact SeqAt.EqAt.none_int b t
    | str b => obtain ⟨t, rfl⟩ := rx; exact SeqAt.EqAt.none_str b t
    | _ => exact absurd (show false = true from fx) Bool.false_ne_true
  | bl a =>
    cases ry
    cases x with
    | non => cases rx; exact SeqAt.EqAt.bool_none a
    | bl b => cases rx; exact SeqAt.EqAt.bool_bool a b
    | int b => obtain ⟨t, rfl⟩ := rx; exact SeqAt.EqAt.bool_int a b t
    | str b => obtain ⟨t, rfl⟩ := rx; exact SeqAt.EqAt.bool_str a b t
    | _ => exact absurd (show false = true from fx) Bool.false_ne_true
  | int a =>
    obtain ⟨t', rfl⟩ := ry
    cases x with
    | non => cases rx; exact SeqAt.EqAt.int_none a t'
    | bl b => cases rx; exact SeqAt.EqAt.int_bool a t' b
    | int b => obtain ⟨t, rfl⟩ := rx; exact SeqAt.EqAt.int_int a t' b t
    | str b => obtain ⟨t, rfl⟩ := rx; exact SeqAt.EqAt.int_str a t' b t
    | _ => exact absurd (show false = true from fx) Bool.false_ne_true
  | str a =>
    obtain ⟨t', rfl⟩ := ry
    cases x with
    | non => cases rx; exact SeqAt.EqAt.str_none a t'
    | bl b => cases rx; exact SeqAt.EqAt.str_bool a t' b
    | int b => obtain ⟨t, rfl⟩ := rx; exact SeqAt.EqAt.str_int a t' b t
    | str b => obtain ⟨t, rfl⟩ := rx; exact SeqAt.EqAt.str_str a t' b t
    | _ => exact absurd (show false = true from fx) Bool.false_ne_true
  | _ => exact absurd (show false = true from fy) Bool.false_ne_true

def eqU (x : V) (u : Value) : Bool := match u with
  | .none => eqV .non x
  | .bool b => eqV (.bl b) x
  | .int i _ => eqV (.int i) x
  | .str z _ => eqV (.str z) x
  | _ => false
theorem eqU_of {x y : V} {u : Value} (r : RelV y u) (f : flatV y = true) : eqU x u = eqV y x := by
  cases y with
  | non => cases r; rfl
  | bl b => cases r; rfl
  | int i => obtain ⟨t, rfl⟩ := r; rfl
  | str z => obtain ⟨t, rfl⟩ := r; rfl
  | _ => exact absurd (show false = true from f) Bool.false_ne_true
theorem any_eqU {x : V} : ∀ {xs : List V} {us : List Value}, Vals xs us → xs.all flatV = true → us.any (eqU x) = xs.any fun y => eqV y x
  | _, _, .nil, _ => rfl
  | y :: xs, u :: us, .cons r t, f => by
    rw [List.all_cons, Bool.and_eq_true] at f
    rw [List.any_cons, List.any_cons, eqU_of r f.1, any_eqU t f.2]
theorem mem_eqAt {A : Around} {s : Shared} {x : V} {v : Value} (rx : RelV x v) (fx : flatV x = true) : ∀ {xs : List V} {us : List Value}, Vals xs us → xs.all flatV = true → ∀ u ∈ us, SeqAt.EqAt A s u v (eqU x u)
  | _, _, .nil, _ => fun u hu => by cases hu
  | y :: xs, u :: us, .cons r t, f => fun u' hu => by
    rw [List.all_cons, Bool.and_eq_true] at f
    rcases List.mem_cons.mp hu with rfl | hu
    · rw [eqU_of r f.1]; exact eqAt_V r rx f.1 fx
    · exact mem_eqAt rx fx t f.2 u' hu
def inV (x : V) (xs : List V) : Bool := xs.any fun y => eqV y x

def rIn (K : PySem.W.Frag) (neg : Bool) : R2 := fun x y H Q => ∃ p xs, y = .ref p ∧ (SqL K H p xs ∨ SqT K H p xs) ∧ flatV x = true ∧ xs.all flatV = true ∧ Q (.bl (if neg then !inV x xs else inV x xs)) H
theorem op_in_seq : OpR X (compareOp .In) (rIn X.K false) := by
  intro pins s σ H x y v u Q I rx ry h
  obtain ⟨p, xs, rfl, hq, fx, fs, q⟩ := h
  cases ry
  rcases hq with hq | hq
  · obtain ⟨its, r, pl, hz⟩ := I.list hq
    refine SeqAt.in_listAt (eqU x) pl.isList (fun w hw => mem_eqAt rx fx r fs w (by simpa using hw)) ⟨.bl _, H, I, rfl, ?_⟩
    rw [show its.toArray.any (eqU x) = its.any (eqU x) by simp, any_eqU r fs]
    exact q
  · obtain ⟨its, r, pl, hz⟩ := I.tuple hq
    refine SeqAt.in_tupleAt (eqU x) pl (fun w hw => mem_eqAt rx fx r fs w (by simpa using hw)) ⟨.bl _, H, I, rfl, ?_⟩
    rw [show its.toArray.any (eqU x) = its.any (eqU x) by simp, any_eqU r fs]
    exact q
theorem call_len_seq : CallR X (.builtin "len") (fun xs H Q => ∃ p ys, xs = [.ref p] ∧ (SqL X.K H p ys ∨ SqT X.K H p ys) ∧ Q (.int ys.length) H) := by
  intro pins s σ H xs us Q I r h
  obtain ⟨p, ys, rfl, hq, q⟩ := h
  obtain ⟨u, rfl, rx⟩ := vals1 r
  cases rx
  have hn := line63
  rcases hq with hq | hq
  · obtain ⟨its, r', pl, hz⟩ := I.list hq
    have hlen := r'.length
    exact Calls.call_len_list pl.isList (by simp only [List.size_toArray] <;> omega) ⟨.int ys.length, H, I.tok _, ⟨s.toks + 1, by rw [List.size_toArray, hlen]⟩, q⟩
  · obtain ⟨its, r', pl, hz⟩ := I.tuple hq
    have hlen := r'.length
    exact len_tuple pl (by simp only [List.size_toArray] <;> omega) ⟨.int ys.length, H, I.tok _, ⟨s.toks + 1, by rw [List.size_toArray, hlen]⟩, q⟩
theorem call_len_str : CallR X (.builtin "len") (fun xs H Q => ∃ z, xs = [.str z] ∧ z.length ≤ sizeLine ∧ Q (.int z.length) H) := by
  intro pins s σ H xs us Q I r h
  obtain ⟨z, rfl, hz, q⟩ := h
  obtain ⟨u, rfl, t, rfl⟩ := vals1 r
  have hn := line63
  exact len_str (by omega) ⟨.int z.length, H, I.tok _, ⟨_, rfl⟩, q⟩
theorem CallR.or {f : Value} {r r' : List V → Hp → VK → Prop} (h : CallR X f r) (h' : CallR X f r') : CallR X f (fun xs H Q => r xs H Q ∨ r' xs H Q) := by
  intro pins s σ H xs us Q I rs q
  rcases q with q | q
  · exact h pins s σ H xs us Q I rs q
  · exact h' pins s σ H xs us Q I rs q
def tyV (K : PySem.W.Frag) (T : String) (x : V) (H : Hp) : Prop := match x with
  | .str _ => T = "str"
  | .int _ => T = "int"
  | .ref p => (T = "list" ∧ ∃ xs, SqL K H p xs) ∨ (T = "tuple" ∧ ∃ o, K.lookup p = some o ∧ o.cls = .type "tuple" ∧ o.dict = none) ∨
      (T = "dict" ∧ ((∃ kvs, H p = some (.dK kvs)) ∨ ∃ kvs, H p = some (.dT kvs))) ∨ (T = "set" ∧ ∃ S n, H p = some (.set S n))
  | _ => False
theorem tyV_is {pins : List (Addr × Obj)} {σ : St} {H : Hp} {s : Shared} {T : String} {x : V} {v : Value} (I : Inv X pins σ H s) (r : RelV x v) (ty : tyV X.K T x H) :
    s.TypeIs v T ∧ ∀ a, v = .ref a → ∃ ob, s.heap.get? a = some ob ∧ ob.dict = none := by
  cases x with
  | str z =>
    obtain ⟨t, rfl⟩ := r
    cases (show T = "str" from ty)
    exact ⟨typeIs_str s z t, fun _ e => nomatch e⟩
  | int i =>
    obtain ⟨t, rfl⟩ := r
    cases (show T = "int" from ty)
    exact ⟨typeIs_int s i t, fun _ e => nomatch e⟩
  | ref p =>
    cases r
    rcases ty with ⟨rfl, xs, hq⟩ | ⟨rfl, o, hk, hc, hd⟩ | ⟨rfl, hk⟩ | ⟨rfl, S, n, hk⟩
    · obtain ⟨its, _, pl, _⟩ := I.list hq
      refine ⟨pl.isList.typeIs, fun a e => ?_⟩
      cases e
      obtain ⟨o, n, e, c, hd, _⟩ := pl
      exact ⟨o, e, hd⟩
    · refine ⟨⟨o, I.kIn p o hk, hc⟩, fun a e => ?_⟩
      cases e
      exact ⟨o, I.kIn _ o hk, hd⟩
    · have z : ∃ o, s.heap.get? p = some o ∧ o.ExactDict := by
        rcases hk with ⟨kvs, hk⟩ | ⟨kvs, hk⟩
        · obtain ⟨_, _, _, _, o, _, _, e, ex, _⟩ := I.hok p _ hk
          exact ⟨o, e, ex⟩
        · obtain ⟨_, _, _, _, o, _, _, e, ex, _⟩ := I.hok p _ hk
          exact ⟨o, e, ex⟩
      obtain ⟨o, e, ex⟩ := z
      refine ⟨⟨o, e, ex.1⟩, fun a e2 => ?_⟩
      cases e2
      exact ⟨o, e, ex.2.1⟩
    · obtain ⟨o, _, _, _, e, ex, _⟩ := I.hok p _ hk
      refine ⟨⟨o, e, ex.1⟩, fun a e2 => ?_⟩
      cases e2
      exact ⟨o, e, ex.2.1⟩
  | _ => exact False.elim ty
def tBM0 (K : PySem.W.Frag) (T : String) (r : V → List V → Hp → VK → Prop) (to : TE) : TE := fun σ H Q => to σ H fun x H1 => tyV K T x H1 ∧ r x [] H1 Q
def tBM (K : PySem.W.Frag) (T : String) (r : V → List V → Hp → VK → Prop) (to : TE) (t : TA) : TE := fun σ H Q => to σ H fun x H1 => tyV K T x H1 ∧ t σ H1 fun xs H2 => r x xs H2 Q
variable {o e : Expr} {es : List Expr} {to : TE} {t : TA} {name : Str} {apos cpos : Pos} {T id : String} {r : V → List V → Hp → VK → Prop}
theorem pe_bm (pa : PlainAttrs T) (slot : Slot T name id) (hty : typeOf (.builtin id) = pure (.type "method_descriptor")) (hm : MtR X id r) (ho : PE X o to) (ha : PA X (e :: es) t)
    (hbase : attributeBase o name X.env (eval o X.env) = eval o X.env := by rfl)
    (hfew : ((backTo cpos (starEach (e :: es) X.env)).all (fun x => !x.1) && (backToKw cpos (keywordEach [] X.env)).all (fun x => x.1.isSome)
      && decide ((e :: es).length + ([] : List Keyword).length + (if ([] : List Keyword).isEmpty then 0 else 1) < 30)) = true := by rfl)
    (hline : (apos.endLine == cpos.line) = true := by rfl) (hs : starEach (e :: es) X.env = (false, eval e X.env) :: starEach es X.env := by rfl) (hplain : (backTo cpos (starEach es X.env)).any (·.1) = false := by rfl) :
    PE X (.Call (.Attribute o name apos) (e :: es) [] cpos) (tBM X.K T r to t) := by
  intro pins s σ H Q I h
  refine wpAny_Call_method_late hbase hfew hline rfl (thn (ho pins s σ H _ I h) fun v s1 ⟨x, H1, I1, r1, ty, q1⟩ => ?_)
  obtain ⟨h1, h2⟩ := tyV_is I1 r1 ty
  refine ⟨T, id, pa, slot, hty, h1, h2, ?_⟩
  have hA := ha cpos pins s1 σ H1 _ I1 q1
  rw [hs] at hA ⊢
  refine Calls.callWith_builtin (by show (false || (backTo cpos (starEach es X.env)).any (·.1)) = false; rw [hplain] <;> rfl) (Calls.evalArgs_plain ?_)
  exact thn hA fun us s2 ⟨vs, H2, I2, r2, q2⟩ => hm pins s2 σ H2 x vs v us Q I2 r1 r2 q2

end
end L2

namespace L2
open PySem PySem.Spec PyProof.Rows

def MtM (X : Cx) (id : String) (r : V → List V → Hp → VK → Prop) : Prop :=
  ∀ (pins : List (Addr × Obj)) (s : Shared) (σ : St) (H : Hp) (x : V) (xs : List V) (v : Value) (us : List Value) (Q : VK), Inv X pins σ H s → RelV x v → Vals xs us → r x xs H Q →
    wpAny (model X.prog X.w) X.A (call (.builtin id) (v :: us)) (EP X pins σ Q) X.xe s


theorem Vals.one : ∀ {x : V} {us : List Value}, Vals [x] us → ∃ u, us = [u] ∧ RelV x u
  | _, _, .cons r .nil => ⟨_, rfl, r⟩
theorem Vals.zero : ∀ {us : List Value}, Vals [] us → us = []
  | _, .nil => rfl
theorem Vals.dropLast {xs : List V} {us : List Value} (h : Vals xs us) : Vals xs.dropLast us.dropLast := by
  induction h with
  | nil => exact .nil
  | cons r t ih =>
    cases t with
    | nil => exact .nil
    | cons q t' => exact .cons r ih
theorem Vals.reverse {xs : List V} {us : List Value} (h : Vals xs us) : Vals xs.reverse us.reverse := by
  induction h with
  | nil => exact .nil
  | cons r t ih => rw [List.reverse_cons, List.reverse_cons]; exact Vals.append ih (.cons r .nil)
section
variable {X : Cx} {pins : List (Addr × Obj)} {σ : St} {H : Hp} {s : Shared} {l b : Addr} {xs ys zs : List V}


theorem Inv.lset {its its' : List Value} {n : Nat} {f : Array Value → Array Value} {t' : Nat} (I : Inv X pins σ H s) (hH : H l = some (.lst xs))
    (e : s.heap.get? l = some { cls := .type "list", data := .seq its.toArray n }) (hf : f its.toArray = its'.toArray) (hv : Vals ys its') (hz : ys.length ≤ sizeLine) :
    Inv X pins σ (upd H l (.lst ys)) { s with heap := s.heap.update l (Obj.mapSeq f), toks := t' } := by
  have q := PySem.IsL.update e f
  rw [hf] at q
  refine I.write (x := l) (e := l) (by rw [hH]; exact trivial) (.inl rfl) (fun b' u hb hu => (Heap.get?_update_other s.heap (Obj.mapSeq f) (Ne.symm hb)).trans hu) ⟨_, q⟩ ?_
  exact ⟨hz, its', _, hv, q⟩
theorem Inv.lnew {its : List Value} {t' : Nat} (I : Inv X pins σ H s) (hv : Vals ys its) (hz : ys.length ≤ sizeLine) :
    Inv X pins σ (upd H s.heap.objs.size (.lst ys)) { s with heap := s.heap.push { cls := .type "list", data := .seq its.toArray }, toks := t' } :=
  I.laid (fun _ _ q => Heap.get?_push_of_some _ q) (Nat.le_refl _) ⟨hz, its, 0, hv, Heap.get?_push_size _ rfl⟩
theorem Inv.fresh (I : Inv X pins σ H s) : H s.heap.objs.size = none := I.hok.fresh (Nat.le_refl _)
theorem Inv.lstM (I : Inv X pins σ H s) (hH : H l = some (.lst xs)) : xs.length ≤ sizeLine ∧ ∃ (its : List Value) (n : Nat), Vals xs its ∧ xs.length = its.length ∧ s.heap.get? l = some { cls := .type "list", data := .seq its.toArray n } := by
  obtain ⟨z, its, n, r, e⟩ := I.hok l _ hH
  exact ⟨z, its, n, r, r.length, e⟩

theorem notLongL {n : Nat} (h : n ≤ sizeLine) : Builtin.List.listTooLong n = false := by
  unfold Builtin.List.listTooLong
  exact decide_eq_false (by omega)
end

section
variable {X : Cx}


def rAppend : V → List V → Hp → VK → Prop := fun x vs H Q => ∃ l xs y, x = .ref l ∧ vs = [y] ∧ H l = some (.lst xs) ∧ xs.length < sizeLine ∧ Q .non (upd H l (.lst (xs ++ [y])))
theorem mt_append : MtM X "list.append" rAppend := by
  intro pins s σ H x vs v us Q I rx rv h
  obtain ⟨l, xs, y, rfl, rfl, hH, hz, q⟩ := h
  cases rx
  obtain ⟨u, rfl, ru⟩ := rv.one
  obtain ⟨z, its, n, r, hl, e⟩ := I.lstM hH
  refine call_meets F.slot_list_append ⟨_, e, rfl⟩ F.entry_list_append (F.args_list_append_2 _ _) (PySem.list_append l its.toArray n u (by rw [List.size_toArray]; omega)) ⟨e, ?_⟩
  refine ⟨.non, _, I.lset (its' := its ++ [u]) hH e (by simp) (r.append (.cons ru .nil)) ?_, rfl, q⟩
  rw [List.length_append, List.length_singleton]
  omega

def rExtend : V → List V → Hp → VK → Prop := fun x vs H Q => ∃ l b xs zs, x = .ref l ∧ vs = [.ref b] ∧ H l = some (.lst xs) ∧ H b = some (.lst zs) ∧ xs.length + zs.length ≤ sizeLine ∧ Q .non (upd H l (.lst (xs ++ zs)))
theorem mt_extend : MtM X "list.extend" rExtend := by
  intro pins s σ H x vs v us Q I rx rv h
  obtain ⟨l, b, xs, zs, rfl, rfl, hH, hB, hz, q⟩ := h
  cases rx
  obtain ⟨u, rfl, ru⟩ := rv.one
  cases ru
  obtain ⟨z, its, n, r, hl, e⟩ := I.lstM hH
  obtain ⟨z2, its2, n2, r2, hl2, e2⟩ := I.lstM hB
  have hsz : its.toArray.size + its2.toArray.size ≤ sizeLine := by rw [List.size_toArray, List.size_toArray]; omega
  have hlong : ¬ (!its.toArray.isEmpty && Builtin.List.listTooLong (its.toArray.size + its2.toArray.size)) = true := by
    rw [notLongL hsz, Bool.and_false]
    exact Bool.false_ne_true
  refine call_meets F.slot_list_extend ⟨_, e, rfl⟩ F.entry_list_extend (F.args_list_extend_2 _ _)
    (AutoSeq1.list_extend_list_list_0 l its.toArray n b its2.toArray n2 hlong (by rw [List.size_toArray]; omega) (by omega)) ⟨e, e2, ?_⟩
  refine ⟨.non, _, I.lset (its' := its ++ its2) hH e (by simp) (r.append r2) ?_, rfl, q⟩
  rw [List.length_append]
  omega

def rClear : V → List V → Hp → VK → Prop := fun x vs H Q => ∃ l xs, x = .ref l ∧ vs = [] ∧ H l = some (.lst xs) ∧ Q .non (upd H l (.lst []))
def rCat : R2 := fun x y H Q => ∃ l b xs zs, x = .ref l ∧ y = .ref b ∧ H l = some (.lst xs) ∧ H b = some (.lst zs) ∧ xs.length + zs.length ≤ sizeLine ∧ ∀ p, H p = none → Q (.ref p) (upd H p (.lst (xs ++ zs)))
theorem op_cat : OpR X (binaryOp .Add) rCat := by
  intro pins s σ H x y v u Q I rx ry h
  obtain ⟨l, b, xs, zs, rfl, rfl, hH, hB, hz, q⟩ := h
  cases rx
  cases ry
  obtain ⟨z, its, n, r, hl, e⟩ := I.lstM hH
  obtain ⟨z2, its2, n2, r2, hl2, e2⟩ := I.lstM hB
  refine PySem.P.add_list e e2 ?_ (by rw [List.size_toArray, List.size_toArray]; omega)
  have ea : its.toArray ++ its2.toArray = (its ++ its2).toArray := by simp
  rw [ea]
  exact ⟨.ref _, _, I.lnew (t' := s.toks) (r.append r2) (by rw [List.length_append]; omega), rfl, q _ I.fresh⟩

end


section
variable {prog : Program} {w : World} {A : Around} {E : Value → Shared → Prop} {s : Shared}
set_option maxRecDepth 100000 in

end

section
variable {X : Cx}

end
end L2

namespace Att
open PySem PySem.W PySem.Calls PyProof.Rows


theorem ints_of_wellAll {P : Params} {h : Heap} : ∀ (ns : List Int) (vs : List Value), WellAll P h vs (ns.map WData.int) → IntsAre vs ns := by
  intro ns
  induction ns with
  | nil =>
    intro vs w
    rw [List.map_nil] at w
    cases w
    exact .nil
  | cons n ns ih =>
    intro vs w
    rw [List.map_cons] at w
    cases w with
    | cons a b =>
      cases a
      exact .cons _ _ (ih _ b)

theorem script_of {l : OpenLaw} {n : Nat} (hn : l.most = some n) {P : Params} {h : Heap} {args : List WData} {vals : List Value}
    (hpre : l.row.toRowW.claim.pre args = true) (hwl : WellAll P h vals args) :
    ∃ a vs ns, vals = [Value.ref a] ∧ args = [WData.list (ns.map WData.int)] ∧ h.get? a = some { cls := .type "list", data := .seq vs.toArray } ∧ IntsAre vs ns ∧ ns.length ≤ n := by
  have hsh : WShape.hasAll [] args [.list .int] = true := (pre_splitW hpre).1
  have hc : l.pre.holds [] { args := args } = true := (pre_splitW hpre).2
  obtain ⟨d, r, rfl, h1, h2⟩ := hasAllW_cons hsh
  obtain rfl := hasAllW_nil h2
  obtain ⟨xs, rfl, h3⟩ := hasW_list h1
  obtain ⟨ns, rfl⟩ := items_int h3
  have hlen : ns.length ≤ n := by
    unfold OpenLaw.pre at hc
    have h4 : (WTm.not (.lt (.lit (.int (n : Int))) (.len (.arg 0)))).holds [] { args := [.list (ns.map .int)] } = true := by
      have h4 := (holds_andW hc).1
      rw [hn] at h4
      exact h4
    have h5 := condW_of h4 (w_not (w_lt w_lit (w_len_list (w_arg rfl))))
    rw [List.length_map] at h5
    refine Nat.le_of_not_lt fun q => ?_
    have q' : (n : Int) < ((ns.length : Nat) : Int) := by omega
    first
      | (rw [decide_eq_true q'] at h5; exact absurd h5 (by decide))
      | (simp at h5; omega)
  cases hwl with
  | cons w1 w2 =>
    cases w2
    cases w1 with
    | list ho hall => exact ⟨_, _, ns, rfl, rfl, ho, ints_of_wellAll ns _ hall, hlen⟩

theorem post_true (l : OpenLaw) (args : List WData) : l.row.toRowW.claim.post args (.bool true) args = true :=
  postW_of (r := l.row.toRowW) (X := (true == true))
    (show WShape.has [] (.bool true) .bool = true by first | rfl | decide | simp [WShape.has, WShape.arms, WShape.armsAll])
    (show (WTm.eq .res (.lit (.bool true))).value [] { args := args, res := some (.bool true), after := args } = some (.bool (true == true)) from w_eq_bool (w_res rfl) w_lit) rfl


theorem attach_call {l : OpenLaw} {n : Nat} {q : Program} {loose : List Str} {XP : (Str → Option Value) → Heap → Prop} {YP : World → Heap → Prop} {d : DefRec}
    (hn : l.most = some n) (hdf : d.params.defaults = [])
    (call : ∀ (w : World) (s₀ s₁ : Shared) (mg mb : Str → Option Value) (fa : Addr) (o : Obj) (pm cd doc : Value) (a : Addr) (vs : List Value) (ns : List Int),
      Ground q loose [] XP w s₀ mg mb s₁.heap → YP w s₁.heap →
      s₁.heap.get? fa = some o → o.data = .func (docDef d.name d.params d.body d.scope pm cd doc) → s₁.heap.CodeRec cd d.name → mg d.name = some (.ref fa) →
      s₁.heap.get? a = some { cls := .type "list", data := .seq vs.toArray } → IntsAre vs ns → ns.length ≤ n → s₁.gens = #[] →
      codeAny (model l.prog w) callerA (.call (.ref fa) ⟨[.ref a], []⟩) (fun r s' => r = .ok (.ret (.bool true)) ∧ OldK s₁.heap s'.heap ∧ s'.os = s₁.os ∧ AllBare s'.gens) s₁) :
    WalkO q loose XP YP l.row.toRowW d [] (fun f vs => PySem.call f vs) := by
  intro w s₀ s₁ mg mb G Y fa o pm cd doc dV kV ho hd hcd hD hmg hg args vals as hpre hlay hrd hwl hlo
  obtain rfl : dV = .none := Dflts.none hD hdf
  obtain rfl : kV = .none := Dflts.noKw hD
  obtain ⟨a, vs, ns, rfl, rfl, hobj, hints, hlen⟩ := script_of hn hpre hwl
  refine enter_call (codeAny_mono (call w s₀ s₁ mg mb fa o pm cd doc a vs ns G Y ho (fd_plain hd) hcd hmg hobj hints hlen hg) fun r s' hq => ?_)
  obtain ⟨rfl, h2, h3, h4⟩ := hq
  exact ⟨.inl ⟨.bool true, .bool true, [], rfl, fun _ => rfl, .bool true, post_true l _, fun _ => ⟨List.Pairwise.nil, fun _ hm => (nomatch hm)⟩⟩, h2, h3, h4⟩


section
variable {prog : Program} {w : World} {A : Around} {E : Value → Shared → Prop} {s : Shared} {K : Frag}


end
end Att

namespace L2
open PySem PySem.Spec PyProof.Rows

theorem vals_ints : ∀ {vs : List Value} {ns : List Int}, IntsAre vs ns → Vals (ns.map V.int) vs
  | _, _, .nil => .nil
  | _, _, .cons n t h => .cons ⟨t, rfl⟩ (vals_ints h)


def Only (H : Hp) : Prop := ∀ b, H b = none ∨ ∃ o xs, H b = some (.frz o (.lst xs))


theorem law_call {P : Program} {w : World} {K : PySem.W.Frag} {mg mb : Str → Option Value} {CX : CXT} {k : Nat} {fa a : Addr} {fd : FuncData} {x : Str} {sp : Sp} {s₁ : Shared} {vs : List Value} {ns : List Int}
    (KX : K.In s₁.heap) (hns : s₁.heap.Ns mainGlobals mg) (hb : s₁.heap.Ns builtinsNs mb) (hbb : ∀ x : Str, x ≠ "__name__" → mb x = bootBuiltins x) (hlim : s₁.heap.NoLimit) (hg : s₁.gens = #[])
    (ha : s₁.heap.get? a = some { cls := .type "list", data := .seq vs.toArray }) (hi : IntsAre vs ns) (hl : ns.length ≤ sizeLine) (hr : Room k callerA)
    (F : ∀ base : Heap, K.In base → base.Ns mainGlobals mg → FnOk P w K mg base CX k fa fd [x] sp) (hbind : ∀ (s : Shared) (u : Value), BindsTo s fd ⟨[u], []⟩ [(x, u)])
    (hsp : ∀ H : Hp, Only H → SqL K H a (ns.map V.int) → sp [.ref a] H (fun v _ => v = .bl true) fun _ _ _ => False)
    (hCX : ∀ H e s', CX [] H s₁ (fun _ _ _ => False) e s' → False) :
    codeAny (model P w) callerA (.call (.ref fa) ⟨[.ref a], []⟩) (fun r s' => r = .ok (.ret (.bool true)) ∧ OldK s₁.heap s'.heap ∧ s'.os = s₁.os ∧ AllBare s'.gens) s₁ := by
  have rv := vals_ints hi
  have lenV := hi.length
  -- from an abstract heap in which nothing but the script may be tracked
  have core : ∀ H : Hp, Only H → SqL K H a (ns.map V.int) → HOk P w H s₁.heap → (∀ b, H b ≠ none → b = a) → (H a ≠ none → K.lookup a = none) →
      codeAny (model P w) callerA (.call (.ref fa) ⟨[.ref a], []⟩) (fun r s' => r = .ok (.ret (.bool true)) ∧ OldK s₁.heap s'.heap ∧ s'.os = s₁.os ∧ AllBare s'.gens) s₁ := by
    intro H hO hS hok hA hK
    have base_of : ∀ {b : Addr} {o : Obj}, s₁.heap.get? b = some o → H b = none → (hidT s₁.heap H).get? b = some o := fun e n => hidT_get e n
    have noA : ∀ {b : Addr} {o : Obj} {es : Array DictEntry} {ep : Nat}, s₁.heap.get? b = some o → o.data = .dict es ep → H b = none := fun {b o es ep} e d => by
      cases q : H b with
      | none => rfl
      | some u =>
        have e' : b = a := hA b (by rw [q]; simp)
        subst e'
        rw [ha] at e; cases e
        have d' : Data.seq vs.toArray _ = Data.dict es ep := d
        cases d'
    have nsK : ∀ {b : Addr} {m : Str → Option Value}, s₁.heap.Ns b m → (hidT s₁.heap H).Ns b m := fun {b m} ⟨o, es, ep, e, d, r⟩ => ⟨o, es, ep, base_of e (noA e d), d, r⟩
    have hKb : K.In (hidT s₁.heap H) := fun b o e => base_of (KX b o e) (by
      cases q : H b with
      | none => rfl
      | some u =>
        have e' : b = a := hA b (by rw [q]; simp)
        subst e'
        rw [hK (by rw [q]; simp)] at e; cases e)
    have hM : Mod K mg (hidT s₁.heap H) := ⟨hKb, nsK hns, ⟨mb, nsK hb, hbb⟩, let ⟨mc, h1, h2⟩ := hlim; ⟨mc, nsK h1, h2⟩⟩
    have e0 : Env0 P w K mg (hidT s₁.heap H) callerA [] s₁ H := ⟨rfl, hM, fun b o e => of_hidT e, Nat.le_of_eq (hidT_size _ _), trivial, fun b hb => absurd (show b ∈ ([] : List Addr) from hb) (by simp), hok, .of_eq hg⟩
    refine codeAny_mono ((F _ hKb (nsK hns)).run callerA [] s₁ H ⟨[.ref a], []⟩ [.ref a] [.ref a] _ _ hr e0 (hbind s₁ (.ref a)) (.cons rfl .nil) (hsp H hO hS)) fun r s' h => ?_
    cases r with
    | error e => exact (hCX H e s' h).elim
    | ok fl =>
      cases fl with
      | next => exact False.elim h
      | brk => exact False.elim h
      | cont => exact False.elim h
      | ret u =>
        obtain ⟨v, H', os, bare, un, hok', r', q⟩ := h
        have q' : v = .bl true := q
        subst q'
        obtain rfl : u = Value.bool true := r'
        refine ⟨rfl, OldK.of_keep fun b o e => ?_, os, bare⟩
        cases q : H b with
        | none => exact un.keep b o e q (by intro z; exact absurd (show b ∈ ([] : List Addr) from z) (by simp)) (by simp)
        | some u =>
          rcases hO b with z | ⟨ob, xs, z⟩
          · rw [q] at z; cases z
          · have z2 := un.frzs b ob _ z
            obtain ⟨e1, _⟩ := hok b _ z
            obtain ⟨e2, _⟩ := hok' b _ z2
            rw [e] at e1; cases e1
            exact e2
  cases hk : K.lookup a with
  | some o =>
    -- the script is one of the module's own objects
    have e := KX a o hk
    rw [ha] at e
    cases e
    refine core (fun _ => none) (fun _ => .inl rfl) (.inr ⟨_, vs.toArray, _, hk, rfl, rfl, rfl, by rw [List.size_toArray, lenV]; exact hl, by simpa using rv⟩) (fun b u z => by have z' : (none : Option HO) = some u := z; cases z') (fun b z => absurd rfl z) fun z => absurd rfl z
  | none =>
    refine core (fun b => if b = a then some (.frz { cls := .type "list", data := .seq vs.toArray } (.lst (ns.map V.int))) else none) (fun b => ?_) (.inl (.inr ⟨{ cls := .type "list", data := .seq vs.toArray }, if_pos rfl⟩)) (fun b u z => ?_) (fun b z => ?_) fun _ => hk
    · by_cases hb : b = a
      · exact .inr ⟨_, _, if_pos hb⟩
      · exact .inl (if_neg hb)
    · by_cases hb : b = a
      · have z' := (if_pos hb).symm.trans z
        cases z'
        subst hb
        exact ⟨ha, by rw [List.length_map]; exact hl, vs, _, rv, ha⟩
      · have z' := (if_neg hb).symm.trans z
        cases z'
    · by_cases hb : b = a
      · exact hb
      · exact absurd (if_neg hb) z
end L2

namespace L2
open PySem PySem.Spec PyProof.Rows

theorem walk_of {l : PySem.W.OpenLaw} {n k : Nat} {q : Program} {loose : List Str} {XP : (Str → Option Value) → Heap → Prop} {YP : World → Heap → Prop} {d : DefRec} {K : Params → PySem.W.Frag} {CX : World → CXT} {sp : World → Sp} {x : Str}
    (hn : l.most = some n) (hn2 : n ≤ sizeLine) (hdf : d.params.defaults = []) (hr : Room k callerA)
    (hY : ∀ (w : World) (h : Heap), YP w h → (K w.params).In h)
    (F : ∀ (w : World) (mg : Str → Option Value) (fa : Addr) (h : Heap), (K w.params).In h → h.Ns mainGlobals mg → mg d.name = some (.ref fa) →
      ∃ fd : FuncData, (∀ (s : Shared) (u : Value), BindsTo s fd ⟨[u], []⟩ [(x, u)]) ∧
        ∀ base : Heap, (K w.params).In base → base.Ns mainGlobals mg → FnOk l.prog w (K w.params) mg base (CX w) k fa fd [x] (sp w))
    (hsp : ∀ (w : World) (H : Hp) (a : Addr) (ns : List Int), ns.length ≤ n → Only H → SqL (K w.params) H a (ns.map V.int) → sp w [.ref a] H (fun v _ => v = .bl true) fun _ _ _ => False)
    (hCX : ∀ (w : World) (H : Hp) (s : Shared) (e : Value) (s' : Shared), CX w [] H s (fun _ _ _ => False) e s' → False) :
    PySem.W.WalkO q loose XP YP l.row.toRowW d [] (fun f vs => PySem.call f vs) := by
  refine Att.attach_call hn hdf fun w s₀ s₁ mg mb fa o pm cd doc a vs ns G Y ho hd hcd hmg hobj hints hlen hg => ?_
  have KX := hY w _ Y
  obtain ⟨fd, hb, hF⟩ := F w mg fa _ KX G.T.g hmg
  exact law_call KX G.T.g G.T.b G.T.builtins G.T.nolimit hg hobj hints (Nat.le_trans hlen hn2) hr hF hb (fun H hO hS => hsp w H a ns hlen hO hS) fun H e s' => hCX w H s₁ e s'

end L2




namespace L2
open PySem PySem.Spec PyProof.Rows



def inClass (s : Stmt) (j : Nat) : Stmt := match s with
  | .ClassDef _ _ _ body _ _ _ _ _ _ _ => body.getD j (.Pass ⟨0, 0, 0, 0⟩)
  | _ => .Pass ⟨0, 0, 0, 0⟩
def defArgs (s : Stmt) : Arguments := match s with
  | .FunctionDef _ a _ _ _ _ _ _ _ _ => a
  | _ => { posonlyargs := [], args := [], vararg := none, kwonlyargs := [], kw_defaults := [], kwarg := none, defaults := [] }
def defBody (s : Stmt) : List Stmt := match s with
  | .FunctionDef _ _ b _ _ _ _ _ _ _ => b
  | _ => []
def defScope (s : Stmt) : Scope := match s with
  | .FunctionDef _ _ _ _ _ _ sc _ _ _ => sc
  | _ => { kind := .function, names := [], isGenerator := false, isCoroutine := false }


abbrev CX0 : CXT := fun _ _ _ _ _ _ => False
abbrev E0 : XK := fun _ _ _ => False
theorem pass0 {X : Cx} : Passes CX0 X E0 := fun _ _ _ _ _ _ _ h => h.elim


structure Fun (K : PySem.W.Frag) (x qual : Str) (st : Stmt) (f : Addr) (fd : FuncData) : Prop where
  ex : ∃ (oc : Value) (od : Option Addr) (kV doc pm : Value) (an : Option Addr) (cdv ct : Value) (osl : Array (Option Value)),
    fd = PySem.W.fnOf x qual (defArgs st) (defBody st) (defScope st) .none kV doc pm an cdv ct ∧ K.lookup f = some ⟨oc, od, .func fd, osl⟩ ∧ PySem.W.codeIn K cdv qual = true
  kp : PySem.W.keepIn K (.ref f) = true
section
variable {P : Program} {w : World} {K : PySem.W.Frag} {mg : Str → Option Value} {base : Heap}

theorem Fun.ok {x qual : Str} {st : Stmt} {f : Addr} {fd : FuncData} {N ps : List Str} {k : Nat} {sp : Sp} (F : Fun K x qual st f fd) (S : FnScope N ps (defScope st)) (len : ∀ vs H Q E, sp vs H Q E → vs.length = ps.length)
    (hbody : ∀ (cdv : Value) (A : Around) (outer : List Env) (s : Shared) (H : Hp) (vs : List V) (Q : VK) (E : XK), Room k (A.deeper (envOfC qual (defScope st) s.heap.objs.size f cdv)) → sp vs H Q E →
      ∃ t, PSs (cxOf CX0 P w K mg base N qual (defScope st) f cdv A outer s H E).nox (defBody st) t ∧ t { nx := fun _ H' => Q .non H', rt := Q } (start N vs) H) : FnOk P w K mg base CX0 (k + 1) f fd ps sp := by
  obtain ⟨oc, od, kV, doc, pm, an, cdv, ct, osl, rfl, lk, hcd⟩ := F.ex
  refine fn_of lk hcd S len fun A outer s H vs Q E hr hsp => ?_
  obtain ⟨t, h, q⟩ := hbody cdv A outer s H vs Q E hr hsp
  exact ⟨t, h.nox, q⟩

theorem Fun.binds {x qual : Str} {st : Stmt} {f : Addr} {fd : FuncData} {ps : List Str} (F : Fun K x qual st f fd)
    (h : ∀ (kV doc pm : Value) (an : Option Addr) (cdv ct : Value) (us : List Value), us.length = ps.length → bindArgs (PySem.W.fnOf x qual (defArgs st) (defBody st) (defScope st) .none kV doc pm an cdv ct) ⟨us, []⟩ = pure (ps.zip us)) : Binds K fd ps [] := by
  obtain ⟨oc, od, kV, doc, pm, an, cdv, ct, osl, rfl, lk, hcd⟩ := F.ex
  exact .all (h kV doc pm an cdv ct)
theorem fun_mk {x qual : Str} {st : Stmt} {f : Addr} {oc : Value} {od an : Option Addr} {osl : Array (Option Value)} {kV doc pm cdv ct : Value} (l : K.lookup f = some ⟨oc, od, .func (PySem.W.fnOf x qual (defArgs st) (defBody st) (defScope st) .none kV doc pm an cdv ct), osl⟩)
    (c : PySem.W.codeIn K cdv qual = true) (k : PySem.W.keepIn K (.ref f) = true) : Fun K x qual st f (PySem.W.fnOf x qual (defArgs st) (defBody st) (defScope st) .none kV doc pm an cdv ct) := ⟨⟨oc, od, kV, doc, pm, an, cdv, ct, osl, rfl, l, c⟩, k⟩
end
theorem hu_of {A : Around} {k : Nat} (hr : Room k A) : A.units + 1 < cLine := Nat.lt_of_le_of_lt (Nat.add_le_add_left (by decide : 1 ≤ 64) _) hr.units
section
variable {X : Cx}
theorem pv (i : Nat) {x : Str} {pos : Pos} (hN : X.N[i]? = some x := by rfl) (hv : Vis X.env.scope x := by first | exact Or.inl rfl | exact Or.inr (Or.inl rfl) | exact Or.inr (Or.inr rfl)) (hd : (x == ("__debug__" : Str)) = false := by decide)
    (hcd : (x == ("__classdict__" : Str)) = false := by decide) : PE X (.Name x pos) (tVar i) := pe_var hN hv hd hcd
end


def Same (H H' : Hp) : Prop := ∀ b o, H b = some o → H' b = some o
theorem Same.refl (H : Hp) : Same H H := fun _ _ h => h
theorem Same.trans {H H1 H2 : Hp} (a : Same H H1) (b : Same H1 H2) : Same H H2 := fun c o h => b c o (a c o h)
theorem Same.free {H H' : Hp} (e : Same H H') {l : Addr} (h : H' l = Option.none) : H l = Option.none := by
  cases q : H l with
  | none => rfl
  | some o =>
    rw [e l o q] at h
    cases h
theorem Same.seq {K : PySem.W.Frag} {H H' : Hp} {a : Addr} {xs : List V} (e : Same H H') (h : SqL K H a xs) : SqL K H' a xs := by
  rcases h with (h | ⟨o, h⟩) | h
  · exact .inl (.inl (e _ _ h))
  · exact .inl (.inr ⟨o, e _ _ h⟩)
  · exact .inr h

end L2

set_option Elab.async false
set_option linter.all false
set_option maxRecDepth 100000
set_option maxHeartbeats 1000000
namespace L2
open PySem PySem.Spec PyProof.Rows


def Its (x : Str) : It := ⟨fun i _ => i < x.cps.size, fun i H v H' => H' = H ∧ ∃ c, x.cps[i]? = some c ∧ v = .str ⟨#[c]⟩, fun i _ => x.cps.size ≤ i⟩

section
variable {X : Cx} {tg : Expr}
theorem turn_of_str {P : Program} {w : World} {K : PySem.W.Frag} {tg : Expr} {x : Str} {t : Tok} {ty : String} {it : Addr}
    (hty : ["enumerate", "zip", "dict_itemiterator", "dict_reverseitemiterator", "odict_iterator", "itertools.zip_longest", "itertools.pairwise"].contains ty = false)
    (W : ∀ A' : Around, A'.handled = none → Walks P w A' it [it] [it] x.cps.size (SignAt x) (fun i h => h.IsStrIter it ty x t i))
    (hend : ∀ (A' : Around) (s : Shared) (i : Nat) (E : Value → Shared → Prop) (Q : Option Value → Shared → Prop), A'.handled = none → s.heap.IsStrIter it ty x t i → x.cps[i]? = none →
      (∀ h', (∀ b o, b ≠ it → s.heap.get? b = some o → h'.get? b = some o) → Q none { s with heap := h' }) → wpAny (model P w) A' (pyNext (.ref it)) Q E s)
    (hself : ∀ (A' : Around) (s : Shared) (i : Nat) (E : Value → Shared → Prop) (Q : Value → Shared → Prop), s.heap.IsStrIter it ty x t i → Q (.ref it) s → wpAny (model P w) A' (pyIter (.ref it)) Q E s) :
    Turn P w K tg (Its x) [it] it (fun i h => h.IsStrIter it ty x t i) where
  mem := by simp
  obj := fun i h st b hb => by
    have e : b = it := by simpa using hb
    subst e
    obtain ⟨o, e, c, d⟩ := st
    exact ⟨o, e, fun v z => by rw [d] at z; cases z⟩
  keep := fun i h h' st k => let ⟨o, ho, r⟩ := st; ⟨o, k it (by simp) o ho, r⟩
  item := by
    intro X hP hw hK hc i pins s σ H E I hf st hg
    subst hP hw hK
    obtain ⟨f0, f1, f2, f3, f4, f5⟩ := hf it (by simp)
    refine (W X.A (I.ok.hd hc)).item i s _ _ hg st fun v h' tk hv st' kk => ?_
    obtain ⟨c, u, hcu, rfl⟩ := hv
    have I1 : Inv X pins σ H { s with heap := h', toks := tk } := I.turned (fun b o hb e => kk b o (by simpa using hb) e) f0 f1 f3 f4 f5
    obtain ⟨o, e, hcl, d⟩ := id st'
    exact ⟨_, rfl, go_of (s := { s with heap := h', toks := tk }) e hcl d hty ⟨.str ⟨#[c]⟩, H, I1, ⟨u, rfl⟩, ⟨rfl, c, hcu, rfl⟩, st', fun b hb => (hf b hb).1⟩⟩
  done := by
    intro X hP hw hK hc i pins s σ H E I hf st hg
    subst hP hw hK
    obtain ⟨f0, f1, f2, f3, f4, f5⟩ := hf it (by simp)
    have hg' : x.cps.size ≤ i := hg
    exact hend X.A s i E _ (I.ok.hd hc) st (by simp [hg']) fun h' eb => ⟨rfl, I.turned (t' := s.toks) (fun b o hb e => eb b o hb e) f0 f1 f3 f4 f5⟩
  self := fun A i s Q E st h => hself A s i E Q st h

def iStr (tl : TE) : TI := fun σ H R => tl σ H fun x H1 => ∃ z, x = .str z ∧ R (Its z) H1
theorem pi_str {l : Expr} {tl : TE} (hl : PE X l tl) : PI X tg l (iStr tl) := by
  intro pins s σ H R I h
  refine thn (hl pins s σ H _ I h) fun v s1 ⟨x, H1, I1, r1, q1⟩ => ?_
  obtain ⟨z, rfl, q⟩ := q1
  obtain ⟨t, rfl⟩ := r1
  have fin : ∀ (ty : String) (o : Obj), Turn X.prog X.w X.K tg (Its z) [s1.heap.objs.size] s1.heap.objs.size (fun i h => h.IsStrIter s1.heap.objs.size ty z t i) → (s1.heap.push o).IsStrIter s1.heap.objs.size ty z t 0 →
      PIE X pins σ tg R (.ref s1.heap.objs.size) { s1 with heap := s1.heap.push o } := fun ty o T st => by
    refine ⟨s1.heap.objs.size, [s1.heap.objs.size], _, _, H1, rfl, I1.kept (t' := s1.toks) fun b o e => Heap.get?_push_of_some _ e, T, st, fun b hb => ?_, q⟩
    have e : b = s1.heap.objs.size := by simpa using hb
    subst e
    exact I1.fpOk (Nat.le_refl _) (I1.hok.fresh (Nat.le_refl _))
  cases ha : z.cps.all (· < 128)
  · refine wpAny_pyIter_wide ha (fin "str_iterator" _ (turn_of_str (by decide) (fun A' hA => Walks.strWide hA _ z t) ?_ ?_) ⟨_, Heap.get?_push_size _ rfl, rfl, rfl⟩)
    · intro A' s i E Q hA st hx hq
      exact wpAny_pyNext_wide_end hA st hx hq
    · intro A' s i E Q st h
      exact wpAny_pyIter_striter_wide st h
  · refine wpAny_pyIter_ascii ha (fin "str_ascii_iterator" _ (turn_of_str (by decide) (fun A' hA => Walks.strAscii hA _ z t) ?_ ?_) ⟨_, Heap.get?_push_size _ rfl, rfl, rfl⟩)
    · intro A' s i E Q hA st hx hq
      exact wpAny_pyNext_ascii_end hA st hx hq
    · intro A' s i E Q st h
      exact wpAny_pyIter_striter_ascii st h


end
end L2

set_option Elab.async false
set_option linter.all false
set_option maxRecDepth 100000
set_option maxHeartbeats 1000000
namespace L2
open PySem PySem.Spec PyProof.Rows


theorem relabel_lookup {env : Env} (y : Str) : ∀ (names : List (Str × NameKind)),
    (names.map fun (n, k) => if (k == NameKind.free && env.scope.kind == .function && env.kindOf n == some .cell) then (n, NameKind.cell) else (n, k)).lookup y =
      (names.lookup y).map fun k => if (k == NameKind.free && env.scope.kind == .function && env.kindOf y == some .cell) then NameKind.cell else k
  | [] => rfl
  | (n, k) :: r => by
    have ih := relabel_lookup y r (env := env)
    rw [List.map_cons]
    by_cases hy : y = n
    · subst hy
      show List.lookup y ((if (k == NameKind.free && env.scope.kind == .function && env.kindOf y == some .cell) = true then (y, NameKind.cell) else (y, k)) :: _) = _
      by_cases hc : (k == NameKind.free && env.scope.kind == .function && env.kindOf y == some .cell) = true
      · rw [if_pos hc]
        simp only [List.lookup_cons, beq_self_eq_true, Option.map_some, hc, if_true]
      · rw [if_neg hc]
        simp only [List.lookup_cons, beq_self_eq_true, Option.map_some, hc, if_false]
        rfl
    · have hb : (y == n) = false := by simpa using hy
      show List.lookup y ((if (k == NameKind.free && env.scope.kind == .function && env.kindOf n == some .cell) = true then (n, NameKind.cell) else (n, k)) :: _) = _
      by_cases hc : (k == NameKind.free && env.scope.kind == .function && env.kindOf n == some .cell) = true
      · rw [if_pos hc]
        simp only [List.lookup_cons, hb]
        exact ih
      · rw [if_neg hc]
        simp only [List.lookup_cons, hb]
        exact ih

theorem closure_go {env : Env} : ∀ (names : List (Str × NameKind)) (cs : List (Str × Addr)), (∀ y ∈ names, y.2 = .free → ∃ c, env.cells.lookup y.1 = some c) → (∀ y c, cs.lookup y = some c → env.cells.lookup y = some c) →
    ∃ cl, (forIn (m := Sem) names cs fun (x : Str × NameKind) (r : List (Str × Addr)) => (if (x.2 == .free) = true then (do let c ← cellOf env x.1; pure (ForInStep.yield ((x.1, c) :: r))) else pure (ForInStep.yield r))) = pure cl ∧
      (∀ y c, cl.lookup y = some c → env.cells.lookup y = some c) ∧ (∀ y ∈ names, y.2 = .free → ∃ c, cl.lookup y.1 = some c) ∧ ∀ y, (∃ c, cs.lookup y = some c) → ∃ c, cl.lookup y = some c
  | [], cs, _, hcs => ⟨cs, rfl, hcs, (fun _ h => nomatch h), (fun _ h => h)⟩
  | (n, k) :: r, cs, h, hcs => by
    by_cases hk : k = .free
    · subst hk
      obtain ⟨c, hc⟩ := h (n, .free) List.mem_cons_self rfl
      have hc : env.cells.lookup n = some c := hc
      have hcs' : ∀ y c', ((n, c) :: cs).lookup y = some c' → env.cells.lookup y = some c' := fun y c' e => by
        by_cases hy : y = n
        · subst hy
          simp only [List.lookup_cons, beq_self_eq_true] at e
          cases e
          exact hc
        · have hb : (y == n) = false := by simpa using hy
          simp only [List.lookup_cons, hb] at e
          exact hcs y c' e
      obtain ⟨cl, e1, e2, e3, e4⟩ := closure_go r ((n, c) :: cs) (fun y hy => h y (List.mem_cons_of_mem _ hy)) hcs'
      refine ⟨cl, ?_, e2, fun y hy hf => ?_, fun y hy => e4 y ?_⟩
      · rw [List.forIn_cons]
        simp only [beq_self_eq_true, if_true, cellOf, hc]
        exact e1
      · rcases List.mem_cons.mp hy with rfl | hy
        · exact e4 n ⟨c, by simp only [List.lookup_cons, beq_self_eq_true]⟩
        · exact e3 y hy hf
      · obtain ⟨c', hc'⟩ := hy
        by_cases hy : y = n
        · subst hy
          exact ⟨c, by simp only [List.lookup_cons, beq_self_eq_true]⟩
        · have hb : (y == n) = false := by simpa using hy
          exact ⟨c', by simp only [List.lookup_cons, hb]; exact hc'⟩
    · obtain ⟨cl, e1, e2, e3, e4⟩ := closure_go r cs (fun y hy => h y (List.mem_cons_of_mem _ hy)) hcs
      refine ⟨cl, ?_, e2, fun y hy hf => ?_, e4⟩
      · have hb : (k == NameKind.free) = false := by simpa using hk
        rw [List.forIn_cons]
        simp only [hb, Bool.false_eq_true, if_false]
        exact e1
      · rcases List.mem_cons.mp hy with rfl | hy
        · exact absurd hf hk
        · exact e3 y hy hf
theorem closure_of {env : Env} {scope : Scope} (h : ∀ y ∈ scope.names, y.2 = .free → ∃ c, env.cells.lookup y.1 = some c) :
    ∃ cl, closureFor scope env = pure cl ∧ (∀ y c, cl.lookup y = some c → env.cells.lookup y = some c) ∧ (∀ y ∈ scope.names, y.2 = .free → ∃ c, cl.lookup y.1 = some c) := by
  obtain ⟨cl, e1, e2, e3, _⟩ := closure_go scope.names [] h (fun y c e => by simp at e)
  refine ⟨cl, ?_, e2, e3⟩
  have e : closureFor scope env = (forIn (m := Sem) scope.names [] fun (x : Str × NameKind) (r : List (Str × Addr)) => (if (x.2 == .free) = true then (do let c ← cellOf env x.1; pure (ForInStep.yield ((x.1, c) :: r))) else pure (ForInStep.yield r))) >>= fun cs => pure cs := rfl
  rw [e, e1]
  rfl

theorem compLoop_go {prog : Program} {w : World} {A : Around} {R : Result → Shared → Prop} {s : Shared} {elt target iter : Expr} {ifs : List Expr} {scope : Scope} {pos : Pos} {it acc : Value} {env : Env} (I : Nat → Shared → Prop)
    (turn : ∀ n s, I n s → wpAny (model prog w) A (pyNext it) (fun r s₁ => match r with
      | none => R (.ok .next) s₁
      | some v => wpAny (model prog w) A (letOwnedTupleGo target it v) (fun _ s₁ => wpAny (model prog w) A (assign target env v) (fun _ s₂ =>
          wpAny (model prog w) A (forIn ifs true fun c r => if r = true then do let ok ← isTrue c env (eval c env); pure (ForInStep.yield ok) else pure (ForInStep.yield r)) (fun ok s₃ =>
            if ok = true then wpAny (model prog w) A (eval elt env) (fun x s₄ =>
              wpAny (model prog w) A (call (.builtin "list.append") [acc, x]) (fun _ s₅ => ∃ m, m < n ∧ I m s₅) (fun _ _ => False) s₄) (fun _ _ => False) s₃
            else ∃ m, m < n ∧ I m s₃) (fun _ _ => False) s₂) (fun _ _ => False) s₁) (fun _ _ => False) s₁) (fun _ _ => False) s)
    (n : Nat) (h : I n s) :
    codeAny (model prog w) A (.compLoop (.ListComp elt [⟨target, iter, ifs, 0⟩] scope pos) 0 it acc env) R s := by
  refine codeAny_loop rfl I (fun n s hI => ?_) n h
  show wpAny _ A ((compTurn (.ListComp elt [⟨target, iter, ifs, 0⟩] scope pos) 0 it acc env).onRaise (fun x => do noteFrame x env; theTreesLotGoes x)) _ _ s
  refine wpAny_noted ?_
  rw [compTurn_list]
  refine wpAny_bind (wpAny_standAt (wpAny_bind (wpAny_mono (turn n s hI) (fun r s₁ h₁ => ?_) fun _ _ h' => h'.elim)))
  cases r with
  | none => exact wpAny_pure h₁
  | some v =>
    refine wpAny_bind (wpAny_mono h₁ (fun _ s₁ h₁ => ?_) fun _ _ h' => h'.elim)
    refine wpAny_bind (wpAny_mono h₁ (fun _ s₂ h₂ => wpAny_bind (wpAny_mono h₂ (fun ok s₃ h₃ => ?_) fun _ _ h' => h'.elim)) fun _ _ h' => h'.elim)
    cases ok with
    | false => exact wpAny_pure ⟨rfl, h₃⟩
    | true =>
      exact wpAny_bind (wpAny_bind (wpAny_mono h₃ (fun x s₄ h₄ => wpAny_bind (wpAny_mono h₄ (fun _ s₅ h₅ => wpAny_pure (wpAny_pure ⟨rfl, h₅⟩)) fun _ _ h' => h'.elim)) fun _ _ h' => h'.elim))


def blk (X : Cx) (x : Str) (scope : Scope) (cl : List (Str × Addr)) (C : Addr) (s3 : Shared) (H3 : Hp) (fp : List Addr) : Cx :=
  { X with N := x :: X.N, s₀ := s3, H₀ := H3, env := compEnvC scope cl C X.env, outer := X.stack, ex := fp, fn := fun _ => false, pn := [], xe := fun _ _ => False }

def PTs (X : Cx) (ifs : List Expr) (t : TT) : Prop :=
  ∀ (pins : List (Addr × Obj)) (s : Shared) (σ : St) (H : Hp) (Q : Bool → Hp → Prop), Inv X pins σ H s → t σ H Q →
    wpAny (model X.prog X.w) X.A (forIn ifs true fun c r => if r = true then do let ok ← isTrue c X.env (eval c X.env); pure (ForInStep.yield ok) else pure (ForInStep.yield r)) (TP X pins σ Q) X.xe s
def tTrue : TT := fun _ H Q => Q true H
theorem pts_nil {X : Cx} : PTs X [] tTrue := fun _ _ _ H _ I h => wpAny_tests_nil ⟨H, I, h⟩
theorem pts_one {X : Cx} {c : Expr} {t : TT} (h : PT X c t) : PTs X [c] t := fun pins s σ H Q I hw => wpAny_tests_one (h pins s σ H Q I hw)

def lcBody (J : It) (tt : TT) (te : TE) (σ : St) (H1 : Hp) (Q : VK) : Prop := ∀ D, H1 D = none → ∃ W : Nat → Nat → List V → Hp → Prop, (∃ m, W 0 m [] (upd H1 D (.lst []))) ∧ ∀ i m ys H', W i m ys H' → H' D = some (.lst ys) ∧
  ((J.stop i H' ∧ Q (.ref D) H') ∨ (J.go i H' ∧ ∀ v H2, J.yld i H' v H2 → tt (some v :: σ) H2 fun b H3 =>
    if b = true then te (some v :: σ) H3 fun y H4 => H4 D = some (.lst ys) ∧ ys.length < sizeLine ∧ ∃ m', m' < m ∧ W (i + 1) m' (ys ++ [y]) (upd H4 D (.lst (ys ++ [y]))) else ∃ m', m' < m ∧ W (i + 1) m' ys H3))
def tLC (wi : TI) (tt : TT) (te : TE) : TE := fun σ H Q => wi σ H fun J H1 => lcBody J tt te σ H1 Q


structure LcScope (X : Cx) (x : Str) (scope : Scope) : Prop where
  xN : x ∉ X.N
  nd : X.N.Nodup
  kind : scope.kind = .function
  cell : ∀ y ∈ scope.names, y.2 ≠ .cell
  names : ∀ y ∈ scope.names, y.2 = .local → scope.names.lookup y.1 = some .local
  var : scope.names.lookup x = some .local
  free : ∀ y ∈ scope.names, y.2 = .free → X.env.kindOf y.1 = some .cell
  out : ∀ y ∈ X.N, scope.names.lookup y ≠ some .local
  calm : X.calm = true

section
variable {X : Cx} {elt iter : Expr} {x : Str} {px pos : Pos} {ifs : List Expr} {scope : Scope} {wi : TI} {tt : TT} {te : TE}

theorem lc_core {pins : List (Addr × Obj)} {σ : St} {H : Hp} {s : Shared} {E : Value → Shared → Prop} {Q : Value → Shared → Prop} {use : Option (Value → Sem Unit)} {QV : VK} (L : LcScope X x scope) (I : Inv X pins σ H s)
    (hi : wpAny (model X.prog X.w) X.A (eval iter X.env) (fun v s1 => wpAny (model X.prog X.w) X.A (pyIter v) (PIE X pins σ (.Name x px) (fun J H1 => ∀ D, H1 D = none → ∃ W : Nat → Nat → List V → Hp → Prop, (∃ m, W 0 m [] (upd H1 D (.lst []))) ∧ ∀ i m ys H', W i m ys H' → H' D = some (.lst ys) ∧
  ((J.stop i H' ∧ QV (.ref D) H') ∨ (J.go i H' ∧ ∀ v H2, J.yld i H' v H2 → tt (some v :: σ) H2 fun b H3 =>
    if b = true then te (some v :: σ) H3 fun y H4 => H4 D = some (.lst ys) ∧ ys.length < sizeLine ∧ ∃ m', m' < m ∧ W (i + 1) m' (ys ++ [y]) (upd H4 D (.lst (ys ++ [y]))) else ∃ m', m' < m ∧ W (i + 1) m' ys H3)))) E s1) E s)
    (ht : ∀ cl C s3 H3 fp, PTs (blk X x scope cl C s3 H3 fp) ifs tt) (he : ∀ cl C s3 H3 fp, PE (blk X x scope cl C s3 H3 fp) elt te)
    (hs : ∀ x, foldedSetIterable iter X.env x = pure x)
    (fin : ∀ (D C : Addr) (H' : Hp) (s' : Shared) (m : Str → Option Value), Inv X pins σ H' s' → FpOk X pins H' C → s'.heap.Ns C m → QV (.ref D) H' → compPost (model X.prog X.w) X.A E use Q (.ref D) C (.ok .next) s') :
    wpAny (model X.prog X.w) X.A (comprehension (.ListComp elt [⟨.Name x px, iter, ifs, 0⟩] scope pos) scope X.env (firstIterPos [⟨.Name x px, iter, ifs, 0⟩] pos) (newList []) false (eval iter X.env) use) Q E s := by
  obtain ⟨cl, hcl, cl1, cl2⟩ := closure_of (env := X.env) (scope := scope) (fun y hy hf => I.ok.has y.1 (.inl (L.free y hy hf)))
  refine wpAny_comprehension_free (use := use) rfl hs hcl L.kind L.names (wpAny_mono hi (fun xv s₁ h₁ => wpAny_mono h₁ (fun it s2 h₂ => ?_) fun _ _ e => e) fun _ _ e => e)
  obtain ⟨it, fp, tn, J, H2, rfl, I2, T, st2, f2, hW⟩ := h₂
  have fr2 : H2 s2.heap.objs.size = none := I2.hok.fresh (Nat.le_refl _)
  obtain ⟨W, ⟨m0, w0⟩, turn⟩ := hW _ fr2
  refine wpAny_newObj_type ?_
  have I3 : Inv X pins σ (upd H2 s2.heap.objs.size (.lst [])) { s2 with heap := s2.heap.push { cls := .type "list", dict := none, data := .seq ([] : List Value).toArray } } :=
    I2.laid (t' := s2.toks) (o := .lst []) (fun b ob q => Heap.get?_push_of_some _ q) (Nat.le_refl _) ⟨Nat.zero_le _, [], 0, .nil, Heap.get?_push_size _ rfl⟩
  generalize hD : s2.heap.objs.size = D at I3 turn w0 fr2 ⊢
  generalize hH3 : upd H2 D (.lst []) = H3 at I3 w0
  generalize hs3 : ({ s2 with heap := s2.heap.push { cls := .type "list", dict := none, data := .seq ([] : List Value).toArray } } : Shared) = s3 at I3 ⊢
  have k23 : ∀ b o, s2.heap.get? b = some o → s3.heap.get? b = some o := fun b o e => by rw [← hs3]; exact Heap.get?_push_of_some _ e
  have os3 : s3.os = s2.os := by rw [← hs3]
  have fpD : ∀ b ∈ fp, b ≠ D := fun b hb z => by
    obtain ⟨o, e, _⟩ := T.obj _ _ st2 b hb
    exact absurd (Heap.lt_size e) (by rw [z, ← hD]; exact Nat.lt_irrefl _)
  have f3 : ∀ b ∈ fp, FpOk X pins H3 b := fun b hb => ⟨by rw [← hH3, upd_ne (fpD b hb)]; exact (f2 b hb).1, (f2 b hb).2⟩
  have st3 : tn 0 s3.heap := T.keep _ _ _ st2 fun b hb o e => k23 b o e
  refine wpAny_newFunctionEnv L.cell (fun y hy => by simp at hy) (fun h₁ hns₁ hsb₁ => ?_) L.kind
  generalize hC : s3.heap.objs.size = C at hns₁ hsb₁ ⊢
  have k34 : ∀ b o, s3.heap.get? b = some o → h₁.get? b = some o := fun b o e => hsb₁.extBut b o (by rintro rfl; exact absurd (Heap.lt_size e) (by rw [hC]; exact Nat.lt_irrefl _)) (Heap.get?_push_of_some _ e)
  -- the block's context
  let X' : Cx := blk X x scope cl C s3 H3 fp
  have relab : ∀ y, X'.env.scope.names.lookup y = (scope.names.lookup y).map fun k => if (k == NameKind.free && X.env.scope.kind == .function && X.env.kindOf y == some .cell) then NameKind.cell else k := fun y => relabel_lookup y scope.names
  have visC : ∀ y, (X'.env.kindOf y = some .cell ∨ X'.env.kindOf y = some .free) → scope.names.lookup y = some .free := fun y hy => by
    have e := relab y
    have hy : X'.env.scope.names.lookup y = some .cell ∨ X'.env.scope.names.lookup y = some .free := hy
    rw [e] at hy
    cases q : scope.names.lookup y with
    | none => rw [q] at hy; simp at hy
    | some k =>
      rw [q] at hy
      simp only [Option.map_some, Option.some.injEq] at hy
      by_cases hf : k = .free
      · rw [hf]
      · have hb : (k == NameKind.free) = false := by simpa using hf
        simp only [hb, Bool.false_and, Bool.false_eq_true, if_false] at hy
        rcases hy with rfl | rfl
        · exact absurd rfl (L.cell _ (PySem.mem_of_lookup q))
        · exact absurd rfl hf
  have okX' : X'.Ok := by
    refine ⟨I3.ok.mod, ?_, I3.ok.glob, I3.ok.blt, ?_, ?_, ?_, ?_, I3.ok.hd, I3.ok.frames, .inl rfl, ?_, ?_, ?_, ?_, ?_, ?_, ?_⟩
    · show (relabel scope X.env).kind = .function
      exact L.kind
    · show s3.heap.objs.size ≤ C
      exact Nat.le_of_eq hC
    · exact fun a b c h1 h2 => I3.ok.inj a b c (cl1 a c h1) (cl1 b c h2)
    · exact fun y hy => cl2 (y, .free) (PySem.mem_of_lookup (visC y hy)) rfl
    · exact fun y c hf => by cases hf
    · refine fun b hb => ⟨?_, fun y c e z => (f3 b hb).2.2.2.2.1 y c (cl1 y c e) z⟩
      show b ≠ C
      intro z
      obtain ⟨o, e, _⟩ := T.obj _ _ st3 b hb
      exact absurd (Heap.lt_size e) (by rw [z, ← hC]; exact Nat.lt_irrefl _)
    · exact fun b o e => I3.bs b o e
    · exact Nat.le_trans I3.ok.bsz I3.sz
    · intro b o e hb
      rcases (f3 b hb).2.2.2.1 with z | z
      · exact I3.ok.noex b o e z
      · exact absurd (Nat.lt_of_lt_of_le (Heap.lt_size e) (Nat.le_trans I3.ok.bsz z)) (Nat.lt_irrefl _)
    · intro b hb z
      rcases List.mem_cons.mp (I3.stkSub b z) with e | e
      · exact (f3 b hb).2.1 e
      · exact (f3 b hb).2.2.1 e
    · exact I3.stack
    · exact I3.stkFree
  have hfreeC : H3 C = none := I3.hok.fresh (Nat.le_of_eq hC)
  have I4 : Inv X' [] (none :: σ) H3 { s3 with heap := h₁, toks := s3.toks + ([] : List (Str × Value)).length } := by
    refine ⟨okX', rfl, I3.bare, Un.kept k34, ⟨_, hns₁, ?_⟩, ?_, hfreeC, ?_, fun p hp => absurd (show p ∈ ([] : List (Addr × Obj)) from hp) (by simp), I3.hok.kept k34, ?_⟩
    · intro i y v e1 e2 e3
      cases i with
      | zero => simp at e2
      | succ j =>
        have e1 : X.N[j]? = some y := by simpa using (show (x :: X.N)[j + 1]? = some y from e1)
        have e2 : σ[j]? = some (some v) := by simpa using e2
        have hyN : y ∈ X.N := List.mem_of_getElem? e1
        have hfr : scope.names.lookup y = some .free := by
          rcases e3 with e3 | e3 | e3
          · rw [relab y] at e3
            cases q : scope.names.lookup y with
            | none => rw [q] at e3; simp at e3
            | some k =>
              rw [q] at e3
              simp only [Option.map_some, Option.some.injEq] at e3
              by_cases hf : k = .free
              · rw [hf]
              · have hb : (k == NameKind.free) = false := by simpa using hf
                simp only [hb, Bool.false_and, Bool.false_eq_true, if_false] at e3
                exact absurd (by rw [q, e3]) (L.out y hyN)
          · exact visC y (.inl e3)
          · exact visC y (.inr e3)
        have hkc := L.free (y, .free) (PySem.mem_of_lookup hfr) rfl
        have hkc : X.env.kindOf y = some .cell := hkc
        obtain ⟨mX, _, hlX⟩ := I3.loc
        obtain ⟨u, r, l⟩ := hlX j y v e1 e2 (.inr (.inl hkc))
        refine ⟨u, r, ?_⟩
        rcases l with ⟨l, _⟩ | ⟨_, c, hc, hcell⟩
        · rw [hkc] at l; cases l
        · obtain ⟨c', hc'⟩ := cl2 (y, .free) (PySem.mem_of_lookup hfr) rfl
          have hc' : cl.lookup y = some c' := hc'
          have := cl1 y c' hc'
          rw [hc] at this
          cases this
          refine .inr ⟨?_, c, hc', ?_⟩
          · rcases e3 with e3 | e3 | e3
            · rw [relab y, hfr] at e3
              simp only [Option.map_some, Option.some.injEq] at e3
              split at e3 <;> cases e3
            · exact .inl e3
            · exact .inr e3
          · obtain ⟨o, ho, hd⟩ := hcell
            exact ⟨o, k34 _ _ ho, hd⟩
    · intro y c e
      obtain ⟨v, o, ho, hd⟩ := I3.cell y c (cl1 y c e)
      exact ⟨v, o, k34 _ _ ho, hd⟩
    · exact fun y c e => I3.freeC y c (cl1 y c e)
    · show (none :: σ).length = (x :: X.N).length
      rw [List.length_cons, List.length_cons, I3.len]
  have st4 : tn 0 h₁ := T.keep _ _ _ st3 fun b hb o e => k34 b o e
  have stat : ∀ {H' : Hp}, (∀ b ∈ fp, H' b = none) → ∀ b ∈ fp, FpOk X' [] H' b := fun hn b hb => by
    refine ⟨hn b hb, (okX'.exf b hb).1, okX'.exfs b hb, .inl hb, (okX'.exf b hb).2, fun p hp => absurd (show p ∈ ([] : List (Addr × Obj)) from hp) (by simp)⟩
  have hNd : X'.N.Nodup := List.nodup_cons.mpr ⟨L.xN, L.nd⟩
  have hvar : X'.env.scope.names.lookup x = some .local := by
    rw [relab x, L.var]
    rfl
  have loop : ∀ s4 : Shared, s4 = { s3 with heap := h₁, toks := s3.toks + ([] : List (Str × Value)).length } →
      codeAny (model X.prog X.w) X.A (.compLoop (.ListComp elt [⟨.Name x px, iter, ifs, 0⟩] scope pos) 0 (.ref it) (.ref D) X'.env) (compPost (model X.prog X.w) X.A E use Q (.ref D) C) s4 := by
    rintro s4 rfl
    refine compLoop_go (fun n s' => ∃ i ys o H', Inv X' [] (o :: σ) H' s' ∧ tn i s'.heap ∧ (∀ b ∈ fp, H' b = none) ∧ W i n ys H') ?_ m0 ⟨0, [], none, H3, I4, st4, fun b hb => (f3 b hb).1, w0⟩
    rintro n s5 ⟨i, ys, o, H5, I5, st5, fr5, w5⟩
    obtain ⟨hD5, turn5⟩ := turn i n ys H5 w5
    rcases turn5 with ⟨stop, qn⟩ | ⟨go, step⟩
    · refine wpAny_mono (T.done X' rfl rfl rfl L.calm i [] s5 (o :: σ) H5 (fun _ _ => False) I5 (stat fr5) st5 stop) (fun r s6 h6 => ?_) fun _ _ z => z
      obtain ⟨rfl, I6⟩ := h6
      have un6 : Un (frs X.stack) fp H3 H5 s3.heap s6.heap := I6.base
      have IX : Inv X pins σ H5 s6 := I3.call' I6.os un6 I6.hok I6.bare fun b hb => ⟨(f3 b hb).2.2.2.1, (f3 b hb).2.1, (f3 b hb).2.2.2.2.1, (f3 b hb).2.2.2.2.2⟩
      obtain ⟨mC, hnC, _⟩ := I6.loc
      exact fin D C H5 s6 mC IX (I3.fpOk (H' := H5) (Nat.le_of_eq hC) I6.free) hnC qn
    · refine wpAny_mono (T.item X' rfl rfl rfl L.calm i [] s5 (o :: σ) H5 (fun _ _ => False) I5 (stat fr5) st5 go) (fun r s6 h6 => ?_) fun _ _ z => z.elim
      obtain ⟨u, rfl, h6⟩ := h6
      refine wpAny_mono h6 (fun _ s6 h6 => ?_) fun _ _ z => z
      obtain ⟨v, H6, I6, r6, y6, st6, fr6⟩ := h6
      have I6' := I6.pinned (stat fr6) (T.obj _ _ st6)
      have hv6 := step v H6 y6
      show wpAny (model X'.prog X'.w) X'.A (assign (.Name x px) X'.env u) _ _ s6
      refine wpAny_mono (Q := fun _ s7 => Inv X' ([] ++ pinsAt fp s6.heap) (some v :: σ) H6 s7) (E := fun _ _ => False) (wpAny_assign_Name (store_ok I6' hNd (i := 0) rfl (.inl hvar) r6 (fun s7 I7 => (show Inv X' ([] ++ pinsAt fp s6.heap) (some v :: σ) H6 s7 from I7)) (.inr hvar))) (fun _ s7 I7 => ?_) fun _ _ z => z.elim
      refine wpAny_mono ((ht cl C s3 H3 fp) _ s7 _ H6 _ I7 hv6) (fun b s8 h8 => ?_) fun _ _ z => z.elim
      obtain ⟨H8, I8, q8⟩ := h8
      have done : ∀ {ys' : List V} {H9 : Hp} {s9 : Shared} {n' : Nat}, Inv X' ([] ++ pinsAt fp s6.heap) (some v :: σ) H9 s9 → W (i + 1) n' ys' H9 → ∃ i ys o H', Inv X' [] (o :: σ) H' s9 ∧ tn i s9.heap ∧ (∀ b ∈ fp, H' b = none) ∧ W i n' ys H' := fun {ys' H9 s9 n'} I9 w9 => by
        refine ⟨i + 1, ys', some v, H9, I9.unpinned, T.keep _ _ _ st6 fun b hb o e => (I9.pin (b, o) (List.mem_append_right _ (List.mem_append_right _ (mem_pinsAt hb e)))).1, fun b hb => ?_, w9⟩
        obtain ⟨o, e, d⟩ := T.obj _ _ st6 b hb
        exact (I9.pin (b, o) (List.mem_append_right _ (List.mem_append_right _ (mem_pinsAt hb e)))).2.1
      cases b with
      | false =>
        have q8 : ∃ m', m' < n ∧ W (i + 1) m' ys H8 := q8
        obtain ⟨m', hm, w8⟩ := q8
        exact ⟨m', hm, done I8 w8⟩
      | true =>
        have q8 : te (some v :: σ) H8 _ := q8
        refine wpAny_mono ((he cl C s3 H3 fp) _ s8 _ H8 _ I8 q8) (fun yv s9 h9 => ?_) fun _ _ z => z.elim
        obtain ⟨y, H9, I9, r9, hD9, hz9, m', hm, w9⟩ := h9
        refine wpAny_mono (mt_append (X := X') _ s9 _ H9 (.ref D) [y] (.ref D) [yv] (fun v' H' => v' = .non ∧ H' = upd H9 D (.lst (ys ++ [y]))) I9 rfl (.cons r9 .nil) ⟨D, ys, y, rfl, rfl, hD9, hz9, rfl, rfl⟩) (fun _ s10 h10 => ?_) fun _ _ z => z.elim
        obtain ⟨_, H10, I10, _, _, rfl⟩ := h10
        exact ⟨m', hm, done I10 w9⟩
  exact codeAny_compStart_list (loop _ rfl) (T.self _ 0 _ _ _ st4 (loop _ rfl))


theorem ps_setLC {i : Nat} {z : Str} {pz spos : Pos} (hN : X.N.Nodup) (hi' : X.N[i]? = some z) (hz : Loc X.env.scope z) (L : LcScope X x scope) (hi : PI X (.Name x px) iter wi) (ht : ∀ cl C s3 H3 fp, PTs (blk X x scope cl C s3 H3 fp) ifs tt) (he : ∀ cl C s3 H3 fp, PE (blk X x scope cl C s3 H3 fp) elt te)
    (hs : ∀ x, foldedSetIterable iter X.env x = pure x := by intro _; rfl) (hsw : swapsWith (.ListComp elt [⟨.Name x px, iter, ifs, 0⟩] scope pos) (some (.Name z pz)) spos.line X.env = pure true := by rfl)
    (hf : X.fn z = true ∨ X.env.scope.names.lookup z = some .local := by first | exact .inl rfl | exact .inr rfl | assumption) : PS X (.Assign [.Name z pz] (.ListComp elt [⟨.Name x px, iter, ifs, 0⟩] scope pos) spos) (tAsg (tLC wi tt te) (gName i)) := by
  intro pins s σ H D I h
  rw [exec_Assign_Name_used _ _ _ _ hsw]
  refine wpAny_bind (wpAny_standAt (wpAny_bind ?_))
  show wpAny _ X.A (do let _ ← comprehension (.ListComp elt [⟨.Name x px, iter, ifs, 0⟩] scope pos) scope X.env _ (newList []) false (eval iter X.env) (some (assign (.Name z pz) X.env))) _ _ s
  refine wpAny_bind (wpAny_mono (lc_core (use := some (assign (.Name z pz) X.env)) (Q := fun _ s' => SP X pins D .next s') (QV := fun v H' => D.nx (σ.set i (some v)) H') L I (hi pins s σ H _ I h) ht he hs fun D' C H' s' m IX fC hn q => ?_) (fun _ s' hq => wpAny_pure (wpAny_pure hq)) fun _ _ e => e)
  show wpAny _ X.A (assign (.Name z pz) X.env (.ref D')) _ _ s'
  refine wpAny_assign_Name (store_ok2 IX hN hi' hz (show RelV (.ref D') (.ref D') from rfl) (fun s2 I2 hch => ?_) hf)
  obtain ⟨a, sb, ha⟩ := hch
  have hCa : C ≠ a := by
    rcases ha with e | e
    · rw [e]; exact fC.2.1
    · intro z'; exact fC.2.2.2.2.1 _ _ e z'.symm
  refine ⟨m, hn.sameBut sb hCa, fun h' hs' => ?_⟩
  exact ⟨_, H', I2.turned (t' := s2.toks) (fun b o hb e => hs'.extBut b o hb e) fC.1 fC.2.1 fC.2.2.2.1 fC.2.2.2.2.1 fC.2.2.2.2.2, q⟩

theorem pe_lc (L : LcScope X x scope) (hi : PI X (.Name x px) iter wi) (ht : ∀ cl C s3 H3 fp, PTs (blk X x scope cl C s3 H3 fp) ifs tt) (he : ∀ cl C s3 H3 fp, PE (blk X x scope cl C s3 H3 fp) elt te)
    (hs : ∀ x, foldedSetIterable iter X.env x = pure x := by intro _; rfl) : PE X (.ListComp elt [⟨.Name x px, iter, ifs, 0⟩] scope pos) (tLC wi tt te) := by
  intro pins s σ H Q I h
  rw [eval_ListComp]
  refine lc_core (use := none) (QV := Q) L I (hi pins s σ H _ I h) ht he hs fun D C H' s' m IX fC hn q => ?_
  refine ⟨m, hn, fun h' hs' => ⟨.ref D, H', IX.turned (t' := s'.toks) (fun b o hb e => hs'.extBut b o hb e) fC.1 fC.2.1 fC.2.2.2.1 fC.2.2.2.2.1 fC.2.2.2.2.2, rfl, q⟩⟩
end
end L2

set_option Elab.async false
set_option linter.all false
set_option maxRecDepth 100000
set_option maxHeartbeats 1000000
namespace L2
open PySem PySem.Spec PyProof.Rows


def S (l : List Nat) : Str := ⟨l.toArray⟩
theorem S_list (l : List Nat) : (S l).cps.toList = l := rfl
theorem S_len (l : List Nat) : (S l).length = l.length := by simp [S, Str.length]
theorem S_size (l : List Nat) : (S l).cps.size = l.length := by simp [S]
theorem S_get (l : List Nat) (i : Nat) : (S l).cps[i]? = l[i]? := by simp [S]
theorem S_of (x : Str) : S x.cps.toList = x := by simp [S]
theorem S_inj {a b : List Nat} : S a = S b ↔ a = b := ⟨fun h => by have := congrArg (fun x => x.cps.toList) h; simpa [S] using this, fun h => by rw [h]⟩
theorem S_app (a b : List Nat) : S a ++ S b = S (a ++ b) := by
  show Str.append (S a) (S b) = _
  simp [S, Str.append]
theorem V_inj {a b : List Nat} : (V.str (S a) = V.str (S b)) = (a = b) := by
  rw [V.str.injEq, S_inj]

section
variable {X : Cx} {a b e : Expr} {ta tb te : TE} {pos : Pos}

theorem pe_S {x : Str} {l : List Nat} {j pos} (h : x = S l) : PE X (.Constant (.str x) j pos) (tC (.str (S l))) := by
  subst h; exact pe_str

theorem op_addS : OpR X (binaryOp .Add) (fun x y H Q => ∃ i j, x = .str (S i) ∧ y = .str (S j) ∧ i.length + j.length ≤ sizeLine ∧ Q (.str (S (i ++ j))) H) := by
  intro pins s σ H x y v u Q I rx ry h
  obtain ⟨i, j, rfl, rfl, hz, q⟩ := h
  exact op_add_str pins s σ H _ _ v u Q I rx ry ⟨S i, S j, rfl, rfl, by rw [S_len, S_len]; exact hz, by rw [S_app]; exact q⟩
theorem op_mulI : OpR X (binaryOp .Mult) (rI IntMulOk fun i j => .int (i * j)) := opI fun _ _ _ _ _ _ _ hc q => mul_int q hc
theorem op_inS : OpR X (compareOp .In) (fun x y H Q => ∃ c l, x = .str (S [c]) ∧ y = .str (S l) ∧ Q (.bl (decide (c ∈ l))) H) := by
  intro pins s σ H x y v u Q I rx ry h
  obtain ⟨c, l, rfl, rfl, q⟩ := h
  refine op_in_str pins s σ H _ _ v u Q I rx ry ⟨S [c], S l, rfl, rfl, ?_⟩
  rw [show S [c] = ⟨#[c]⟩ from rfl, StrLaws.found_one]
  exact q
theorem op_notinS : OpR X (compareOp .NotIn) (fun x y H Q => ∃ c l, x = .str (S [c]) ∧ y = .str (S l) ∧ Q (.bl (!decide (c ∈ l))) H) := by
  intro pins s σ H x y v u Q I rx ry h
  obtain ⟨c, l, rfl, rfl, q⟩ := h
  refine op_notin_str pins s σ H _ _ v u Q I rx ry ⟨S [c], S l, rfl, rfl, ?_⟩
  rw [show S [c] = ⟨#[c]⟩ from rfl, StrLaws.found_one]
  exact q

def rIxSS : R2 := fun x y H Q => ∃ l i c, x = .str (S l) ∧ y = .int i ∧ l.length ≤ sizeLine ∧ atI l i = some c ∧ Q (.str (S [c])) H
theorem ix_S : IxR X rIxSS := by
  intro value slice pins s σ H x y v u Q I rx ry h hs
  obtain ⟨l, i, c, rfl, rfl, hz, he, q⟩ := h
  exact ix_str value slice pins s σ H _ _ v u Q I rx ry ⟨S l, i, c, rfl, rfl, by rw [S_len]; exact hz, he, q⟩ hs

theorem call_lenS : CallR X (.builtin "len") (fun xs H Q => ∃ l, xs = [.str (S l)] ∧ l.length ≤ sizeLine ∧ Q (.int l.length) H) := by
  intro pins s σ H xs us Q I r h
  obtain ⟨l, rfl, hz, q⟩ := h
  exact call_len_str pins s σ H _ us Q I r ⟨S l, rfl, by rw [S_len]; exact hz, by rw [S_len]; exact q⟩


end
end L2

set_option Elab.async false
set_option linter.all false
set_option maxRecDepth 100000
set_option maxHeartbeats 1000000
namespace L2
open PySem PySem.Spec PyProof.Rows

section
variable {X : Cx} {a b e : Expr} {ta tb te : TE} {pos : Pos}

theorem strsAre_of : ∀ {ts : List Str} {us : List Value}, Vals (ts.map V.str) us → StrsAre us ts
  | [], _, r => by rw [List.map_nil] at r; cases r; exact .nil
  | t :: ts, _, r => by
    rw [List.map_cons] at r
    cases r with
    | cons r1 r2 =>
      obtain ⟨k, e⟩ := r1
      subst e
      exact .cons t k (strsAre_of r2)
theorem join_S : ∀ ls : List (List Nat), Str.join (S []) (ls.map S) = S ls.flatten
  | [] => rfl
  | [x] => by simp [Str.join]
  | x :: y :: r => by
    show S x ++ S [] ++ Str.join (S []) ((y :: r).map S) = _
    rw [join_S (y :: r), S_app, S_app, List.append_nil]
    rfl
def rJoin (K : PySem.W.Frag) : V → List V → Hp → VK → Prop := fun x vs H Q => ∃ (D : Addr) (ls : List (List Nat)), x = .str (S []) ∧ vs = [.ref D] ∧ SqL K H D (ls.map fun l => V.str (S l)) ∧ ls.flatten.length ≤ 16777216 ∧ Q (.str (S ls.flatten)) H
theorem mt_joinS : MtR X "str.join" (rJoin X.K) := by
  intro pins s σ H x xs v us Q I rx rs h
  obtain ⟨D, ls, rfl, rfl, hq, hz, q⟩ := h
  obtain ⟨t, rfl⟩ := rx
  obtain ⟨u, rfl, ru⟩ := vals1 rs
  cases ru
  obtain ⟨its, rv, p, _⟩ := I.list hq
  have rv' : Vals ((ls.map S).map V.str) its := by rw [List.map_map]; exact rv
  refine join_list p.isList (by simpa using strsAre_of rv') ?_ fun t' k => ⟨.str (S ls.flatten), H, I.tok _, ⟨t', ?_⟩, q⟩
  · have e : ((ls.map S).map (·.length)).sum = ls.flatten.length := by
      rw [List.map_map, List.length_flatten]
      congr 1
      try (apply List.map_congr_left; intro l _; exact S_len l)
    have e2 : (S []).length = 0 := rfl
    rw [e, e2]
    omega
  · show Value.str (Builtin.Str.glued (S []) (ls.map S)) t' = _
    rw [StrLaws.glued_eq_join, join_S]

theorem occ_one {l : List Nat} {c : Nat} (hc : c ∈ l) : ∃ i rest, Builtin.Str.occurrences (S l) ⟨#[c]⟩ 0 (S l).length 1 = i :: rest ∧ l[i]? = some c := by
  have h := StrLaws.found_one (S l) c
  rw [show (S l).cps.toList = l from rfl, decide_eq_true hc] at h
  cases ho : Builtin.Str.occurrences (S l) ⟨#[c]⟩ 0 (S l).length 1 with
  | nil => rw [ho] at h; cases h
  | cons i rest =>
    have sp := StrLaws.occ_spec (S l) ⟨#[c]⟩ 0 (S l).length 1 i (by rw [ho]; exact List.mem_cons_self)
    refine ⟨i, rest, rfl, ?_⟩
    obtain ⟨h1, h2⟩ := sp
    unfold Builtin.Str.subAt at h2
    have h3 : (S l).cps.extract i (i + 1) = #[c] := by simpa [Str.length] using h2
    have h4 : i < l.length := by rw [S_len] at h1; simp [Str.length] at h1; omega
    have h5 := congrArg (fun z => z[0]?) h3
    simp only [S, List.getElem?_toArray, Array.getElem?_extract] at h5
    have h6 : 0 < min (i + 1) l.length - i ∧ l[i]? = some c := by simpa using h5
    exact h6.2
def rIndex : V → List V → Hp → VK → Prop := fun x vs H Q => ∃ l c, x = .str (S l) ∧ vs = [.str (S [c])] ∧ c ∈ l ∧ ∀ i : Nat, l[i]? = some c → Q (.int (i : Int)) H
theorem mt_indexS : MtR X "str.index" rIndex := by
  intro pins s σ H x xs v us Q I rx rs h
  obtain ⟨l, c, rfl, rfl, hc, q⟩ := h
  obtain ⟨t, rfl⟩ := rx
  obtain ⟨u, rfl, t', rfl⟩ := vals1 rs
  obtain ⟨i, rest, ho, hi⟩ := occ_one hc
  exact SC.index ho ⟨.int (i : Int), H, I.tok _, ⟨_, rfl⟩, q i hi⟩


def dg (n : Nat) : List Nat := if n < 10 then [48 + n] else [48 + n / 10, 48 + n % 10]
theorem dg_char : ∀ d : Nat, d < 10 → (Nat.digitChar d).toNat = 48 + d := by decide
theorem str_dg {n : Nat} (h : n < 100) : (PySem.Str.ofString (toString ((n : Nat) : Int))) = S (dg n) := by
  have e := PySem.W.KIN.signs_num n
  have e2 : (Nat.toDigits 10 n).map Char.toNat = dg n := by
    unfold dg
    by_cases h1 : n < 10
    · rw [Nat.toDigits_of_lt_base h1, if_pos h1, List.map_singleton, dg_char n h1]
    · have t : Nat.toDigits 10 (n / 10) ++ Nat.toDigits 10 (n % 10) = Nat.toDigits 10 (10 * (n / 10) + n % 10) := Nat.toDigits_append_toDigits (by decide) (by omega) (by omega)
      rw [Nat.div_add_mod] at t
      rw [← t, Nat.toDigits_of_lt_base (by omega : n / 10 < 10), Nat.toDigits_of_lt_base (by omega : n % 10 < 10), if_neg h1, List.map_append, List.map_singleton, List.map_singleton, dg_char _ (by omega), dg_char _ (by omega)]
      rfl
  rw [← S_of (PySem.Str.ofString _), e, e2]
theorem log_small {i : Int} (h0 : 0 ≤ i) (h1 : i < 1000000) : i.natAbs.log2 < 1920 := by
  have : i.natAbs < 2 ^ 20 := by omega
  by_cases hz : i.natAbs = 0
  · rw [hz]; decide
  · have := (Nat.log2_lt hz).mpr this
    omega
theorem call_strS : CallR X (.type "str") (fun xs H Q => ∃ n : Nat, xs = [.int n] ∧ n < 100 ∧ Q (.str (S (dg n))) H) := by
  intro pins s σ H xs us Q I r h
  obtain ⟨n, rfl, hn, q⟩ := h
  refine call_str_int pins s σ H _ us Q I r ⟨n, rfl, log_small (by omega) (by omega), ?_⟩
  have e : (↑(toString (n : Int)) : Str) = S (dg n) := str_dg hn
  rw [e]
  exact q
def dg2 (n : Nat) : List Nat := [48 + n / 10, 48 + n % 10]
theorem zfill_dg {n : Nat} (h : n < 100) : Txt.zfill (S (dg n)) 2 = S (dg2 n) := by
  have all : ∀ n : Fin 100, Txt.zfill (S (dg n.val)) 2 = S (dg2 n.val) := by decide +kernel
  exact all ⟨n, h⟩
def rZfill : V → List V → Hp → VK → Prop := fun x vs H Q => ∃ n : Nat, x = .str (S (dg n)) ∧ vs = [.int 2] ∧ n < 100 ∧ Q (.str (S (dg2 n))) H
theorem mt_zfillS : MtR X "str.zfill" rZfill := by
  intro pins s σ H x xs v us Q I rx rs h
  obtain ⟨n, rfl, rfl, hn, q⟩ := h
  obtain ⟨t, rfl⟩ := rx
  obtain ⟨u, rfl, t', rfl⟩ := vals1 rs
  refine SC.zfill (by decide +kernel) fun t' k => ⟨.str (S (dg2 n)), H, I.tok _, ⟨t', ?_⟩, q⟩
  rw [zfill_dg hn]
def isFig (c : Nat) : Bool := 48 ≤ c && c ≤ 57
theorem call_intS : CallR X (.type "int") (fun xs H Q => ∃ c d : Nat, xs = [.str (S [c, d])] ∧ isFig c = true ∧ isFig d = true ∧ Q (.int (((c - 48) * 10 + (d - 48) : Nat) : Int)) H) := by
  intro pins s σ H xs us Q I r h
  obtain ⟨c, d, rfl, hc, hd, q⟩ := h
  obtain ⟨u, rfl, t, rfl⟩ := vals1 r
  unfold isFig at hc hd
  simp only [Bool.and_eq_true, decide_eq_true_eq] at hc hd
  have hn : PySem.intText? (S [c, d]) = some (((c - 48) * 10 + (d - 48) : Nat) : Int) := by
    rw [intText_digits (x := S [c, d]) (fun z hz => ?_) (by simp [S]) (by rw [S_len]; show 2 ≤ 4300; decide)]
    · rw [S_list]
      simp [NumText.digitsVal]
    · rw [S_list] at hz
      simp at hz
      rcases hz with rfl | rfl
      · exact hc
      · exact hd
  exact PySem.W.KIN.call_text hn (by rw [S_len]; show 2 ≤ 640; decide) ⟨.int _, H, I.tok _, ⟨_, rfl⟩, q⟩
end
end L2

set_option Elab.async false
set_option linter.all false
set_option maxRecDepth 100000
set_option maxHeartbeats 1000000
namespace L2
open PySem PySem.Spec PyProof.Rows


structure OkF (P : Program) (w : World) (K : PySem.W.Frag) (mg : Str → Option Value) (base : Heap) (k : Nat) (x : Str) (ps : List Str) (sp : Sp) : Prop where
  ex : ∃ (f : Addr) (fd : FuncData), PySem.W.keepIn K (.ref f) = true ∧ Binds K fd ps [] ∧ (mg x = some (.ref f) ∧ ∃ oc od osl, K.lookup f = some ⟨oc, od, .func fd, osl⟩) ∧ FnOk P w K mg base CX0 k f fd ps sp

structure Df (K : PySem.W.Frag) (mg : Str → Option Value) (x : Str) (st : Stmt) (ps : List Str) : Prop where
  ex : ∃ (f : Addr) (fd : FuncData), Fun K x x st f fd ∧ Binds K fd ps [] ∧ mg x = some (.ref f)

section
variable {P : Program} {w : World} {K : PySem.W.Frag} {mg : Str → Option Value} {base : Heap}
theorem Df.ok {x : Str} {st : Stmt} {ps N : List Str} {k : Nat} {sp : Sp} (D : Df K mg x st ps) (Sc : FnScope N ps (defScope st)) (len : ∀ vs H Q E, sp vs H Q E → vs.length = ps.length)
    (hbody : ∀ (f : Addr) (cdv : Value) (A : Around) (outer : List Env) (s : Shared) (H : Hp) (vs : List V) (Q : VK) (E : XK), Room k (A.deeper (envOfC x (defScope st) s.heap.objs.size f cdv)) → sp vs H Q E →
      ∃ t, PSs (cxOf CX0 P w K mg base N x (defScope st) f cdv A outer s H E).nox (defBody st) t ∧ t { nx := fun _ H' => Q .non H', rt := Q } (start N vs) H) : OkF P w K mg base (k + 1) x ps sp := by
  obtain ⟨f, fd, F, b, m⟩ := D.ex
  refine ⟨f, fd, F.kp, b, ⟨m, ?_⟩, F.ok Sc len (fun cdv A outer s H vs Q E hr h => hbody f cdv A outer s H vs Q E hr h)⟩
  obtain ⟨oc, od, kV, doc, pm, an, cdv, ct, osl, rfl, lk, hcd⟩ := F.ex
  exact ⟨oc, od, osl, lk⟩
theorem OkF.mono {j k : Nat} {x : Str} {ps : List Str} {sp : Sp} (F : OkF P w K mg base j x ps sp) (h : j ≤ k) : OkF P w K mg base k x ps sp := by
  obtain ⟨f, fd, kp, b, m, G⟩ := F.ex
  exact ⟨f, fd, kp, b, m, G.mono h⟩
theorem OkF.imp {k : Nat} {x : Str} {ps : List Str} {sp sp' : Sp} (F : OkF P w K mg base k x ps sp) (h : ∀ vs H Q E, sp' vs H Q E → sp vs H Q E) : OkF P w K mg base k x ps sp' := by
  obtain ⟨f, fd, kp, b, m, G⟩ := F.ex
  exact ⟨f, fd, kp, b, m, G.imp h⟩
end
section
variable {P : Program} {w : World} {K : PySem.W.Frag} {mg : Str → Option Value} {base : Heap}

theorem df_mk {h : Heap} {x : Str} {st : Stmt} {ps : List Str} {f : Addr} {oc : Value} {od an : Option Addr} {osl : Array (Option Value)} {kV doc pm cdv ct : Value} (X : K.In h) (G : h.Ns mainGlobals mg)
    (b : ∀ (kV doc pm : Value) (an : Option Addr) (cdv ct : Value) (us : List Value), us.length = ps.length → bindArgs (PySem.W.fnOf x x (defArgs st) (defBody st) (defScope st) .none kV doc pm an cdv ct) ⟨us, []⟩ = pure (ps.zip us))
    (a : PySem.W.nsIn K mainGlobals x = some (some (.ref f))) (l : K.lookup f = some ⟨oc, od, .func (PySem.W.fnOf x x (defArgs st) (defBody st) (defScope st) .none kV doc pm an cdv ct), osl⟩)
    (c : PySem.W.codeIn K cdv x = true) (k : PySem.W.keepIn K (.ref f) = true) : Df K mg x st ps :=
  ⟨f, _, fun_mk l c k, (fun_mk l c k).binds b, PySem.W.mg_of X G a⟩

theorem law_of {st : Stmt} {x : Str} {k : Nat} {fa : Addr} {sp : Sp} (D : Df K mg "law" st [x]) (hfa : mg "law" = some (.ref fa))
    (hb : ∀ (kV doc pm : Value) (an : Option Addr) (cdv ct : Value) (s : Shared) (u : Value), BindsTo s (PySem.W.fnOf "law" "law" (defArgs st) (defBody st) (defScope st) .none kV doc pm an cdv ct) ⟨[u], []⟩ [(x, u)])
    (F : ∀ base : Heap, OkF P w K mg base k "law" [x] sp) :
    ∃ fd : FuncData, (∀ (s : Shared) (v : Value), BindsTo s fd ⟨[v], []⟩ [(x, v)]) ∧ ∀ base : Heap, K.In base → base.Ns mainGlobals mg → FnOk P w K mg base CX0 k fa fd [x] sp := by
  obtain ⟨f, fd, G, b, m⟩ := D.ex
  have e : f = fa := by rw [hfa] at m; cases m; rfl
  subst e
  obtain ⟨oc, od, kV, doc, pm, an, cdv, ct, osl, rfl, lk, hcd⟩ := G.ex
  refine ⟨_, fun s v => hb kV doc pm an cdv ct s v, fun base _ _ => ?_⟩
  obtain ⟨f', fd', _, _, ⟨m', oc', od', osl', lk'⟩, ok⟩ := (F base).ex
  have e : f' = f := by rw [hfa] at m'; cases m'; rfl
  subst e
  rw [lk] at lk'
  cases lk'
  exact ok
end
section
variable {X : Cx} {k j : Nat} {x : Str} {ps : List Str} {sp : Sp} {p pos : Pos} {e : Expr} {es : List Expr} {t : TA}
theorem pe_callF (F : OkF X.prog X.w X.K X.mg X.base k x ps sp) (hr : Room j X.A) (hk : k ≤ j) (ha : PA X (e :: es) t) (hg : Gl X x := by rfl) (hdb : (x == ("__debug__" : Str)) = false := by decide)
    (he : starEach (e :: es) X.env = (false, eval e X.env) :: starEach es X.env := by rfl) (hpl : (backTo pos (starEach es X.env)).any (·.1) = false := by rfl) : PE X (.Call (.Name x p) (e :: es) [] pos) (tCall sp [] E0 t) := by
  obtain ⟨f, fd, kp, b, m, G⟩ := F.ex
  exact pe_call G (hr.mono hk) hg m.1 kp b .nil pass0 ha hdb he hpl
theorem pe_callF0 (F : OkF X.prog X.w X.K X.mg X.base k x ps sp) (hr : Room j X.A) (hk : k ≤ j) (hg : Gl X x := by rfl) (hdb : (x == ("__debug__" : Str)) = false := by decide) : PE X (.Call (.Name x p) [] [] pos) (tCall sp [] E0 tNil) := by
  obtain ⟨f, fd, kp, b, m, G⟩ := F.ex
  exact pe_call0 G (hr.mono hk) hg m.1 kp b .nil pass0 hdb


theorem pe_gl {v : V} {pos : Pos} (h : ∃ u, X.mg x = some u ∧ RelV v u) (hg : Gl X x := by rfl) (hd : (x == ("__debug__" : Str)) = false := by decide) : PE X (.Name x pos) (tC v) := by
  obtain ⟨u, m, r⟩ := h
  exact pe_glob hg m r hd
theorem pe_blt {v : V} {u : Value} {pos : Pos} (hm : X.mg x = none) (hv : bootBuiltins x = some u) (r : RelV v u) (hg : Gl X x := by rfl) (hn : x ≠ "__name__" := by decide) (hd : (x == ("__debug__" : Str)) = false := by decide) : PE X (.Name x pos) (tC v) :=
  pe_bltn hg hm hv r hn hd

theorem lcs {N : List Str} {sc scope : Scope} (e1 : X.N = N) (e2 : X.env.scope = sc) (c : X.calm = true)
    (h : x ∉ N ∧ N.Nodup ∧ scope.kind = .function ∧ (∀ y ∈ scope.names, y.2 ≠ .cell) ∧ (∀ y ∈ scope.names, y.2 = .local → scope.names.lookup y.1 = some .local) ∧ scope.names.lookup x = some .local ∧
      (∀ y ∈ scope.names, y.2 = .free → sc.names.lookup y.1 = some .cell) ∧ (∀ y ∈ N, scope.names.lookup y ≠ some .local)) : LcScope X x scope := by
  subst e1 e2
  obtain ⟨h1, h2, h3, h4, h5, h6, h7, h8⟩ := h
  exact ⟨h1, h2, h3, h4, h5, h6, h7, h8, c⟩

theorem op_addA : OpR X (binaryOp .Add) (fun x y H Q => (∃ i j, x = .int i ∧ y = .int j ∧ Q (.int (i + j)) H) ∨ ∃ i j, x = .str (S i) ∧ y = .str (S j) ∧ i.length + j.length ≤ sizeLine ∧ Q (.str (S (i ++ j))) H) := op_add.or op_addS
theorem call_isinst : CallR X (.builtin "isinstance") (fun xs H Q => ∃ x n t b, xs = [x, .ty n] ∧ TyOf X.K H x t ∧ PySem.W.kitOne X.K t (.type n) = some b ∧ Q (.bl b) H) := by
  intro pins s σ H xs us Q I r h
  obtain ⟨x, n, t, b, rfl, ty, e, q⟩ := h
  obtain ⟨u, w', rfl, rx, ry⟩ := vals2 r
  cases ry
  exact isinst_ok I rx ty e fun tk => ⟨.bl b, H, I.tok _, rfl, q⟩
section
variable {K : PySem.W.Frag} {o : Expr} {to : TE} {name : Str} {apos cpos : Pos} {T id : String} {r : V → List V → Hp → VK → Prop}
theorem pe_bmK (hK : X.K = K) (pa : PlainAttrs T) (slot : Slot T name id) (hty : typeOf (.builtin id) = pure (.type "method_descriptor")) (hm : MtR X id r) (ho : PE X o to) (ha : PA X (e :: es) t)
    (hbase : attributeBase o name X.env (eval o X.env) = eval o X.env := by rfl)
    (hfew : ((backTo cpos (starEach (e :: es) X.env)).all (fun x => !x.1) && (backToKw cpos (keywordEach [] X.env)).all (fun x => x.1.isSome)
      && decide ((e :: es).length + ([] : List Keyword).length + (if ([] : List Keyword).isEmpty then 0 else 1) < 30)) = true := by rfl)
    (hline : (apos.endLine == cpos.line) = true := by rfl) (hs : starEach (e :: es) X.env = (false, eval e X.env) :: starEach es X.env := by rfl) (hplain : (backTo cpos (starEach es X.env)).any (·.1) = false := by rfl) :
    PE X (.Call (.Attribute o name apos) (e :: es) [] cpos) (tBM K T r to t) := by
  subst hK
  exact pe_bm pa slot hty hm ho ha hbase hfew hline hs hplain
theorem mt_joinSK (hK : X.K = K) : MtR X "str.join" (rJoin K) := by subst hK; exact mt_joinS
theorem ix_listK (hK : X.K = K) : IxR X (rIxL K) := by subst hK; exact ix_list
theorem ix_tupK (hK : X.K = K) : IxR X (rIxT K) := by subst hK; exact ix_tup
def rLenL (K : PySem.W.Frag) : List V → Hp → VK → Prop := fun xs H Q => ∃ p ys, xs = [.ref p] ∧ (SqL K H p ys ∨ SqT K H p ys) ∧ Q (.int ys.length) H
theorem call_lenLK (hK : X.K = K) : CallR X (.builtin "len") (rLenL K) := by subst hK; exact call_len_seq
theorem sl_listK (hK : X.K = K) : SlR X (rSlL K) := by subst hK; exact sl_list
theorem pi_listK {tg l : Expr} {tl : TE} (hK : X.K = K) (hl : PE X l tl) : PI X tg l (iList K tl) := by subst hK; exact pi_list hl
end
end
end L2

set_option Elab.async false
set_option linter.all false
set_option maxRecDepth 100000
set_option maxHeartbeats 1000000
namespace L2
open PySem PySem.Spec PyProof.Rows
theorem bb_len : bootBuiltins "len" = some (.builtin "len") := by decide +kernel
theorem bb_max : bootBuiltins "max" = some (.builtin "max") := by decide +kernel
theorem bb_min : bootBuiltins "min" = some (.builtin "min") := by decide +kernel
theorem bb_str : bootBuiltins "str" = some (.type "str") := by decide +kernel
theorem bb_int : bootBuiltins "int" = some (.type "int") := by decide +kernel
theorem bb_isinstance : bootBuiltins "isinstance" = some (.builtin "isinstance") := by decide +kernel


def sg : List Nat := [32, 33, 34, 35, 36, 38, 39, 40, 41, 42, 43, 44, 45, 46, 47, 48, 49, 50, 51, 52, 53, 54, 55, 56, 57, 58, 59, 60, 61, 62, 63, 64, 65, 66, 67, 68, 69, 70, 71, 72, 73, 74, 75, 76, 77, 78, 79, 80, 81, 82, 83, 84, 85, 86, 87, 88, 89, 90, 91, 92, 93, 94, 95, 96, 97, 98, 99, 100, 101, 102, 103, 104, 105, 106, 107, 108, 109, 110, 111, 112, 113, 114, 115, 116, 117, 118, 119, 120, 121, 122, 123, 124, 125, 126]
def fg : List Nat := [48, 49, 50, 51, 52, 53, 54, 55, 56, 57]
theorem sg_len : sg.length = 94 := by decide
theorem sg_nodup : sg.Nodup := by decide
def ix (c : Nat) : Nat := sg.idxOf c
theorem ix_lt {c : Nat} (h : c ∈ sg) : ix c < 94 := by
  have := List.idxOf_lt_length_of_mem h
  rw [sg_len] at this
  exact this
theorem sg_ix {c : Nat} (h : c ∈ sg) : sg[ix c]? = some c := by
  have h1 := List.idxOf_lt_length_of_mem h
  show sg[List.idxOf c sg]? = some c
  rw [List.getElem?_eq_getElem h1]
  exact congrArg some (List.getElem_idxOf h1)
theorem ix_of {c i : Nat} (h : sg[i]? = some c) : i = ix c := by
  obtain ⟨h1, e1⟩ := List.getElem?_eq_some_iff.mp h
  have hm : c ∈ sg := List.mem_of_getElem? h
  have h2 := List.idxOf_lt_length_of_mem hm
  exact (List.getElem_inj sg_nodup).mp (e1.trans (List.getElem_idxOf h2).symm)
theorem fg_iff (c : Nat) : c ∈ fg ↔ isFig c = true := by
  unfold fg isFig
  simp only [List.mem_cons, List.mem_nil_iff, or_false, Bool.and_eq_true, decide_eq_true_eq]
  omega
theorem atI_z {α : Type} (xs : List α) (i : Nat) : atI xs (i : Int) = xs[i]? := by
  cases h : xs[i]? with
  | some v => exact atI_nat h
  | none =>
    have h1 : xs.length ≤ i := List.getElem?_eq_none_iff.mp h
    unfold atI ixN
    rw [if_pos (by omega), if_neg (by omega)]
    rfl
theorem same_upd {H : Hp} {a : Addr} {o : HO} (h : H a = none) : Same H (upd H a o) := fun b u e => by rw [upd_ne (ne_of_none e h)]; exact e

end L2

set_option Elab.async false
set_option linter.all false
set_option maxRecDepth 100000
set_option maxHeartbeats 1000000
namespace L2
open PySem PySem.Spec PyProof.Rows

def forBody (J : It) (g : TG) (tb : TS) (D : Ends) (σ : St) (H1 : Hp) : Prop := ∃ W : Nat → Nat → St → Hp → Prop, (∃ m, W 0 m σ H1) ∧ ∀ i m σ H, W i m σ H →
  (J.stop i H ∧ D.nx σ H) ∨ (J.go i H ∧ ∃ N : St → Hp → Prop, (∀ σ' H', N σ' H' → ∃ m', m' < m ∧ W (i + 1) m' σ' H') ∧ ∀ x H', J.yld i H x H' → g x σ H' fun σ2 H2 => tb { D with nx := N, ct := N, bk := D.nx } σ2 H2)
theorem tFor_eq (wi : TI) (g : TG) (tb : TS) : tFor wi g tb = fun D σ H => wi σ H fun J H1 => forBody J g tb D σ H1 := rfl
def whBody (c : TT) (tb : TS) (D : Ends) (σ : St) (H : Hp) : Prop := ∃ W : Nat → St → Hp → Prop, (∃ m, W m σ H) ∧ ∀ m σ H, W m σ H →
  c σ H fun b H1 => if b = true then ∃ N : St → Hp → Prop, (∀ σ' H', N σ' H' → ∃ m', m' < m ∧ W m' σ' H') ∧ tb { D with nx := N, ct := N, bk := D.nx } σ H1 else D.nx σ H1
theorem tWhile_eq (c : TT) (tb : TS) : tWhile c tb = fun D σ H => whBody c tb D σ H := rfl

theorem fb_list {K : PySem.W.Frag} {a : Addr} {xs : List V} {g : TG} {tb : TS} {D : Ends} {σ : St} {H : Hp} (Pv : Nat → St → Hp → Prop) (h0 : Pv 0 σ H) (hl : ∀ i σ H, i ≤ xs.length → Pv i σ H → SqL K H a xs)
    (hs : ∀ i x σ H, xs[i]? = some x → Pv i σ H → g x σ H fun σ2 H2 => tb { D with nx := Pv (i + 1), ct := Pv (i + 1), bk := D.nx } σ2 H2) (hd : ∀ σ H, Pv xs.length σ H → D.nx σ H) : forBody (Itl K a) g tb D σ H := for_list Pv h0 hl hs hd
theorem fb_range {n : Nat} {g : TG} {tb : TS} {D : Ends} {σ : St} {H : Hp} (Pv : Nat → St → Hp → Prop) (h0 : Pv 0 σ H)
    (hs : ∀ i σ H, i < n → Pv i σ H → g (.int (i : Int)) σ H fun σ2 H2 => tb { D with nx := Pv (i + 1), ct := Pv (i + 1), bk := D.nx } σ2 H2) (hd : ∀ σ H, Pv n σ H → D.nx σ H) : forBody (Itr 0 n) g tb D σ H := by
  refine ⟨fun i m σ H => m = n - i ∧ i ≤ n ∧ Pv i σ H, ⟨n, by simp, Nat.zero_le _, h0⟩, ?_⟩
  rintro i m σ H ⟨rfl, hi, p⟩
  by_cases hlt : i < n
  · refine .inr ⟨hlt, Pv (i + 1), fun σ' H' p' => ⟨n - (i + 1), by omega, rfl, hlt, p'⟩, fun x H' y => ?_⟩
    obtain ⟨rfl, rfl⟩ := y
    rw [Int.zero_add]
    exact hs i σ _ hlt p
  · have e : i = n := by omega
    subst e
    exact .inl ⟨Nat.le_refl _, hd σ H p⟩

theorem take_snoc {α : Type} {l : List α} {i : Nat} {c : α} (h : l[i]? = some c) : l.take (i + 1) = l.take i ++ [c] := by
  rw [List.take_succ, h]
  rfl

theorem lc_str {l : List Nat} {tt : TT} {te : TE} {σ : St} {H : Hp} {Q : VK} (p : Nat → Bool) (g : Nat → V) (hl : l.length ≤ sizeLine)
    (ht : ∀ c ∈ l, ∀ H1, Same H H1 → ∀ R : Bool → Hp → Prop, (∀ H2, Same H1 H2 → R (p c) H2) → tt (some (.str (S [c])) :: σ) H1 R)
    (he : ∀ c ∈ l, p c = true → ∀ H1, Same H H1 → ∀ R : VK, (∀ H2, Same H1 H2 → R (g c) H2) → te (some (.str (S [c])) :: σ) H1 R)
    (hq : ∀ D H2, H D = none → Same H H2 → H2 D = some (.lst ((l.filter p).map g)) → Q (.ref D) H2) : lcBody (Its (S l)) tt te σ H Q := by
  intro D hD
  refine ⟨fun i m ys H' => m = l.length - i ∧ i ≤ l.length ∧ ys = ((l.take i).filter p).map g ∧ Same H H' ∧ H' D = some (.lst ys), ⟨l.length, by simp, Nat.zero_le _, by simp, same_upd hD, upd_same⟩, ?_⟩
  rintro i m ys H' ⟨rfl, hi, rfl, sm, hDl⟩
  refine ⟨hDl, ?_⟩
  by_cases hlt : i < l.length
  · refine .inr ⟨by show i < (S l).cps.size; rw [S_size]; exact hlt, fun v H2 y => ?_⟩
    obtain ⟨rfl, c, hc, rfl⟩ := y
    rw [S_get] at hc
    have hm : c ∈ l := List.mem_of_getElem? hc
    refine ht c hm H2 sm _ fun H3 s3 => ?_
    have hD3 := s3 D _ hDl
    cases hp : p c with
    | true =>
      refine he c hm hp H3 (sm.trans s3) _ fun H4 s4 => ?_
      have hD4 := s4 D _ hD3
      refine ⟨hD4, ?_, l.length - (i + 1), by omega, rfl, hlt, ?_, ?_, upd_same⟩
      · rw [List.length_map]
        have := List.length_filter_le p (l.take i)
        rw [List.length_take] at this
        omega
      · rw [take_snoc hc, List.filter_append, List.map_append]
        simp [hp]
      · intro b o e
        rw [upd_ne (ne_of_none e hD)]
        exact s4 b o (s3 b o (sm b o e))
    | false =>
      refine ⟨l.length - (i + 1), by omega, rfl, hlt, ?_, sm.trans s3, hD3⟩
      rw [take_snoc hc, List.filter_append, List.map_append]
      simp [hp]
  · have e : i = l.length := by omega
    subst e
    refine .inl ⟨by show (S l).cps.size ≤ l.length; rw [S_size]; exact Nat.le_refl _, hq D H' hD sm ?_⟩
    rw [hDl, List.take_length]

theorem lc_range {n : Nat} {te : TE} {σ : St} {H : Hp} {Q : VK} (G : Nat → V → Prop) (hl : n ≤ sizeLine)
    (he : ∀ i, i < n → ∀ H1, Same H H1 → ∀ R : VK, (∀ v H2, G i v → Same H1 H2 → R v H2) → te (some (.int (i : Int)) :: σ) H1 R)
    (hq : ∀ D H2 ys, H D = none → Same H H2 → ys.length = n → (∀ i v, ys[i]? = some v → G i v) → H2 D = some (.lst ys) → Q (.ref D) H2) : lcBody (Itr 0 n) tTrue te σ H Q := by
  intro D hD
  refine ⟨fun i m ys H' => m = n - i ∧ i ≤ n ∧ ys.length = i ∧ (∀ j v, ys[j]? = some v → G j v) ∧ Same H H' ∧ H' D = some (.lst ys), ⟨n, by simp, Nat.zero_le _, rfl, by simp, same_upd hD, upd_same⟩, ?_⟩
  rintro i m ys H' ⟨rfl, hi, hy, hG, sm, hDl⟩
  refine ⟨hDl, ?_⟩
  by_cases hlt : i < n
  · refine .inr ⟨hlt, fun v H2 y => ?_⟩
    obtain ⟨rfl, rfl⟩ := y
    rw [Int.zero_add]
    simp only [tTrue, ↓reduceIte]
    refine he i hlt H2 sm _ fun v H4 gv s4 => ?_
    have hD4 := s4 D _ hDl
    refine ⟨hD4, by omega, n - (i + 1), by omega, rfl, hlt, by simp [hy], fun j u e => ?_, ?_, upd_same⟩
    · by_cases hj : j < ys.length
      · rw [List.getElem?_append_left hj] at e
        exact hG j u e
      · rw [List.getElem?_append_right (by omega)] at e
        have hj' : j - ys.length = 0 := by
          by_cases hz : j - ys.length = 0
          · exact hz
          · rw [List.getElem?_eq_none_iff.mpr (by simp; omega)] at e; cases e
        have ej : j = i := by omega
        subst ej
        rw [hj'] at e
        simp at e
        subst e
        exact gv
    · intro b o e
      rw [upd_ne (ne_of_none e hD)]
      exact s4 b o (sm b o e)
  · have e : i = n := by omega
    subst e
    exact .inl ⟨Nat.le_refl _, hq D H' ys hD sm hy hG hDl⟩


def mk1 (sh : List Nat) (c : Nat) : List Nat := if c = 38 ∨ c ∈ sh then 38 :: (dg2 (ix c) ++ [59]) else [c]
def mkL (t sh : List Nat) : List Nat := (t.map (mk1 sh)).flatten
end L2

set_option Elab.async false
set_option linter.all false
set_option maxRecDepth 100000
set_option maxHeartbeats 1000000
namespace L2
open PySem PySem.Spec PyProof.Rows

theorem atI_0 {α : Type} (c : α) (l : List α) : atI (c :: l) 0 = some c := by rw [show (0 : Int) = ((0 : Nat) : Int) from rfl, atI_z]; rfl
theorem atI_1 {α : Type} (c d : α) (l : List α) : atI (c :: d :: l) 1 = some d := by rw [show (1 : Int) = ((1 : Nat) : Int) from rfl, atI_z]; rfl
theorem atI_int {α : Type} {xs : List α} {i : Int} (h0 : 0 ≤ i) (h1 : i < xs.length) : ∃ v, atI xs i = some v ∧ xs[i.toNat]? = some v := by
  obtain ⟨n, rfl⟩ := Int.eq_ofNat_of_zero_le h0
  have hn : n < xs.length := by omega
  refine ⟨xs[n], ?_, ?_⟩
  · rw [show ((n : Nat) : Int) = ((n : Nat) : Int) from rfl]
    rw [atI_z, List.getElem?_eq_getElem hn]
  · rw [Int.toNat_natCast, List.getElem?_eq_getElem hn]
theorem atI_ints {ns : List Int} {i : Int} (h0 : 0 ≤ i) (h1 : i < ns.length) : ∃ n, atI (ns.map V.int) i = some (.int n) ∧ n ∈ ns := by
  obtain ⟨v, h2, h3⟩ := atI_int (xs := ns.map V.int) h0 (by rw [List.length_map]; exact h1)
  rw [List.getElem?_map] at h3
  cases e : ns[i.toNat]? with
  | none => rw [e] at h3; cases h3
  | some n =>
    rw [e] at h3
    cases h3
    exact ⟨n, h2, List.mem_of_getElem? e⟩
theorem mulOk_l {i j : Int} (h : -(2 ^ 64) < i ∧ i < 2 ^ 64) : IntMulOk i j := CMul.ok (.inl h)
theorem mulOk_r {i j : Int} (h : -(2 ^ 64) < j ∧ j < 2 ^ 64) : IntMulOk i j := CMul.ok (.inr h)
theorem mod_nn {a m : Int} (h : 0 < m) : 0 ≤ a % m ∧ a % m < m := ⟨Int.emod_nonneg _ (by omega), Int.emod_lt_of_pos _ h⟩


theorem seq_if {tc : TT} {t rest : TS} {D : Ends} {σ : L2.St} {H : Hp} (hr : rest D σ H) (h : ∀ N : L2.St → Hp → Prop, N σ H → tIfS tc t tNext { D with nx := N } σ H) : tSeq (tIfS tc t tNext) rest D σ H := h _ hr
theorem cpow {i j : Int} (h : 0 ≤ j ∧ j ≤ 1000000 ∧ i.natAbs < 2 ^ 64) : CPow i j := h
theorem flat_ones : ∀ r : List Nat, (r.map fun c => [c]).flatten = r
  | [] => rfl
  | c :: r => by simp [flat_ones r]

def told (l : List Nat) : Option Nat := match l with
  | [c, d] => if isFig c = true ∧ isFig d = true then sg[(c - 48) * 10 + (d - 48)]? else none
  | _ => none
theorem told_ne {l : List Nat} (h : l.length ≠ 2) : told l = none := by
  match l, h with
  | [], _ => rfl
  | [_], _ => rfl
  | [_, _], h => exact absurd rfl h
  | _ :: _ :: _ :: _, _ => rfl
def oV : Option Nat → V
  | some c => .str (S [c])
  | none => .non
theorem dg2_fig {n : Nat} (h : n < 100) : isFig (48 + n / 10) = true ∧ isFig (48 + n % 10) = true := by
  unfold isFig
  simp only [Bool.and_eq_true, decide_eq_true_eq]
  omega
theorem told_dg2 {c : Nat} (h : c ∈ sg) : told (dg2 (ix c)) = some c := by
  have hx := ix_lt h
  have hf := dg2_fig (n := ix c) (by omega)
  show (if isFig (48 + ix c / 10) = true ∧ isFig (48 + ix c % 10) = true then sg[(48 + ix c / 10 - 48) * 10 + (48 + ix c % 10 - 48)]? else none) = some c
  rw [if_pos hf]
  have e : (48 + ix c / 10 - 48) * 10 + (48 + ix c % 10 - 48) = ix c := by omega
  rw [e]
  exact sg_ix h

theorem mk1_len (sh : List Nat) (c : Nat) : (mk1 sh c).length ≤ 4 := by
  unfold mk1
  split
  · simp [dg2]
  · simp
theorem mkL_cons (c : Nat) (t sh : List Nat) : mkL (c :: t) sh = mk1 sh c ++ mkL t sh := by simp [mkL]
theorem mkL_len (sh : List Nat) : ∀ t : List Nat, (mkL t sh).length ≤ 4 * t.length
  | [] => by simp [mkL]
  | c :: t => by
    rw [mkL_cons, List.length_append, List.length_cons]
    have := mk1_len sh c
    have := mkL_len sh t
    omega
end L2

set_option Elab.async false
set_option linter.all false
set_option maxRecDepth 100000
set_option maxHeartbeats 1000000
namespace L2
open PySem PySem.Spec PyProof.Rows


def rMulS : R2 := fun x y H Q => ∃ (l : List Nat) (n : Int), x = .str (S l) ∧ y = .int n ∧ 0 ≤ n ∧ n ≤ 100000 ∧ l.length * n.toNat ≤ 16777216 ∧ Q (.str (S (List.replicate n.toNat l).flatten)) H
def st1 (sh : List Nat) (c : Nat) : List Nat := if c = 92 ∨ c ∈ sh then [92, c] else [c]
def stL (t sh : List Nat) : List Nat := (t.map (st1 sh)).flatten
theorem st1_len (sh : List Nat) (c : Nat) : (st1 sh c).length ≤ 2 := by
  unfold st1
  split <;> simp
theorem stL_cons (c : Nat) (t sh : List Nat) : stL (c :: t) sh = st1 sh c ++ stL t sh := by simp [stL]
theorem stL_len (sh : List Nat) : ∀ t : List Nat, (stL t sh).length ≤ 2 * t.length
  | [] => by simp [stL]
  | c :: t => by
    rw [stL_cons, List.length_append, List.length_cons]
    have := st1_len sh c
    have := stL_len sh t
    omega
theorem stL_sg {sh t : List Nat} (h : ∀ c ∈ t, c ∈ sg) : ∀ d ∈ stL t sh, d ∈ sg := by
  intro d hd
  unfold stL at hd
  obtain ⟨l, hl, hd⟩ := List.mem_flatten.mp hd
  obtain ⟨c, hc, rfl⟩ := List.mem_map.mp hl
  unfold st1 at hd
  split at hd
  · simp only [List.mem_cons, List.not_mem_nil, or_false] at hd
    rcases hd with rfl | rfl
    · decide
    · exact h _ hc
  · rw [List.mem_singleton] at hd
    rw [hd]; exact h c hc
def ws : List Nat := [97, 98, 99, 100, 101, 102, 103, 104, 105, 106, 107, 108, 109, 110, 111, 112, 113, 114, 115, 116, 117, 118, 119, 120, 121, 122, 48, 49, 50, 51, 52, 53, 54, 55, 56, 57, 45]
def wd1 (c : Nat) : List Nat := if c ∈ ws then [c] else 126 :: dg2 (ix c)
def wdL (t : List Nat) : List Nat := (t.map wd1).flatten
theorem wd1_len (c : Nat) : (wd1 c).length ≤ 3 := by
  unfold wd1
  split <;> simp [dg2]
theorem wdL_cons (c : Nat) (t : List Nat) : wdL (c :: t) = wd1 c ++ wdL t := by simp [wdL]
theorem wdL_len : ∀ t : List Nat, (wdL t).length ≤ 3 * t.length
  | [] => by simp [wdL]
  | c :: t => by
    rw [wdL_cons, List.length_append, List.length_cons]
    have := wd1_len c
    have := wdL_len t
    omega
end L2

set_option Elab.async false
set_option linter.all false
set_option maxRecDepth 100000
set_option maxHeartbeats 1000000
namespace L2
open PySem PySem.Spec PyProof.Rows


def Fly (h : Heap) (e T : Addr) (cls : Value) (d : Option Addr) (fl : Value) : Prop :=
  ∃ sl vs oT ts, h.get? e = some ⟨cls, d, .fields vs, sl⟩ ∧ vs[1]? = some (.ref T) ∧ T ≠ e ∧ h.get? T = some oT ∧ oT.data = .fields ts ∧ ts[3]? = some fl

structure Kp (ch fs : List Addr) (h h' : Heap) : Prop where
  keep : ∀ b o, b ∉ ch → b ∉ fs → h.get? b = some o → h'.get? b = some o
  slot : ∀ b o, b ∉ ch → h.get? b = some o → ∃ sl, h'.get? b = some { o with slots := sl }
theorem Kp.trans {ch ch' fs : List Addr} {h h1 h2 : Heap} (a : Kp ch fs h h1) (b : Kp ch' fs h1 h2) : Kp (ch ++ ch') fs h h2 where
  keep := fun x o hx hf q => b.keep x o (fun z => hx (List.mem_append_right _ z)) hf (a.keep x o (fun z => hx (List.mem_append_left _ z)) hf q)
  slot := fun x o hx q => by
    obtain ⟨sl, q1⟩ := a.slot x o (fun z => hx (List.mem_append_left _ z)) q
    obtain ⟨sl', q2⟩ := b.slot x _ (fun z => hx (List.mem_append_right _ z)) q1
    exact ⟨sl', q2⟩
theorem Kp.mono {ch ch' fs fs' : List Addr} {h h1 : Heap} (a : Kp ch fs h h1) (h1' : ∀ b ∈ ch, b ∈ ch') (h2' : ∀ b ∈ fs, b ∈ fs') : Kp ch' fs' h h1 :=
  ⟨fun b o hx hf q => a.keep b o (fun z => hx (h1' b z)) (fun z => hf (h2' b z)) q, fun b o hx q => a.slot b o (fun z => hx (h1' b z)) q⟩

section
variable {M : Model} {A : Around} {E : Value → Shared → Prop} {s : Shared}

theorem entry_new {base : Heap} {env : Env} {outer : List Env} {L e : Addr} {cls head : Value} {d : Option Addr} {vs : Array Value} {sl : Array (Option Value)} {nx : Bool} {Q : Unit → Shared → Prop}
    (hfr : A.frames = some (env :: outer)) (hl : s.heap.FunFrames base (env :: outer)) (hf : env.frame = some L) (he : s.heap.get? e = some ⟨cls, d, .fields vs, sl⟩) (hv : 1 < vs.size)
    (k : ∀ h' T, s.heap.objs.size ≤ T → Fly h' e T cls d (rawInt L) → Kp [e] (frs (env :: outer)) s.heap h' → Q () { s with heap := h' }) :
    wpAny M A (do let a ← frameOf env; let pl ← entryPlaceOf L nx; let b ← EntryCells.newEntry head a .none (rawInt L) .none pl; setField (.ref e) 1 b) Q E s := by
  have ne : e ∉ (env :: outer).filterMap (·.frame) := fun hm => by
    obtain ⟨_, o, ho, hn⟩ := hl.mem hm
    rw [he] at ho
    cases ho
    exact hn vs rfl
  refine wpAny_bind (wpAny_frameOf_fun hfr hl hf fun g hg => wpAny_bind (wpAny_entryPlaceOf fun pl hpl => ?_))
  have e1 : g.get? e = some ⟨cls, d, .fields vs, sl⟩ := (hg.2.1 e ne).trans he
  unfold EntryCells.newEntry newFields
  refine wpAny_bind (wpAny_newObj_type ?_ (hpl.sizeOk5 _ _ _ _ _))
  generalize hT : ({ cls := .type "traceback", dict := none, data := .fields ([head, .ref L, .none, rawInt L, .none] ++ (if pl.isEmpty then List.replicate 6 Value.none else pl)).toArray } : Obj) = tb
  have e2 := Heap.get?_push_of_some (h := g) tb e1
  have tn : g.objs.size ≠ e := Nat.ne_of_gt (Heap.lt_size e1)
  refine wpAny_setField e2 rfl hv (k _ g.objs.size ?_ ?_ ?_)
  · rw [hg.1]; exact Nat.le_refl _
  · refine ⟨sl, _, tb, ([head, .ref L, .none, rawInt L, .none] ++ (if pl.isEmpty then List.replicate 6 Value.none else pl)).toArray, Heap.get?_update_self _ e2 (by rfl), by simp [hv], tn, ?_, by rw [← hT], by simp⟩
    rw [Heap.get?_update_other _ _ (Ne.symm tn)]
    exact Heap.get?_push_size g (by rw [← hT]; rfl)
  · refine ⟨fun b o hb hfs q => ?_, fun b o hb q => ?_⟩
    · have hbe : b ≠ e := fun z => hb (by simp [z])
      rw [Heap.get?_update_other _ _ (Ne.symm hbe)]
      exact Heap.get?_push_of_some _ ((hg.2.1 b hfs).trans q)
    · have hbe : b ≠ e := fun z => hb (by simp [z])
      obtain ⟨sl', q'⟩ := hg.2.2 b o q
      refine ⟨sl', ?_⟩
      rw [Heap.get?_update_other _ _ (Ne.symm hbe)]
      exact Heap.get?_push_of_some _ q'

theorem note_first {base : Heap} {env : Env} {outer : List Env} {L e : Addr} {cls : Value} {d : Option Addr} {vs : Array Value} {sl : Array (Option Value)} {Q : Unit → Shared → Prop}
    (hfr : A.frames = some (env :: outer)) (hl : s.heap.FunFrames base (env :: outer)) (hf : env.frame = some L) (he : s.heap.get? e = some ⟨cls, d, .fields vs, sl⟩) (hv : vs[1]? = some .none)
    (k : ∀ h' T, s.heap.objs.size ≤ T → Fly h' e T cls d (rawInt L) → Kp [e] (frs (env :: outer)) s.heap h' → Q () { s with heap := h' }) : wpAny M A (noteFrame (.ref e) env) Q E s := by
  unfold noteFrame
  simp only [hf]
  refine wpAny_bind (wpAny_field he rfl hv ?_)
  rw [if_neg (by decide)]
  exact entry_new hfr hl hf he (Array.getElem?_eq_some_iff.mp hv).1 k

theorem note_next {base : Heap} {env : Env} {outer : List Env} {L e T : Addr} {cls : Value} {d : Option Addr} {Q : Unit → Shared → Prop}
    (hfr : A.frames = some (env :: outer)) (hl : s.heap.FunFrames base (env :: outer)) (hf : env.frame = some L) (F : Fly s.heap e T cls d .none)
    (k : ∀ h' T', s.heap.objs.size ≤ T' → Fly h' e T' cls d (rawInt L) → Kp [T, e] (frs (env :: outer)) s.heap h' → Q () { s with heap := h' }) : wpAny M A (noteFrame (.ref e) env) Q E s := by
  obtain ⟨sl, vs, oT, ts, he, hv, tn, hT, hd, h3⟩ := F
  unfold noteFrame
  simp only [hf]
  refine wpAny_bind (wpAny_field he rfl hv ?_)
  rw [if_pos (show (Value.ref T != Value.none) = true by simp)]
  refine wpAny_bind (wpAny_field hT hd h3 ?_)
  rw [if_neg (show ¬ (Value.none == rawInt L) = true by simp [rawInt])]
  refine wpAny_bind (wpAny_setField hT hd (Array.getElem?_eq_some_iff.mp h3).1 ?_)
  have oth : ∀ b, b ≠ T → (s.heap.update T (Obj.mapFields (·.setIfInBounds 3 Value.none))).get? b = s.heap.get? b := fun b hb => Heap.get?_update_other _ _ (Ne.symm hb)
  have nT : ∀ b o, s.heap.get? b = some o → (∀ ws, o.data ≠ .fields ws) → b ≠ T := fun b o q hn z => by
    rw [z, hT] at q
    cases q
    exact hn ts hd
  have hsz : (s.heap.update T (Obj.mapFields (·.setIfInBounds 3 Value.none))).objs.size = s.heap.objs.size := (Heap.SameBut.update s.heap T _).1
  refine entry_new (base := base) hfr (hl.of_keeps fun b o q hn => ⟨o, (oth b (nT b o q hn)).trans q, rfl⟩) hf ((oth e (Ne.symm tn)).trans he) (Array.getElem?_eq_some_iff.mp hv).1 fun h' T' g1 g2 g3 => ?_
  refine k h' T' (by rw [← hsz]; exact g1) g2 ⟨fun b o hb hfs q => ?_, fun b o hb q => ?_⟩
  · exact g3.keep b o (fun z => hb (List.mem_cons_of_mem _ z)) hfs ((oth b fun z => hb (by simp [z])).trans q)
  · exact g3.slot b o (fun z => hb (List.mem_cons_of_mem _ z)) ((oth b fun z => hb (by simp [z])).trans q)

theorem flight_off {e T : Addr} {cls fl : Value} {d : Option Addr} {Q : Unit → Shared → Prop} (F : Fly s.heap e T cls d fl) (k : ∀ h', Fly h' e T cls d .none → Kp [T] [] s.heap h' → h'.objs.size = s.heap.objs.size → Q () { s with heap := h' }) : wpAny M A (setFlight (.ref e) none) Q E s := by
  obtain ⟨sl, vs, oT, ts, he, hv, tn, hT, hd, h3⟩ := F
  have h3' := (Array.getElem?_eq_some_iff.mp h3).1
  unfold setFlight
  refine wpAny_bind (wpAny_field he rfl hv ?_)
  rw [if_pos (show (Value.ref T != Value.none) = true by simp)]
  have oth : ∀ b, b ≠ T → (s.heap.update T (Obj.mapFields (·.setIfInBounds 3 Value.none))).get? b = s.heap.get? b := fun b hb => Heap.get?_update_other _ _ (Ne.symm hb)
  refine wpAny_setField hT hd h3' (k _ ⟨sl, vs, _, _, (oth e (Ne.symm tn)).trans he, hv, tn, Heap.get?_update_self _ hT (Obj.isFreed_of_fields (Obj.data_mapFields hd _)), Obj.data_mapFields hd _, by simp [h3']⟩ ?_ (Heap.SameBut.update s.heap T _).1)
  exact ⟨fun b o hb _ q => (oth b fun z => hb (by simp [z])).trans q, fun b o hb q => ⟨o.slots, (oth b fun z => hb (by simp [z])).trans q⟩⟩

theorem leave_first {base : Heap} {env : Env} {outer : List Env} {L e : Addr} {cls : Value} {d : Option Addr} {vs : Array Value} {sl : Array (Option Value)} {Q : Unit → Shared → Prop}
    (hfr : A.frames = some (env :: outer)) (hl : s.heap.FunFrames base (env :: outer)) (hf : env.frame = some L) (he : s.heap.get? e = some ⟨cls, d, .fields vs, sl⟩) (hv : vs[1]? = some .none)
    (k : ∀ h' T, s.heap.objs.size ≤ T → Fly h' e T cls d .none → Kp [e] (frs (env :: outer)) s.heap h' → Q () { s with heap := h' }) : wpAny M A (leaving env (.ref e)) Q E s := by
  unfold leaving
  refine wpAny_bind (note_first hfr hl hf he hv fun h1 T g1 g2 g3 => flight_off (s := { s with heap := h1 }) g2 fun h2 f1 f2 f3 => k h2 T g1 f1 ⟨fun b o hb hfs q => ?_, fun b o hb q => ?_⟩)
  all_goals
    have hbT : b ≠ T := fun z => absurd (Heap.lt_size q) (by rw [z]; exact Nat.not_lt.mpr g1)
  · exact f2.keep b o (by simpa using hbT) (by simp) (g3.keep b o hb hfs q)
  · obtain ⟨sl', q'⟩ := g3.slot b o hb q
    obtain ⟨sl2, q2⟩ := f2.slot b _ (by simpa using hbT) q'
    exact ⟨sl2, q2⟩

theorem leave_next {base : Heap} {env : Env} {outer : List Env} {L e T : Addr} {cls : Value} {d : Option Addr} {Q : Unit → Shared → Prop}
    (hfr : A.frames = some (env :: outer)) (hl : s.heap.FunFrames base (env :: outer)) (hf : env.frame = some L) (F : Fly s.heap e T cls d .none)
    (k : ∀ h' T', s.heap.objs.size ≤ T' → Fly h' e T' cls d .none → Kp [T, e] (frs (env :: outer)) s.heap h' → Q () { s with heap := h' }) : wpAny M A (leaving env (.ref e)) Q E s := by
  unfold leaving
  refine wpAny_bind (note_next hfr hl hf F fun h1 T' g1 g2 g3 => flight_off (s := { s with heap := h1 }) g2 fun h2 f1 f2 f3 => k h2 T' g1 f1 ⟨fun b o hb hfs q => ?_, fun b o hb q => ?_⟩)
  all_goals
    have hbT : b ≠ T' := fun z => absurd (Heap.lt_size q) (by rw [z]; exact Nat.not_lt.mpr g1)
  · exact f2.keep b o (by simpa using hbT) (by simp) (g3.keep b o hb hfs q)
  · obtain ⟨sl', q'⟩ := g3.slot b o hb q
    obtain ⟨sl2, q2⟩ := f2.slot b _ (by simpa using hbT) q'
    exact ⟨sl2, q2⟩
end
end L2

set_option Elab.async false
set_option linter.all false
set_option maxRecDepth 100000
set_option maxHeartbeats 1000000
namespace L2
open PySem PySem.Spec PySem.Calls PyProof.Rows PySem.W


abbrev vBM : List Value := [.type "ValueError", .type "Exception", .type "BaseException", .type "object"]
def xShape (K : Frag) (C : Addr) : Bool := match K.lookup C with
  | none => false
  | some o => o.cls == .type "type" && match o.data with
    | .cls c => (match c.mro, o.slots.toList with | .ref B :: m, [_, _, _, _, some (.builtin n), _] => B == C && n == "ValueError.__new__" && !c.hasDel && tailIn K vBM m && nsOkIn K c.ns | _, _ => false)
    | _ => false
def xInit (K : Frag) (C : Addr) : Option (Option Value) := (clsIn K C).bind fun c => nsIn K c.ns "__init__"
theorem ns_some_of {K : Frag} {h : Heap} {N : Addr} {x : Str} {v : Value} (X : K.In h) (e : nsOkIn K N = true) (q : nsIn K N x = some (some v)) : h.nsMap N x = some v := by
  obtain ⟨o, es, ep, ho, hd, _, hf⟩ := (Heap.Ns.of_isNs (isNs_of_in X e) : h.Ns N (h.nsMap N))
  unfold nsIn at q
  split at q
  · rename_i c d es' n' sl z
    have := X _ _ z
    rw [ho] at this
    cases this
    cases hd
    split at q
    · rename_i en he
      rw [← hf]
      unfold nsFind findBy
      rw [← Array.find?_toList, he]
      cases q
      rfl
    · split at q <;> cases q
  · cases q

theorem x_obj {K : Frag} {h : Heap} {C : Addr} (X : K.In h) (e : xShape K C = true) : ∃ nm q N bs bm hd sn sub ab col dd k0 k1 k2 k3 k5 cd,
    h.get? C = some (excClassObj nm q C N bs bm hd sn sub ab col dd k0 k1 k2 k3 k5 "ValueError.__new__") ∧ clsIn K C = some cd ∧ cd.mro = .ref C :: bm ∧ cd.ns = N ∧ cd.hasDict = hd ∧ OwnTail h vBM bm ∧ nsOkIn K N = true := by
  unfold xShape at e
  cases hl : K.lookup C with
  | none => rw [hl] at e; cases e
  | some o =>
    rw [hl] at e
    simp only [Bool.and_eq_true, beq_iff_eq] at e
    obtain ⟨hc, e⟩ := e
    cases hd : o.data with
    | cls c =>
      rw [hd] at e
      simp only at e
      split at e
      · rename_i B m k0 k1 k2 k3 n k5 hm hs
        simp only [Bool.and_eq_true, beq_iff_eq, Bool.not_eq_true'] at e
        obtain ⟨⟨⟨⟨hB, rfl⟩, hdel⟩, ht⟩, hok⟩ := e
        obtain rfl : C = B := hB.symm
        have hci : clsIn K C = some c := by
          unfold clsIn
          obtain ⟨oc, od, oda, osl⟩ := o
          dsimp only at hd
          subst hd
          rw [hl]
        obtain ⟨oc, od, oda, osl⟩ := o
        dsimp only at hc hd hs
        subst hc hd
        have z : osl = #[k0, k1, k2, k3, some (.builtin "ValueError.__new__"), k5] := by
          obtain ⟨l⟩ := osl
          simp only at hs
          rw [hs]
        subst z
        have hh := X _ _ hl
        obtain ⟨nm, bs, mro, ns, qn, hdc, sn, sub, ab, col, del⟩ := c
        dsimp only at hm hdel hok
        subst hm hdel
        exact ⟨nm, qn, ns, bs, m, hdc, sn, sub, ab, col, od, k0, k1, k2, k3, k5, ⟨nm, bs, .ref C :: m, ns, qn, hdc, sn, sub, ab, col, false⟩, hh, hci, rfl, rfl, rfl, tail_of_in X ht, hok⟩
      · cases e
    | _ => rw [hd] at e; simp at e

section
variable {prog : Program} {w : World} {A : Around} {E : Value → Shared → Prop} {K : Frag} {C : Addr}
theorem exc_new {h : Heap} {g : Array GenState} {d : Drawn} {t : Nat} {os : OsState} {rest : List Value} {fI : Addr} {oI : Obj} {Q : Fin → Shared → Prop} (X : K.In h) (e : xShape K C = true) (hi : xInit K C = some (some (.ref fI))) (hf : K.lookup fI = some oI)
    (hfc : oI.cls = .type "function") (hr : rest.length ≤ sizeLine)
    (hq : ∀ h' x, h.objs.size ≤ x → Heap.MadeExcOf h h' x (.ref C) rest → wpAny (model prog w) A (call (.ref fI) (.ref x :: rest)) (fun r s' => r = .none ∧ Q (.done (.ret (.ref x))) s') E ⟨h', g, d, t, os⟩) :
    wpAny (model prog w) A (Builtin.«type.__call__» ⟨.ref C :: rest, []⟩) Q E ⟨h, g, d, t, os⟩ := by
  obtain ⟨nm, q, N, bs, bm, hd, sn, sub, ab, col, dd, k0, k1, k2, k3, k5, cd, hC, hcd, hmro, hns, _, T, hok⟩ := x_obj X e
  have F := PySem.F.excBase_ValueError
  have hi' : nsIn K N "__init__" = some (some (.ref fI)) := by
    unfold xInit at hi
    rw [hcd] at hi
    rw [← hns]
    exact hi
  have hn : h.Ns N (h.nsMap N) := Heap.Ns.of_isNs (isNs_of_in X hok)
  have hm := ns_some_of X hok hi'
  have hfI := X _ _ hf
  generalize h.nsMap N = mN at hn hm
  repeat (first | (with_reducible refine wpAny_loadPart_at hC ?_) | (with_reducible refine wpAny_madeBy_exc hC ?_) | wp_step)
  refine codeAny_call_builtin_code (Code.quiet_builtin _ F.quiet) (wpAny_check_new_subT F T hC (codeAny_exc_new_subT F T hC ?_ hr))
  show wpAny (model prog w) _ _ _ _ _
  have up : ∀ b o, h.get? b = some o → ((h.push ({ cls := .type "tuple", data := .seq rest.toArray } : Obj)).push ({ cls := .ref C, data := .fields #[.ref h.objs.size, .none, .none, .none, .bool false, .none] } : Obj)).get? b = some o := fun b o z => Heap.get?_push_of_some ({ cls := .ref C, data := .fields #[.ref h.objs.size, .none, .none, .none, .bool false, .none] } : Obj) (Heap.get?_push_of_some ({ cls := .type "tuple", data := .seq rest.toArray } : Obj) z)
  have hC1 := up _ _ hC
  have hfI1 := up _ _ hfI
  have hn1 : ((h.push ({ cls := .type "tuple", data := .seq rest.toArray } : Obj)).push ({ cls := .ref C, data := .fields #[.ref h.objs.size, .none, .none, .none, .bool false, .none] } : Obj)).Ns N mN := hn.keeps up
  have T1 := T.keeps up
  have hget : ((h.push ({ cls := .type "tuple", data := .seq rest.toArray } : Obj)).push ({ cls := .ref C, data := .fields #[.ref h.objs.size, .none, .none, .none, .bool false, .none] } : Obj)).get? (h.objs.size + 1) = some ({ cls := .ref C, data := .fields #[.ref h.objs.size, .none, .none, .none, .bool false, .none] } : Obj) := by
    have := Heap.get?_push_size (h.push ({ cls := .type "tuple", data := .seq rest.toArray } : Obj)) (o := ({ cls := .ref C, data := .fields #[.ref h.objs.size, .none, .none, .none, .bool false, .none] } : Obj)) rfl
    rwa [Heap.size_push] at this
  have hcC : (Value.ref C :: bm).contains (.ref C) = true := by simp
  unfold isInstance
  repeat (first | (with_reducible refine wpAny_loadPart_at hget ?_) | (with_reducible refine wpAny_isSubtype_exc hC1 ?_; rw [hcC]) | wp_step)
  show wpAny (model prog w) _ (typeLookup (.ref C) _) _ _ _
  refine wpAny_typeLookup_tail hC1 hn1 T1 F.mroIs F.init.lookup ?_
  rw [hm]
  refine wpAny_holding (wpAny_bind ?_)
  unfold bindSpecial
  refine wpAny_bind (wpAny_typeOf (T := "function") ⟨_, hfI1, hfc⟩ ?_)
  rw [if_pos (by decide)]
  refine wpAny_pure (wpAny_bind (wpAny_mono (hq _ (h.objs.size + 1) (Nat.le_succ _) ⟨up, Heap.get?_none_of_le (Nat.le_succ _), h.objs.size, hget, Heap.get?_none_of_le (Nat.le_refl _), ?_⟩) (fun r s' z => ?_) fun _ _ z => z))
  · exact Heap.get?_push_of_some _ (Heap.get?_push_size h rfl)
  · obtain ⟨rfl, z⟩ := z
    wp_walk
    exact z

theorem exc_make {s : Shared} {rest : List Value} {fI : Addr} {oI : Obj} {Q : Value → Shared → Prop} (X : K.In s.heap) (e : xShape K C = true) (hi : xInit K C = some (some (.ref fI))) (hf : K.lookup fI = some oI) (hfc : oI.cls = .type "function") (hr : rest.length ≤ sizeLine)
    (hq : ∀ h' x, s.heap.objs.size ≤ x → Heap.MadeExcOf s.heap h' x (.ref C) rest → wpAny (model prog w) (A.under (.builtin "type.__call__" ⟨.ref C :: rest, []⟩)) (call (.ref fI) (.ref x :: rest)) (fun r s' => r = .none ∧ Q (.ref x) s') E { s with heap := h' }) :
    wpAny (model prog w) A (call (.ref C) rest) Q E s := by
  obtain ⟨h, g, d, t, os⟩ := s
  obtain ⟨nm, q, N, bs, bm, hd, sn, sub, ab, col, dd, k0, k1, k2, k3, k5, cd, hC, _⟩ := x_obj X e
  have f1 := tc_lookup
  have f2 := tc_bind (.ref C)
  have hT : (⟨h, g, d, t, os⟩ : Shared).TypeIs (.ref C) "type" := ⟨_, hC, rfl⟩
  refine wpAny_call (codeAny_of_tree ?_)
  show wpAny (model prog w) _ (callAny (.ref C) _) _ _ _
  repeat (any_goals (first | assumption | (with_reducible refine wpAny_loadPart_at hC ?_) | wp_step))
  exact ⟨rfl, codeAny_call_builtin_at (Code.quiet_builtin _ (by decide +kernel)) entry_typeCall (wpAny_check_type_call_sub hC (exc_new X e hi hf hfc hr fun h' x y z => hq h' x y z))⟩
end
end L2

set_option Elab.async false
set_option linter.all false
set_option maxRecDepth 100000
set_option maxHeartbeats 1000000
namespace L2
open PySem PySem.Spec PySem.Calls PyProof.Rows PySem.W Builtin Builtin.ObjectAttr
section
variable {prog : Program} {w : World} {A : Around} {E : Value → Shared → Prop} {K : Frag} {C x : Addr} {s : Shared}

theorem exc_init {rest : List Value} {vs : Array Value} {sl : Array (Option Value)} {dd : Option Addr} {Q : Value → Shared → Prop} (X : K.In s.heap) (e : xShape K C = true) (hx : s.heap.get? x = some ⟨.ref C, dd, .fields vs, sl⟩) {t0 : Addr} (h0 : vs[0]? = some (.ref t0)) (hr : rest.length ≤ sizeLine)
    (hq : ∀ h', (∀ b o, b ≠ x → s.heap.get? b = some o → h'.get? b = some o) → h'.get? x = some ⟨.ref C, dd, .fields (vs.setIfInBounds 0 (.ref s.heap.objs.size)), sl⟩ → Q .none { s with heap := h' }) :
    wpAny (model prog w) A (call (.builtin "ValueError.__init__") (.ref x :: rest)) Q E s := by
  obtain ⟨h, g, d, t, os⟩ := s
  obtain ⟨nm, q, N, bs, bm, hd, sn, sub, ab, col, dd', k0, k1, k2, k3, k5, cd, hC, hcd, hmro, hns, _, T, hok⟩ := x_obj X e
  have F := PySem.F.excBase_ValueError
  refine wpAny_call (codeAny_call_builtin F.init.plain F.initEntry (wpAny_check_init_subT F T hC hx rfl ?_))
  have hx1 : (h.push ({ cls := .type "tuple", data := .seq rest.toArray } : Obj)).get? x = some ⟨.ref C, dd, .fields vs, sl⟩ := Heap.get?_push_of_some _ hx
  have hz : 0 < vs.size := (Array.getElem?_eq_some_iff.mp h0).1
  repeat (first | (with_reducible refine wpAny_field hx1 rfl h0 ?_) | (with_reducible refine wpAny_setField hx1 rfl hz ?_) | wp_step)
  refine hq _ (fun b o hb z => ?_) ?_
  · exact (Heap.get?_update_other _ _ (Ne.symm hb)).trans (Heap.get?_push_of_some _ z)
  · exact Heap.get?_update_self _ hx1 rfl
theorem ot_pass {h : Heap} {self : Value} {l : List Value} (T : OwnTail h vBM l) : refuseLoop self "__setattr__" l = pure () := by
  induction T with
  | base => exact PySem.F.store_ValueError.passes self
  | own _ _ _ _ ih => rw [refuseLoop_ref]; exact ih

theorem x_store {ox : Obj} {od : Option Obj} {name : Str} {tk : Tok} {v : Value} {R : Result → Shared → Prop} (X : K.In s.heap) (I : InstAt s.heap x ox C od) (e : xShape K C = true) (ha : findIn K (.ref C) name = some none)
    (h : ∀ b, wpAny (model prog w) A.in1 (storeInOwnDict (.ref x) (.ref C) (.str name tk) name v b)
      (fun fin s' => match fin with | .done f => R (.ok f) s' | .again c' => c'.quiet = true ∧ codeAny (model prog w) A c' R s') (fun e s' => R (.error e) s') s) :
    codeAny (model prog w) A (.call (.builtin "object.__setattr__") ⟨[.ref x, .str name tk, v], []⟩) R s := by
  have SF := PySem.F.store_object
  obtain ⟨nm, q, N, bs, bm, hd, sn, sub, ab, col, dd', k0, k1, k2, k3, k5, cd, hC, hcd, hmro, hns, _, T, hok⟩ := x_obj X e
  have hobj : cd.mro.contains (.type "object") = true := by rw [hmro, List.contains_cons, T.hasType (X := "object") (b := true) (by decide +kernel), Bool.or_true]
  have sub : Looks (model prog w) s.heap (isInstance (.ref x) (.type "object")) true := I.type.andThen (looks_mroIn X (by unfold mroIn; rw [hcd, Option.bind_some, if_neg (by rw [hmro]; simp), hobj]))
  refine codeAny_call_builtin SF.slot.plain SF.entry (@check_slot (model prog w) _ _ s "object.__setattr__" "object" "__setattr__" (.ref x) [.str name tk, v] [] _ SF.kind SF.split sub (SF.args (.ref x) (.str name tk) v) ?_)
  have hm : Looks (model prog w) s.heap (mroOf (.ref C)) cd.mro := (looks_clsIn X hcd).andThen .now
  rw [osa_eq, refuse_eq]
  refine wpAny_bind (wpAny_bind (I.type.here (wpAny_bind (hm.here ?_))))
  rw [hmro, refuseLoop_ref, ot_pass T]
  exact wpAny_pure (wpAny_bind (I.type.here (wpAny_bind ((looks_findIn X ha).here (wpAny_bind (wpAny_pure (h _)))))))
theorem store_in {M : Model} {d : Addr} {mA : Str → Option Value} {ns : List Str} {name : Str} {tk : Tok} {v : Value} {Q : Fin → Shared → Prop} (hns : s.heap.Ns1 d mA) (hw : Within mA ns) (hz : ns.length < sizeLine)
    (hq : ∀ h' tk', h'.Ns1 d (fun y => if y = name then some v else mA y) → Heap.SameBut d s.heap h' → Q (.done (.ret .none)) { s with heap := h', toks := tk' }) : wpAny M A (storeInDict d (.str name tk) name v) Q E s := by
  obtain ⟨h, g, dr, t, os⟩ := s
  unfold storeInDict newKeyGuard
  refine wpAny_bind (wpAny_pure (wpAny_bind (wpAny_nsSet1 hns fun h' hn' hs => ?_)))
  obtain ⟨oD, es, ep, ho, hd, hc⟩ := hn'.count (Within.cons name v hw)
  refine wpAny_bind (wpAny_lookBehind ho (by rw [hd]; exact pastItsLine_dict (Nat.le_trans hc (by rw [List.length_cons]; omega))) ?_)
  exact wpAny_pure (hq h' _ hn' hs)
theorem own_new {M : Model} {vs : Array Value} {sl : Array (Option Value)} {Q : Option Addr → Shared → Prop} (X : K.In s.heap) (hx : s.heap.get? x = some ⟨.ref C, none, .fields vs, sl⟩) (e : xShape K C = true) (hh : hasDictIn K C = true)
    (hq : Q (some s.heap.objs.size) { s with heap := (s.heap.push ({ cls := .type "dict", data := .dict #[] } : Obj)).update x fun o => { cls := o.cls, dict := some s.heap.objs.size, data := o.data, slots := o.slots } }) : wpAny M A (ownDictForStores (.ref x)) Q E s := by
  obtain ⟨h, g, dr, t, os⟩ := s
  obtain ⟨nm, q, N, bs, bm, hd, sn, sub, ab, col, dd', k0, k1, k2, k3, k5, cd, hC, hcd, hmro, hns, hdd, T, hok⟩ := x_obj X e
  have hT : hd = true := by
    obtain ⟨cd', hc', hd'⟩ := any_some hh
    rw [hcd] at hc'
    cases hc'
    rw [← hdd]
    exact hd'
  subst hT
  have hx1 : (h.push ({ cls := .type "dict", data := .dict #[] } : Obj)).get? x = some ⟨.ref C, none, .fields vs, sl⟩ := Heap.get?_push_of_some _ hx
  repeat (first | (with_reducible refine wpAny_loadPart_at hx ?_) | (with_reducible refine wpAny_loadPart_at hC ?_) | (with_reducible refine wpAny_update' hx1 ?_) | wp_step)
  exact hq
theorem exc_set0 {vs : Array Value} {sl : Array (Option Value)} {name : Str} {v : Value} {Q : Unit → Shared → Prop} (X : K.In s.heap) (hx : s.heap.get? x = some ⟨.ref C, none, .fields vs, sl⟩) (e : xShape K C = true) (hh : hasDictIn K C = true)
    (hsa : findIn K (.ref C) "__setattr__" = some (some (.builtin "object.__setattr__"))) (ha : findIn K (.ref C) name = some none)
    (hq : ∀ h' d tk, s.heap.objs.size ≤ d → h'.get? x = some ⟨.ref C, some d, .fields vs, sl⟩ → h'.Ns1 d (fun y => if y = name then some v else none) → (∀ b o, b ≠ x → s.heap.get? b = some o → h'.get? b = some o) → Q () { s with heap := h', toks := tk }) :
    wpAny (model prog w) A (setAttr (.ref x) name v) Q E s := by
  have I : InstAt s.heap x ⟨.ref C, none, .fields vs, sl⟩ C none := ⟨hx, rfl, rfl, trivial⟩
  refine set_plain X I hsa (x_store (s := { s with toks := s.toks + 1 }) X I e ha fun b => ?_)
  have hxs : x ≠ s.heap.objs.size := Nat.ne_of_lt (Heap.lt_size hx)
  have hx1 : (s.heap.push ({ cls := .type "dict", data := .dict #[] } : Obj)).get? x = some ⟨.ref C, none, .fields vs, sl⟩ := Heap.get?_push_of_some _ hx
  unfold storeInOwnDict
  refine wpAny_bind (wpAny_pure ?_)
  rw [if_neg (show ¬ (Value.ref C == Value.type "module") = true from fun z => by cases beq_iff_eq.mp z)]
  refine wpAny_bind (own_new (s := { s with toks := s.toks + 1 }) X hx e hh ?_)
  have hgd : ((s.heap.push ({ cls := .type "dict", data := .dict #[] } : Obj)).update x fun o => { cls := o.cls, dict := some s.heap.objs.size, data := o.data, slots := o.slots }).get? s.heap.objs.size = some ({ cls := .type "dict", data := .dict #[] } : Obj) :=
    (Heap.get?_update_ne _ _ _ _ hxs.symm).trans (Heap.get?_push_size _ rfl)
  have hnd : Heap.Ns ((s.heap.push ({ cls := .type "dict", data := .dict #[] } : Obj)).update x fun o => { cls := o.cls, dict := some s.heap.objs.size, data := o.data, slots := o.slots }) s.heap.objs.size (fun _ => none) :=
    ⟨_, #[], _, hgd, rfl, fun e he => absurd he (by simp), fun _ => rfl⟩
  refine store_in (ns := []) (Heap.Ns1.of_empty hnd) Within.nil (by rw [sizeLine_eq]; decide) fun h' tk' hn hs => ?_
  refine hq h' s.heap.objs.size _ (Nat.le_refl _) ((hs.2 x hxs).trans (Heap.get?_update_self _ hx1 rfl)) hn fun b o hb z => ?_
  exact (hs.2 b (Nat.ne_of_lt (Heap.lt_size z))).trans ((Heap.get?_update_ne _ _ _ _ hb).trans (Heap.get?_push_of_some _ z))

end
end L2

set_option Elab.async false
set_option linter.all false
set_option maxRecDepth 100000
set_option maxHeartbeats 1000000
namespace L2
open PySem PySem.Spec PySem.Calls PyProof.Rows PySem.W Builtin Builtin.ObjectAttr

structure XCl (K : Frag) (C : Addr) : Prop where
  sh : xShape K C = true
  hd : hasDictIn K C = true
  ga : findIn K (.ref C) "__getattribute__" = some (some (.builtin "BaseException.__getattribute__"))
  gt : findIn K (.ref C) "__getattr__" = some none
  sa : findIn K (.ref C) "__setattr__" = some (some (.builtin "object.__setattr__"))
  ca : findIn K (.ref C) "__class__" = some (some (.builtin "object.__class__"))
  cg : specialIn K (.builtin "object.__class__") "__get__" = some (some (.builtin "getset_descriptor.__get__"))
  ct : takesIn K (.builtin "object.__class__") = some true
def xclIn (K : Frag) (C : Addr) : Bool := xShape K C && hasDictIn K C && findIn K (.ref C) "__getattribute__" == some (some (.builtin "BaseException.__getattribute__")) && findIn K (.ref C) "__getattr__" == some none &&
  findIn K (.ref C) "__setattr__" == some (some (.builtin "object.__setattr__")) && findIn K (.ref C) "__class__" == some (some (.builtin "object.__class__")) && specialIn K (.builtin "object.__class__") "__get__" == some (some (.builtin "getset_descriptor.__get__")) && takesIn K (.builtin "object.__class__") == some true
theorem xcl_of {K : Frag} {C : Addr} (e : xclIn K C = true) : XCl K C := by
  simp only [xclIn, Bool.and_eq_true, beq_iff_eq] at e
  obtain ⟨⟨⟨⟨⟨⟨⟨a, b⟩, c⟩, d⟩, e⟩, f⟩, g⟩, h⟩ := e
  exact ⟨a, b, c, d, e, f, g, h⟩
theorem XCl.mro {K : Frag} {h : Heap} {C : Addr} (c : XCl K C) (X : K.In h) (T : String) (ht : vBM.contains (.type T) = true) : mroIn K C (.type T) = some true := by
  obtain ⟨nm, q, N, bs, bm, hd, sn, sub, ab, col, dd', k0, k1, k2, k3, k5, cd, hC, hcd, hmro, hns, hdd, OT, hok⟩ := x_obj X c.sh
  unfold mroIn
  rw [hcd, Option.bind_some, if_neg (by rw [hmro]; simp), hmro, List.contains_cons, OT.hasType (X := T) ht, Bool.or_true]
section
variable {prog : Program} {w : World} {A : Around} {E : Value → Shared → Prop} {K : Frag} {C x : Addr} {s : Shared} {ox : Obj} {od : Option Obj} {name : Str} {tk : Tok} {fill expr : Bool}
theorem exc_by {Q : Value → Shared → Prop} (X : K.In s.heap) (I : InstAt s.heap x ox C od) (c : XCl K C)
    (h : wpAny (model prog w) A.in1 (Builtin.«object.__getattribute__» ⟨[.ref x, .str name tk], []⟩) (fun fin s' => match fin with | .done (.ret v) => wpAny (model prog w) A (handedOut v) Q E s' | _ => False) (fun _ _ => False) s) :
    wpAny (model prog w) A (getAttrBy (.ref x) (.str name tk) fill expr) Q E s := by
  have L0 := I.type (M := model prog w)
  unfold getAttrBy
  refine wpAny_holding (wpAny_bind (L0.here (wpAny_bind ((looks_findIn X c.ga).here ?_))))
  dsimp only
  have ne : (Value.builtin "BaseException.__getattribute__" == Value.builtin "object.__getattribute__") = false := by decide +kernel
  rw [ne, Bool.and_false, if_neg (by decide)]
  unfold getAttrByItsOwn
  refine wpAny_bind ((looks_hook (mc := .ref C) X (r := none) (by rw [if_pos (show onTheHeap (.ref C) = true from rfl)]; exact c.gt)).here (wpAny_bind (wpAny_attempt (wpAny_holding ?_))))
  unfold callGetattribute
  rw [show (expr && onTheHeap (Value.builtin "BaseException.__getattribute__")) = false from Bool.and_false _, if_neg (by decide)]
  unfold boundAndCalled
  rw [PySem.F.attr_ValueError.ga.bind]
  refine wpAny_bind (wpAny_pure ?_)
  show wpAny _ _ (call (.builtin "BaseException.__getattribute__") [.ref x, .str name tk]) _ _ _
  refine wpAny_call (codeAny_call_builtin PySem.F.attr_ValueError.ga.plain PySem.F.entry_bexc_ga ?_)
  refine @check_slot (model prog w) _ _ s "BaseException.__getattribute__" "BaseException" "__getattribute__" (.ref x) [.str name tk] [] _ (by decide +kernel) (by decide +kernel) (L0.andThen (looks_mroIn X (c.mro X "BaseException" (by decide +kernel)))) (PySem.F.args_bexc_ga _ _) ?_
  refine wpAny_mono h (fun fin s' z => ?_) fun _ _ z => z.elim
  rcases fin with (_ | _ | _ | _) | _ <;> first | exact z | exact z.elim

theorem exc_get {v : Value} {Q : Value → Shared → Prop} (X : K.In s.heap) (I : InstAt s.heap x ox C od) (c : XCl K C) (hf : findObj K C od name = some (.value v)) (hh : handedIn v = true) (h : Q v { s with toks := s.toks + 1 }) :
    wpAny (model prog w) A (getAttr (.ref x) name expr) Q E s := by
  refine wpAny_bind (wpAny_mkText (exc_by (s := { s with toks := s.toks + 1 }) X I c ?_))
  have L0 := I.type (M := model prog w)
  have L1 := looks_find (M := model prog w) X I hf
  unfold Builtin.«object.__getattribute__»
  refine wpAny_bind (wpAny_pure (wpAny_bind (wpAny_pure (wpAny_bind (L0.here (s := { s with toks := s.toks + 1 }) (wpAny_bind (L1.here (s := { s with toks := s.toks + 1 }) ?_)))))))
  refine wpAny_pure ?_
  show wpAny _ _ (handedOut v) _ _ _
  rw [handedOut_of hh]; exact wpAny_pure h
theorem exc_match {D : Addr} {b : Bool} {Q : Bool → Shared → Prop} (X : K.In s.heap) (hx : s.heap.get? x = some ox) (hxc : ox.cls = .ref C) (c : XCl K C) (d : XCl K D) (hb : mroIn K C (.ref D) = some b) (h : Q b s) : wpAny (model prog w) A (excMatches (.ref x) (.ref D)) Q E s := by
  obtain ⟨nm, q, N, bs, bm, hd, sn, sub, ab, col, dd', k0, k1, k2, k3, k5, cd, hD, hcd, hmro, hns, hdd, OT, hok⟩ := x_obj X d.sh
  obtain ⟨hp, g, dr, t, os⟩ := s
  have f := tc_notTuple
  have L1 := looks_mroIn (M := model prog w) X hb
  have hcB : (Value.ref D :: bm).contains (.type "BaseException") = true := by rw [List.contains_cons, OT.hasType (X := "BaseException") (b := true) (by decide +kernel), Bool.or_true]
  have hT : (⟨hp, g, dr, t, os⟩ : Shared).TypeIs (.ref D) "type" := ⟨_, hD, rfl⟩
  unfold excMatches
  repeat (first | assumption | (with_reducible refine wpAny_loadPart_at hx ?_; rw [hxc]) | (with_reducible refine wpAny_loadPart_at hD ?_) | (with_reducible refine L1.at ?_) | (with_reducible refine wpAny_isSubtype_exc hD ?_; rw [hcB]) | wp_step)
  cases b <;> (wp_walk; exact h)

theorem exc_raise {env : Env} {y : Sem Value} {Q : Flow → Shared → Prop} (hh : A.handled = none)
    (h : wpAny (model prog w) A y (fun v s₁ => ∃ x dd vs sl, v = .ref x ∧ K.In s₁.heap ∧ XCl K C ∧ s₁.heap.get? x = some ⟨.ref C, dd, .fields vs, sl⟩ ∧ vs[1]? = some .none ∧ E (.ref x) s₁) E s) : wpAny (model prog w) A (raiseStmt env (some y) none) Q E s := by
  unfold raiseStmt
  refine wpAny_bind (wpAny_mono h (fun v s₁ z => ?_) fun _ _ z => z)
  obtain ⟨x, dd, vs, sl, rfl, X, c, he, h1, hE⟩ := z
  obtain ⟨nm, q, N, bs, bm, hd, sn, sub, ab, col, dd', k0, k1, k2, k3, k5, cd, hC, hcd, hmro, hns, hdd, OT, hok⟩ := x_obj X c.sh
  obtain ⟨hp, g, d, tk, os⟩ := s₁
  have hcB : (Value.ref C :: bm).contains (.type "BaseException") = true := by rw [List.contains_cons, OT.hasType (X := "BaseException") (b := true) (by decide +kernel), Bool.or_true]
  repeat (first | (with_reducible refine wpAny_loadPart_at he ?_) | (with_reducible refine wpAny_loadPart_at hC ?_) | (with_reducible refine wpAny_field he rfl h1 ?_) | (with_reducible refine wpAny_isSubtype_exc hC ?_; rw [hcB]) | wp_step)
  exact wpAny_raiseNew_none hh hE
end
end L2

set_option Elab.async false
set_option linter.all false
set_option maxRecDepth 100000
set_option maxHeartbeats 1000000
namespace L2
open PySem PySem.Spec PyProof.Rows



abbrev XS := Value → Option Addr → St → Hp → Prop

def Nw (h : Heap) (e : Addr) (c : Value) (d : Option Addr) : Prop := ∃ sl vs, h.get? e = some ⟨c, d, .fields vs, sl⟩ ∧ vs[1]? = some .none

def Fl (X : Cx) (E : XS) (e : Value) (s' : Shared) : Prop := ∃ (ea : Addr) (c : Value) (d : Option Addr) (H' : Hp) (pins : List (Addr × Obj)) (σ : St), e = .ref ea ∧ Inv X pins σ H' s' ∧ X.s₀.heap.objs.size ≤ ea ∧ H' ea = none ∧ (∀ q ∈ X.pn, q.1 ≠ ea) ∧
  (Nw s'.heap ea c d ∨ ∃ T, Fly s'.heap ea T c d .none ∧ X.s₀.heap.objs.size ≤ T ∧ H' T = none ∧ ∀ q ∈ X.pn, q.1 ≠ T) ∧ E c d σ H'
def Thr (X : Cx) (E : XS) : Prop := ∀ e s', Fl X E e s' → X.xe e s'

def CXE (P : Program) (w : World) : CXT := fun outer H s E e s' => ∃ (ea T : Addr) (c : Value) (d : Option Addr) (H' : Hp), e = .ref ea ∧ s.heap.objs.size ≤ ea ∧ s.heap.objs.size ≤ T ∧ Fly s'.heap ea T c d .none ∧ H' ea = none ∧ H' T = none ∧
  s'.os = s.os ∧ AllBare s'.gens ∧ Un (frs outer) [] H H' s.heap s'.heap ∧ HOk P w H' s'.heap ∧ E c d H'

section
variable {X : Cx} {pins : List (Addr × Obj)} {σ : St} {H : Hp} {s s' : Shared}
theorem Un.kp {fs fs' ch : List Addr} {H H' : Hp} {h h1 h2 : Heap} (u : Un fs [] H H' h h1) (k : Kp ch fs' h1 h2) (hc : ∀ b ∈ ch, h.objs.size ≤ b) (hf : ∀ b ∈ fs', b ∈ fs ∨ h.objs.size ≤ b) : Un fs [] H H' h h2 := by
  have nc : ∀ b o, h.get? b = some o → b ∉ ch := fun b o q z => absurd (Nat.lt_of_lt_of_le (Heap.lt_size q) (hc b z)) (Nat.lt_irrefl _)
  refine ⟨fun b o q n hb _ => ?_, fun b o q n hb _ => ?_, u.free, fun b o q _ => ?_, u.tups, u.frzs, u.tbls⟩
  · refine k.keep b o (nc b o q) (fun z => ?_) (u.keep b o q n hb (by simp))
    rcases hf b z with z | z
    · exact hb z
    · exact absurd (Nat.lt_of_lt_of_le (Heap.lt_size q) z) (Nat.lt_irrefl _)
  · obtain ⟨sl, e1⟩ := u.slot b o q n hb (by simp)
    obtain ⟨sl', e2⟩ := k.slot b _ (nc b o q) e1
    exact ⟨sl', e2⟩
  · obtain ⟨o', e1⟩ := u.there b o q (by simp)
    obtain ⟨sl', e2⟩ := k.slot b _ (nc b o q) e1
    exact ⟨_, e2⟩
theorem HOk.kp {P : Program} {w : World} {fs ch : List Addr} {h1 h2 : Heap} (x : HOk P w H h1) (k : Kp ch fs h1 h2) (hc : ∀ b ∈ ch, H b = none) (hf : ∀ b ∈ fs, H b = none) : HOk P w H h2 := fun a o q =>
  (x a o q).stay (fun b u hb z => by
    have t : ∃ v, H b = some v := by
      rcases hb with rfl | hb
      · exact ⟨o, q⟩
      · exact ⟨_, hb⟩
    obtain ⟨v, t⟩ := t
    exact k.keep b u (fun y => by rw [hc b y] at t; cases t) (fun y => by rw [hf b y] at t; cases t) z) (fun _ z => z) fun _ _ z => z
theorem Inv.frame (I : Inv X pins σ H s) : X.stack = X.outer ∨ (X.A.frames = some (X.env :: X.outer) ∧ s.heap.FunFrames X.base (X.env :: X.outer) ∧ X.env.frame = some X.env.locals ∧ frs (X.env :: X.outer) = X.env.locals :: X.fs) := by
  rcases I.ok.stk with e | ⟨e, hf⟩
  · exact .inl e
  · refine .inr ⟨by rw [← e]; exact I.ok.frames, by rw [← e]; exact I.stack, hf, ?_⟩
    unfold frs
    rw [List.filterMap_cons, hf]
    rfl

theorem thr_leave {P : Program} {w : World} {K : PySem.W.Frag} {mg : Str → Option Value} {base : Heap} {N : List Str} {qual : Str} {scope : Scope} {f : Addr} {cd : Value} {A : Around} {outer : List Env} {s : Shared} {H : Hp} {E : XK} :
    Thr (cxOf (CXE P w) P w K mg base N qual scope f cd A outer s H E) (fun c d _ H' => E c d H') := by
  intro e s' hF
  obtain ⟨ea, c, d, H', pins, σ, rfl, I, hea, hHe, _, hv, hE⟩ := hF
  have hst : (cxOf (CXE P w) P w K mg base N qual scope f cd A outer s H E).stack = (cxOf (CXE P w) P w K mg base N qual scope f cd A outer s H E).env :: outer := rfl
  have hfr := I.ok.frames
  have hl := I.stack
  have hsub := I.stkSub
  have hfree := I.stkFree
  rw [hst] at hfr hl hsub hfree
  have fin : ∀ (h' : Heap) (T : Addr) (ch : List Addr), s'.heap.objs.size ≤ T → Fly h' ea T c d .none → Kp ch (frs ((cxOf (CXE P w) P w K mg base N qual scope f cd A outer s H E).env :: outer)) s'.heap h' → (∀ b ∈ ch, s.heap.objs.size ≤ b ∧ H' b = none) →
      CXE P w outer H s E (.ref ea) { s' with heap := h' } := fun h' T ch g1 g2 g3 g4 => by
    refine ⟨ea, T, c, d, H', rfl, hea, Nat.le_trans I.sz g1, g2, hHe, I.hok.fresh g1, I.os, I.bare, ?_, I.hok.kp g3 (fun b hb => (g4 b hb).2) hfree, hE⟩
    refine Un.kp (fs := frs outer) I.base g3 (fun b hb => (g4 b hb).1) fun b hb => ?_
    rcases List.mem_cons.mp (hsub b hb) with z | z
    · rw [z]; exact .inr I.ok.above
    · exact .inl z
  rcases hv with ⟨sl, vs, he, h1⟩ | ⟨T0, hF, hT, hHT, _⟩
  · exact leave_first hfr hl rfl he h1 fun h' T g1 g2 g3 => fin h' T [ea] g1 g2 g3 fun b hb => by
      obtain rfl : b = ea := by simpa using hb
      exact ⟨hea, hHe⟩
  · exact leave_next hfr hl rfl hF fun h' T g1 g2 g3 => fin h' T [T0, ea] g1 g2 g3 fun b hb => by
      rcases List.mem_cons.mp hb with z | z
      · subst z; exact ⟨hT, hHT⟩
      · obtain rfl : b = ea := by simpa using z
        exact ⟨hea, hHe⟩

theorem fl_call {E : XS} {e : Value} (I : Inv X pins σ H s) (h : CXE X.prog X.w X.stack H s (fun c d H' => E c d σ H') e s') : Fl X E e s' := by
  obtain ⟨ea, T, c, d, H', rfl, h1, h2, hF, n1, n2, ho, hg, hu, hk, hE⟩ := h
  have np : ∀ a, s.heap.objs.size ≤ a → ∀ q ∈ X.pn, q.1 ≠ a := fun a z q hq y => by
    have := (I.pin q (List.mem_append_left _ hq)).1
    exact absurd (Nat.lt_of_lt_of_le (Heap.lt_size this) (y ▸ z)) (Nat.lt_irrefl _)
  exact ⟨ea, c, d, H', pins, σ, rfl, I.call' ho hu hk hg (fun b z => absurd z (by simp)), Nat.le_trans I.sz h1, n1, np ea h1, .inr ⟨T, hF, Nat.le_trans I.sz h2, n2, np T h2⟩, hE⟩
end


structure OkX (P : Program) (w : World) (K : PySem.W.Frag) (mg : Str → Option Value) (base : Heap) (k : Nat) (x : Str) (ps : List Str) (sp : Sp) : Prop where
  ex : ∃ (f : Addr) (fd : FuncData), PySem.W.keepIn K (.ref f) = true ∧ Binds K fd ps [] ∧ mg x = some (.ref f) ∧ FnOk P w K mg base (CXE P w) k f fd ps sp
section
variable {P : Program} {w : World} {K : PySem.W.Frag} {mg : Str → Option Value} {base : Heap}
theorem Df.okX {x : Str} {st : Stmt} {ps N : List Str} {k : Nat} {sp : Sp} (D : Df K mg x st ps) (Sc : FnScope N ps (defScope st)) (len : ∀ vs H Q E, sp vs H Q E → vs.length = ps.length)
    (hbody : ∀ (f : Addr) (cdv : Value) (A : Around) (outer : List Env) (s : Shared) (H : Hp) (vs : List V) (Q : VK) (E : XK), Room k (A.deeper (envOfC x (defScope st) s.heap.objs.size f cdv)) → sp vs H Q E →
      ∃ t, PSs (cxOf (CXE P w) P w K mg base N x (defScope st) f cdv A outer s H E) (defBody st) t ∧ t { nx := fun _ H' => Q .non H', rt := Q } (start N vs) H) : OkX P w K mg base (k + 1) x ps sp := by
  obtain ⟨f, fd, F, b, m⟩ := D.ex
  refine ⟨f, fd, F.kp, b, m, ?_⟩
  obtain ⟨oc, od, kV, doc, pm, an, cdv, ct, osl, rfl, lk, hcd⟩ := F.ex
  exact fn_of lk hcd Sc len fun A outer s H vs Q E hr h => hbody f cdv A outer s H vs Q E hr h
end
section
variable {X : Cx} {k j : Nat} {x : Str} {ps : List Str} {sp : Sp} {p pos : Pos} {e : Expr} {es : List Expr} {t : TA} {E : XS}

def tCallX (sp : Sp) (E : XS) (t : TA) : TE := fun σ H Q => t σ H fun vs H1 => sp vs H1 Q fun c d H' => E c d σ H'
theorem run_fnX {f : Addr} {fd : FuncData} {pins : List (Addr × Obj)} {σ : St} {H : Hp} {s : Shared} {Q : VK} {us : List Value} {vs : List V} (F : FnOk X.prog X.w X.K X.mg X.base (CXE X.prog X.w) k f fd ps sp) (hr : Room k X.A) (hb : Binds X.K fd ps []) (hx : Thr X E)
    (I : Inv X pins σ H s) (r : Vals vs us) (h : sp vs H Q fun c d H' => E c d σ H') : wpAny (model X.prog X.w) X.A (call (.ref f) us) (EP X pins σ Q) X.xe s := by
  have hl : (us ++ []).length = ps.length := by rw [List.append_nil, ← r.length]; exact F.len _ _ _ _ h
  have hb' := hb s us I.kIn hl
  rw [List.append_nil] at hb'
  refine wpAny_call (codeAny_mono (F.run X.A X.stack s H ⟨us, []⟩ us vs Q (fun c d H' => E c d σ H') hr I.env0 hb' r h) fun r s' hq => ?_)
  rcases r with e | (u | _ | _ | _)
  · exact hx e s' (fl_call I hq)
  all_goals first | exact I.after hq | exact False.elim hq
theorem pe_callX (hx : Thr X E) (F : OkX X.prog X.w X.K X.mg X.base k x ps sp) (hr : Room j X.A) (hk : k ≤ j) (ha : PA X (e :: es) t) (hg : Gl X x := by rfl) (hdb : (x == ("__debug__" : Str)) = false := by decide)
    (he : starEach (e :: es) X.env = (false, eval e X.env) :: starEach es X.env := by rfl) (hpl : (backTo pos (starEach es X.env)).any (·.1) = false := by rfl) : PE X (.Call (.Name x p) (e :: es) [] pos) (tCallX sp E t) := by
  intro pins s σ H Q I h
  obtain ⟨f, fd, kp, b, m, G⟩ := F.ex
  refine wpAny_Call_Name_kw (ld_glob I hg m ?_ hdb)
  refine PySem.W.callWith_K (h₀ := X.base) I.ok.mod.kin kp (thn (ha pos pins s σ H _ I h) fun us s1 ⟨vs, H1, I1, r, q⟩ => ⟨I1.kIn, ?_⟩) he hpl
  exact run_fnX G (hr.mono hk) b hx I1 r q
end
end L2

set_option Elab.async false
set_option linter.all false
set_option maxRecDepth 100000
set_option maxHeartbeats 1000000
namespace L2
open PySem PySem.Spec PyProof.Rows PySem.W

def ExN (C a : Addr) : HO := .ext fun h => ∃ (vs : Array Value) (sl : Array (Option Value)) (t : Addr), h.get? a = some ⟨.ref C, none, .fields vs, sl⟩ ∧ vs[0]? = some (.ref t) ∧ vs[1]? = some .none
def ExD (C d a : Addr) : HO := .ext fun h => ∃ (vs : Array Value) (sl : Array (Option Value)), h.get? a = some ⟨.ref C, some d, .fields vs, sl⟩ ∧ vs[1]? = some .none
theorem upd_id {H : Hp} {a : Addr} {o : HO} (e : H a = some o) : upd H a o = H := by
  funext b
  unfold upd
  split
  · rename_i z; rw [z, e]
  · rfl
section
variable {P : Program} {w : World} {H : Hp} {h : Heap} {C d a : Addr}
theorem exn_ok {vs : Array Value} {sl : Array (Option Value)} {t : Addr} (e : h.get? a = some ⟨.ref C, none, .fields vs, sl⟩) (h0 : vs[0]? = some (.ref t)) (h1 : vs[1]? = some .none) : ObjOk P w H h a (ExN C a) :=
  ⟨⟨vs, sl, t, e, h0, h1⟩, ⟨_, e⟩, fun _ _ ⟨vs, sl, t, e, r⟩ k => ⟨vs, sl, t, k _ e, r⟩⟩
theorem exd_ok {vs : Array Value} {sl : Array (Option Value)} (e : h.get? a = some ⟨.ref C, some d, .fields vs, sl⟩) (h1 : vs[1]? = some .none) : ObjOk P w H h a (ExD C d a) :=
  ⟨⟨vs, sl, e, h1⟩, ⟨_, e⟩, fun _ _ ⟨vs, sl, e, r⟩ k => ⟨vs, sl, k _ e, r⟩⟩
end
section
variable {X : Cx} {C B : Addr} {b self name : Str} {e a1 : Expr} {es : List Expr} {te : TE} {t : TA} {np p1 apos cpos pos pos' : Pos} {i : Nat}

def rInit (C : Addr) : List V → Hp → VK → Prop := fun xs H Q => ∃ a v, xs = [.ref a, v] ∧ H a = some (ExN C a) ∧ Q .non H
theorem call_init (c : XCl X.K C) : CallR X (.builtin "ValueError.__init__") (rInit C) := by
  intro pins s σ H xs us Q I r h
  obtain ⟨a, v, rfl, ea, q⟩ := h
  obtain ⟨u1, u2, rfl, r1, r2⟩ := vals2 r
  obtain rfl : u1 = Value.ref a := r1
  obtain ⟨⟨vs, sl, t, e, h0, h1⟩, _⟩ := I.hok a _ ea
  refine exc_init I.kIn c.sh e h0 (by show 1 ≤ _; rw [sizeLine_eq]; decide) fun h' k z => ⟨.non, H, ?_, rfl, q⟩
  have I' := I.write (x := a) (e := a) (o := ExN C a) (h' := h') (t' := s.toks) (by rw [ea]; exact True.intro) (.inl rfl) k ⟨_, z⟩ (exn_ok (t := s.heap.objs.size) z (by
    have : 0 < vs.size := (Array.getElem?_eq_some_iff.mp h0).1
    simp [this]) (by simpa [Array.getElem?_setIfInBounds] using h1))
  rw [upd_id ea] at I'
  exact I'

def upIn (K : Frag) (B : Addr) : Bool := specialIn K (.ref B) "__getattribute__" == some (some (.builtin "type.__getattribute__")) && readsIn K B (.type "type") && (match findCls K (.ref B) (.type "type") "__init__" with | some (.val v) => v == .builtin "ValueError.__init__" | _ => false)
theorem pe_init {pl : Sem Bool} (hm : X.mg b = some (.ref B)) (hu : upIn X.K B = true) (c : XCl X.K C) (ha : PA X (a1 :: es) t) (hg : Gl X b := by rfl) (hd : (b == ("__debug__" : Str)) = false := by decide)
    (hst : starEach (a1 :: es) X.env = (false, eval a1 X.env) :: starEach es X.env := by rfl) (hpl : (backTo cpos (starEach es X.env)).any (·.1) = false := by rfl)
    (ht : eval (.Call (.Attribute (.Name b np) "__init__" apos) (a1 :: es) [] cpos) X.env = (do
      let ov ← eval (.Name b np) X.env
      standAt apos.atName
      let (f, first) ← holding [ov] (getMethod ov "__init__" pl)
      callWith cpos f first (backTo cpos (starEach (a1 :: es) X.env)) (backToKw cpos (keywordEach [] X.env))) := by rfl) : PE X (.Call (.Attribute (.Name b np) "__init__" apos) (a1 :: es) [] cpos) (tCB (rInit C) t) := by
  intro pins s σ H Q I h
  simp only [upIn, Bool.and_eq_true, beq_iff_eq] at hu
  obtain ⟨⟨u1, u2⟩, u3⟩ := hu
  split at u3
  · rename_i v hv
    obtain rfl : v = .builtin "ValueError.__init__" := beq_iff_eq.mp u3
    refine methodCall_KW (pl := pl) (ld_glob I hg hm (method_cls I.kIn u1 (cls_value I.kIn u2 hv rfl ?_)) hd) ht
    exact callWith_builtin1 (thn (ha cpos pins _ σ H _ (I.tok _) h) fun us s1 ⟨vs, H1, I1, r1, q1⟩ => call_init c pins s1 σ H1 vs us Q I1 r1 q1) hst hpl
  · cases u3

def tSet0 (K : Frag) (C : Addr) (ta tv : TE) (name : Str) : TS := fun D σ H => tv σ H fun y H1 => ta σ H1 fun x H2 => ∃ a, x = .ref a ∧ H2 a = some (ExN C a) ∧ ∀ d, H2 d = none → d ≠ a → D.nx σ (upd (upd H2 a (ExD C d a)) d (.xd [(name, y)]))
theorem ps_set0 {o value : Expr} {ta tv : TE} (c : XCl X.K C) (hn : findIn X.K (.ref C) name = some none) (ha : PE X o ta) (hv : PE X value tv) (hs : swapsWith value (some (.Attribute o name pos')) pos.line X.env = pure false := by rfl) :
    PS X (.Assign [.Attribute o name pos'] value pos) (tSet0 X.K C ta tv name) := by
  intro pins s σ H D I h
  refine plainObj_wpAny_Assign_Attribute (thn (hv pins s σ H _ I h) fun u s1 ⟨y, H1, I1, ry, q⟩ => thn (ha pins s1 σ H1 _ I1 q) fun ov s2 ⟨x, H2, I2, rx, a, ex, ea, q2⟩ => ?_) hs
  subst ex
  obtain rfl : ov = Value.ref a := rx
  obtain ⟨⟨vs, sl, t, e, h0, h1⟩, _⟩ := I2.hok a _ ea
  refine exc_set0 I2.kIn e c.sh c.hd c.sa hn fun h' d tk g1 g2 g3 g4 => ?_
  have hn := I2.hok.fresh g1
  have nd : d ≠ a := fun z => by rw [z, ea] at hn; cases hn
  refine ⟨σ, _, ?_, q2 d hn nd⟩
  have u : Un X.fs [] H2 (upd (upd H2 a (ExD C d a)) d (.xd [(name, y)])) s2.heap h' := by
    have na : ∀ b, H2 b = none → b ≠ a := fun b z y => by rw [y, ea] at z; cases z
    have nd' : ∀ b o, s2.heap.get? b = some o → b ≠ d := fun b o z y => absurd (Nat.lt_of_lt_of_le (Heap.lt_size z) (y ▸ g1)) (Nat.lt_irrefl _)
    have nx : ∀ b o, H2 b = some o → b ≠ d := fun b o z y => by rw [y, hn] at z; cases z
    refine ⟨fun b o z n _ _ => g4 b o (na b n) z, fun b o z n _ _ => ⟨o.slots, g4 b o (na b n) z⟩, fun b o z n _ => by rw [upd_ne (nd' b o z), upd_ne (na b n)]; exact n, fun b o z _ => ?_, fun b xs z => ?_, fun b o u z => ?_, fun b ps z => ⟨#[], ?_⟩⟩
    · by_cases hb : b = a
      · rw [hb]; exact ⟨_, g2⟩
      · exact ⟨o, g4 b o hb z⟩
    all_goals
      have nb : b ≠ a := fun y => by rw [y, ea] at z; cases z
      rw [upd_ne (nx b _ z), upd_ne nb, z]
    simp
  refine I2.un u fun b o z => ?_
  by_cases hb : b = d
  · subst hb
    rw [upd_same] at z
    cases z
    refine ⟨_, g3, fun f => ?_⟩
    by_cases hf : f = name
    · subst hf; simp only [if_pos]; simpa [List.lookup, RelO] using ry
    · have : (f == name) = false := beq_eq_false_iff_ne.mpr hf
      simp only [if_neg hf, List.lookup, this]; trivial
  · rw [upd_ne hb] at z
    by_cases hb2 : b = a
    · subst hb2
      rw [upd_same] at z
      cases z
      exact exd_ok g2 h1
    · rw [upd_ne hb2] at z
      have nown : ∀ c y, H2 c = some (.own y) → c ≠ a := fun c y r q => by rw [q, ea] at r; cases r
      have ntup : ∀ c y, H2 c = some (.tup y) → c ≠ a := fun c y r q => by rw [q, ea] at r; cases r
      have nx : ∀ b o, H2 b = some o → b ≠ d := fun b o z y => by rw [y, hn] at z; cases z
      refine (I2.hok b o z).stay (fun c v hc q => g4 c v ?_ q) (fun c q => by rw [upd_ne (nx c _ q), upd_ne (nown c _ q)]; exact q) fun c xs q => by rw [upd_ne (nx c _ q), upd_ne (ntup c _ q)]; exact q
      rcases hc with rfl | hc
      · exact hb2
      · exact nown c _ hc

def tFs (te : TE) : TE := fun σ H Q => te σ H fun v H1 => ((∃ n : Int, v = .int n ∧ 0 ≤ n ∧ n < 1000000) ∨ ∃ z : Str, v = .str z ∧ z.length ≤ 1000000) ∧ ∀ y, Q (.str y) H1
theorem pe_fs {a : Str} {j : Nat} {q1 q2 q3 : Pos} (he : PE X e te) (ha : a.length ≤ 1000 := by decide +kernel) : PE X (.JoinedStr [.Constant (.str a) j q1, .FormattedValue e (-1) none q2] q3) (tFs te) := by
  intro pins s σ H Q I h
  refine JoinedStr_many (joinParts_cons (Calls.Constant_str ⟨?_, ?_⟩))
  · rw [strLen_append, sizeLine_eq]
    show 0 + a.length ≤ _
    omega
  refine joinParts_cons (FormattedValue_plain (thn (he pins _ σ H _ (I.tok _) h) fun u s1 ⟨v, H1, I1, r, hv, q⟩ => ?_))
  have fin : ∀ (y : Str) (tk : Nat), y.length ≤ 1000001 → (Str.empty ++ a ++ y).length ≤ sizeLine ∧ wpAny (model X.prog X.w) X.A (joinParts (Str.empty ++ a ++ y) []) (EP X pins σ Q) X.xe { s1 with toks := tk } := fun y tk hy => by
    have hz : (Str.empty ++ a ++ y).length ≤ sizeLine := by
      rw [strLen_append, strLen_append, sizeLine_eq]
      show 0 + a.length + y.length ≤ _
      omega
    exact ⟨hz, joinParts_nil ⟨.str _, H1, I1.tok _, ⟨_, rfl⟩, q _⟩ hz⟩
  rcases hv with ⟨n, rfl, n0, n1⟩ | ⟨z, rfl, hz⟩
  · obtain ⟨tk, rfl⟩ := r
    refine formatField_int_small (log_small n0 n1) (fin _ _ ?_)
    have e1 := int_text_length_le10 (a := n) (k := 7) (by decide) (by omega)
    show (Str.ofString (toString n)).length ≤ _
    rw [PySem.ofString_length]
    omega
  · obtain ⟨tk, rfl⟩ := r
    exact formatField_str (fun t' tk' => fin _ _ (by omega)) (by rw [sizeLine_eq]; omega)
end
end L2

set_option Elab.async false
set_option linter.all false
set_option maxRecDepth 100000
set_option maxHeartbeats 1000000
namespace L2
open PySem PySem.Spec PyProof.Rows PySem.W


def sp_init (C : Addr) (f : Str) (pay : V → Prop) : Sp := fun vs H Q _ => ∃ a v, vs = [.ref a, v] ∧ H a = some (ExN C a) ∧ pay v ∧ ∀ d, H d = none → d ≠ a → Q .non (upd (upd H a (ExD C d a)) d (.xd [(f, v)]))

def payT (v : V) : Prop := (∃ n : Int, v = .int n ∧ 0 ≤ n ∧ n < 1000000) ∨ ∃ z : Str, v = .str z ∧ z.length ≤ 1000000
structure Err (P : Program) (w : World) (K : Frag) (mg : Str → Option Value) (base : Heap) (x : Str) (C : Addr) (f : Str) (pay : V → Prop) : Prop where
  gl : mg x = some (.ref C)
  cl : XCl K C
  kp : keepIn K (.ref C) = true
  ex : ∃ (fI : Addr) (fd : FuncData) (oI : Obj) (ps : List Str), xInit K C = some (some (.ref fI)) ∧ K.lookup fI = some oI ∧ oI.cls = .type "function" ∧ Binds K fd ps [] ∧ FnOk P w K mg base CX0 1 fI fd ps (sp_init C f pay)
theorem init_read {K : Frag} {C : Addr} {f p : Str} {a : Addr} {v : V} {H : Hp} {Q : VK} (ea : H a = some (ExN C a)) (hp : payT v) (q : ∀ d, H d = none → d ≠ a → Q .non (upd (upd H a (ExD C d a)) d (.xd [(f, v)]))) :
    tSeq (tDrop (tCB (rInit C) (tCons (tVar 0) (tCons (tFs (tVar 1)) tNil)))) (tSet0 K C (tVar 0) (tVar 1) f) { nx := fun _ H' => Q .non H', rt := Q } (start ["self", p] [.ref a, v]) H :=
  ⟨.ref a, rfl, v, rfl, hp, fun y => ⟨a, .str y, rfl, ea, v, rfl, .ref a, rfl, a, rfl, ea, fun d h1 h2 => q d h1 h2⟩⟩
section
variable {X : Cx} {E : XS} {C : Addr} {x f : Str} {pay : V → Prop} {e : Expr} {es : List Expr} {t : TA} {np cpos pos : Pos} {j : Nat}
def tRaise (C : Addr) (f : Str) (pay : V → Prop) (E : XS) (t : TA) : TS := fun _ σ H => t σ H fun vs H1 => ∃ v, vs = [v] ∧ pay v ∧ ∀ d H2, Same H1 H2 → H1 d = none → H2 d = some (.xd [(f, v)]) → E (.ref C) (some d) σ H2
theorem ps_raise (hx : Thr X E) (R : Err X.prog X.w X.K X.mg X.base x C f pay) (hr : Room j X.A) (hj : 2 ≤ j) (ha : PA X (e :: es) t) (hg : Gl X x := by rfl) (hdb : (x == ("__debug__" : Str)) = false := by decide)
    (he : starEach (e :: es) X.env = (false, eval e X.env) :: starEach es X.env := by rfl) (hpl : (backTo cpos (starEach es X.env)).any (·.1) = false := by rfl) :
    PS X (.Raise (some (.Call (.Name x np) (e :: es) [] cpos)) none pos) (tRaise C f pay E t) := by
  intro pins s σ H D I h
  have c := R.cl
  rw [arm_exec_Raise]
  refine wpAny_bind (wpAny_standAt (exc_raise (C := C) (K := X.K) hr.hd ?_))
  refine wpAny_bind (wpAny_mono (Q := fun v s₁ => ∃ x dd vs sl, v = .ref x ∧ X.K.In s₁.heap ∧ XCl X.K C ∧ s₁.heap.get? x = some ⟨.ref C, dd, .fields vs, sl⟩ ∧ vs[1]? = some .none ∧ X.xe (.ref x) s₁) ?_ (fun v s₁ h₁ => wpAny_bind (wpAny_standAt (wpAny_pure h₁))) fun _ _ z => z)
  refine wpAny_Call_Name_kw (ld_glob I hg R.gl ?_ hdb)
  refine callWith_K (h₀ := X.base) I.ok.mod.kin R.kp (thn (ha cpos pins s σ H _ I h) fun us s1 ⟨vs, H1, I1, r, v, hvs, hp, q⟩ => ⟨I1.kIn, ?_⟩) he hpl
  subst hvs
  obtain ⟨u, rfl, rv⟩ := vals1 r
  obtain ⟨fI, fd, oI, ps, i1, i2, i3, hb, F⟩ := R.ex
  refine exc_make I1.kIn c.sh i1 i2 i3 (by show 1 ≤ _; rw [sizeLine_eq]; decide) fun h' a g1 g2 => ?_
  obtain ⟨t0, z1, _, _⟩ := g2.there
  have n1 := I1.hok.fresh g1
  have I2 : Inv X pins σ (upd H1 a (ExN C a)) { s1 with heap := h' } := I1.laid (t' := s1.toks) g2.keeps g1 (exn_ok (t := t0) z1 rfl rfl)
  have hsp : sp_init C f pay [.ref a, v] (upd H1 a (ExN C a)) (fun w2 H2 => w2 = .non ∧ ∃ d, upd H1 a (ExN C a) d = none ∧ d ≠ a ∧ H2 = upd (upd (upd H1 a (ExN C a)) a (ExD C d a)) d (.xd [(f, v)])) E0 :=
    ⟨a, v, rfl, upd_same, hp, fun d q1 q2 => ⟨rfl, d, q1, q2, rfl⟩⟩
  have r2 : Vals [V.ref a, v] [Value.ref a, u] := .cons rfl (.cons rv .nil)
  have hb' := hb { s1 with heap := h' } [.ref a, u] I2.kIn (by rw [← F.len _ _ _ _ hsp]; rfl)
  refine wpAny_call (codeAny_mono (F.run (X.A.under (.builtin "type.__call__" ⟨.ref C :: [u], []⟩)) X.stack { s1 with heap := h' } _ ⟨[.ref a, u], []⟩ _ _ _ _ ((hr.mono hj).make C [u] []) (I2.env0.make C [u] []) hb' (by simpa using r2) hsp) fun r s' hq => ?_)
  rcases r with er | fl
  · exact False.elim hq
  cases fl with
  | next => exact False.elim hq
  | brk => exact False.elim hq
  | cont => exact False.elim hq
  | ret w2 =>
    obtain ⟨v2, H2, I3, rv2, rfl, d, q1, q2, rfl⟩ := I2.after hq
    refine ⟨rv2, a, some d, ?_⟩
    have hx1 : ObjOk X.prog X.w (upd (upd (upd H1 a (ExN C a)) a (ExD C d a)) d (.xd [(f, v)])) s'.heap a (ExD C d a) := I3.hok a _ (by rw [upd_ne (Ne.symm q2), upd_same])
    obtain ⟨⟨vs', sl', e1, e2⟩, _⟩ := hx1
    refine ⟨vs', sl', rfl, I3.kIn, c, e1, e2, hx _ _ ?_⟩
    have np : ∀ q ∈ X.pn, q.1 ≠ a := fun q hq y => by
      have := (I1.pin q (List.mem_append_left _ hq)).1
      exact absurd (Nat.lt_of_lt_of_le (Heap.lt_size this) (y ▸ g1)) (Nat.lt_irrefl _)
    have q1' : H1 d = none := by rw [upd_ne q2] at q1; exact q1
    -- the object is no longer tracked
    have sa : Same H1 (fun b => if b = a then none else upd (upd (upd H1 a (ExN C a)) a (ExD C d a)) d (.xd [(f, v)]) b) := fun b o hb => by
      have ba : b ≠ a := fun y => by rw [y, n1] at hb; cases hb
      have bd : b ≠ d := fun y => by rw [y, q1'] at hb; cases hb
      simp only [if_neg ba]
      rw [upd_ne bd, upd_ne ba, upd_ne ba]; exact hb
    refine ⟨a, .ref C, some d, _, [], σ, rfl, ?_, Nat.le_trans I1.sz g1, ?_, np, .inl ⟨sl', vs', e1, e2⟩, q d _ sa q1' ?_⟩
    · have I4 : Inv X [] σ (upd (upd (upd H1 a (ExN C a)) a (ExD C d a)) d (.xd [(f, v)])) s' := I3.pins_of fun p hp => absurd hp (by simp)
      have key : ∀ b o, (fun b => if b = a then none else upd (upd (upd H1 a (ExN C a)) a (ExD C d a)) d (.xd [(f, v)]) b) b = some o → b ≠ a ∧ upd (upd (upd H1 a (ExN C a)) a (ExD C d a)) d (.xd [(f, v)]) b = some o := fun b o z => by
        by_cases hb : b = a
        · simp [hb] at z
        · simp only [if_neg hb] at z; exact ⟨hb, z⟩
      have back : ∀ b o, b ≠ a → upd (upd (upd H1 a (ExN C a)) a (ExD C d a)) d (.xd [(f, v)]) b = some o → (fun b => if b = a then none else upd (upd (upd H1 a (ExN C a)) a (ExD C d a)) d (.xd [(f, v)]) b) b = some o := fun b o hb z => by
        simp only [if_neg hb]; exact z
      have nex : ∀ b o, upd (upd (upd H1 a (ExN C a)) a (ExD C d a)) d (.xd [(f, v)]) b = some o → (∀ φ, o ≠ .ext φ) → b ≠ a := fun b o z no y => by
        rw [y, upd_ne (Ne.symm q2), upd_same] at z
        cases z
        exact no _ rfl
      refine I4.step (h' := s'.heap) (g' := s'.gens) (t' := s'.toks) (d' := s'.drawn) (ch := []) (fun _ z => absurd z (by simp)) (fun b o _ _ _ z _ => z) (fun b o _ _ _ z _ => ⟨o.slots, z⟩) (fun b o _ _ z => ?_) (fun b o _ z => ⟨o, z⟩) (fun b xs z => back b _ (nex b _ z fun _ y => by cases y) z) (fun b o u z => back b _ (nex b _ z fun _ y => by cases y) z)
        (fun b ps z => ⟨#[], by rw [Array.append_empty]; exact back b _ (nex b _ z fun _ y => by cases y) z⟩) (fun m z => z) (fun b o z => ?_) I4.bare
      · by_cases hb : b = a
        · simp [hb]
        · simp only [if_neg hb]; exact z
      · obtain ⟨hb, z⟩ := key b o z
        exact (I4.hok b o z).stay (fun _ _ _ y => y) (fun c y => back c _ (nex c _ y fun _ y => by cases y) y) fun c xs y => back c _ (nex c _ y fun _ y => by cases y) y
    · simp
    · simp only [if_neg q2]; rw [upd_same]
end
end L2

set_option Elab.async false
set_option linter.all false
set_option maxRecDepth 100000
set_option maxHeartbeats 1000000
namespace L2
open PySem PySem.Spec PyProof.Rows PySem.W
section
variable {X : Cx} {pins : List (Addr × Obj)} {σ : St} {H : Hp} {s : Shared}

def Ours (X : Cx) (b : Addr) : Prop := X.s₀.heap.objs.size ≤ b ∧ b ≠ X.env.locals ∧ (∀ x c, X.env.cells.lookup x = some c → c ≠ b) ∧ ∀ p ∈ X.pn, p.1 ≠ b
theorem ours_at (I : Inv X pins σ H s) {b : Addr} {o : Obj} {vs : Array Value} (e : s.heap.get? b = some o) (hd : o.data = .fields vs) (h0 : X.s₀.heap.objs.size ≤ b) (hp : ∀ p ∈ X.pn, p.1 ≠ b) : Ours X b := by
  refine ⟨h0, fun z => ?_, fun x c hc z => ?_, hp⟩
  · obtain ⟨m, ⟨o', es, ep, e', d', _⟩, _⟩ := I.loc
    rw [← z, e] at e'
    cases e'
    rw [hd] at d'
    cases d'
  · obtain ⟨v, o', e', d'⟩ := I.cell x c hc
    rw [z, e] at e'
    cases e'
    rw [hd] at d'
    cases d'
theorem ours_new (I : Inv X pins σ H s) {b : Addr} (h : s.heap.objs.size ≤ b) : Ours X b := by
  refine ⟨Nat.le_trans I.sz h, fun z => absurd I.lt (by rw [← z]; exact Nat.not_lt.mpr h), fun x c hc z => ?_, fun p hp z => ?_⟩
  · obtain ⟨v, o', e', d'⟩ := I.cell x c hc
    exact absurd (Nat.lt_of_lt_of_le (Heap.lt_size e') (z ▸ h)) (Nat.lt_irrefl _)
  · have := (I.pin p (List.mem_append_left _ hp)).1
    exact absurd (Nat.lt_of_lt_of_le (Heap.lt_size this) (z ▸ h)) (Nat.lt_irrefl _)

theorem Inv.kp {h' : Heap} {H' : Hp} {ch : List Addr} (I : Inv X [] σ H s) (k : Kp ch (frs X.stack) s.heap h') (hc : ∀ b ∈ ch, Ours X b ∧ H b = none) (hH : ∀ b, b ∉ ch → H' b = H b) (hok : HOk X.prog X.w H' h') : Inv X [] σ H' { s with heap := h' } := by
  have nt : ∀ b o, H b = some o → b ∉ ch := fun b o z y => by rw [(hc b y).2] at z; cases z
  refine I.step (h' := h') (g' := s.gens) (t' := s.toks) (d' := s.drawn) (ch := ch) (fun b hb => ?_) (fun b o n1 n2 n3 z _ => ?_) (fun b o n1 n2 n3 z _ => k.slot b o n3 z) (fun b o n3 z n => by rw [hH b n3]; exact n) (fun b o n3 z => let ⟨sl, q⟩ := k.slot b o n3 z; ⟨_, q⟩)
    (fun b xs z => by rw [hH b (nt b _ z)]; exact z) (fun b o u z => by rw [hH b (nt b _ z)]; exact z) (fun b ps z => ⟨#[], by rw [hH b (nt b _ z), Array.append_empty]; exact z⟩) (fun m hm => ?_) hok I.bare
  · obtain ⟨a1, a2, a3, a4⟩ := (hc b hb).1
    exact ⟨.inr a1, a2, a3, fun p hp => (List.mem_append.mp hp).elim (a4 p) fun z => absurd z (by simp)⟩
  · exact k.keep b o n3 (fun y => (List.mem_cons.mp (I.stkSub b y)).elim n1 n2) z
  · obtain ⟨o, es, ep, ho, r⟩ := hm
    obtain ⟨sl, q⟩ := k.slot _ o (fun z => (hc _ z).1.2.1 rfl) ho
    exact ⟨_, es, ep, q, r⟩

theorem Inv.lost {h' : Heap} {tk : Nat} {m' : Str → Option Value} (I : Inv X pins σ H s) (hn : h'.Ns X.env.locals m') (hs : Heap.SameBut X.env.locals s.heap h') : Inv X pins (σ.map fun _ => none) H { s with heap := h', toks := tk } := by
  have lt : ∀ b o, X.s₀.heap.get? b = some o → b ≠ X.env.locals := fun b o e => Nat.ne_of_lt (Nat.lt_of_lt_of_le (Heap.lt_size e) I.ok.above)
  refine ⟨I.ok, I.os, I.bare, ⟨fun b o e n hb hx => ?_, fun b o e n hb hx => ?_, I.base.free, fun b o e hx => ?_, I.base.tups, I.base.frzs, I.base.tbls⟩, ⟨_, hn, fun j y v' e1 e2 e3 => ?_⟩, fun y c e => ?_, I.free, I.freeC, fun p hp => ?_, fun b ob e => ?_, by simpa using I.len⟩
  · exact (hs.2 b (lt b o e)).trans (I.base.keep b o e n hb hx)
  · obtain ⟨sl, e1⟩ := I.base.slot b o e n hb hx
    exact ⟨sl, (hs.2 b (lt b o e)).trans e1⟩
  · obtain ⟨o', e1⟩ := I.base.there b o e hx
    exact ⟨o', (hs.2 b (lt b o e)).trans e1⟩
  · rw [List.getElem?_map] at e2
    cases q : σ[j]? with
    | none => rw [q] at e2; cases e2
    | some z => rw [q] at e2; cases e2
  · obtain ⟨w', z⟩ := I.cell y c e
    exact ⟨w', z.sameBut hs (I.cne y c e)⟩
  · obtain ⟨e, n, ne, nf, d⟩ := I.pin p hp
    exact ⟨(hs.2 p.1 ne).trans e, n, ne, nf, d⟩
  · refine (I.hok b ob e).stay (fun c w' hc q => (hs.2 c ?_).trans q) (fun _ q => q) fun _ _ q => q
    rintro rfl
    rcases hc with rfl | hc
    · rw [I.free] at e; cases e
    · rw [I.free] at hc; cases hc

abbrev Cx.tryIn (X : Cx) (pn : List (Addr × Obj)) (xe : Value → Shared → Prop) : Cx := { X with pn := pn, xe := xe }
abbrev Cx.exIn (X : Cx) (pn : List (Addr × Obj)) (ea : Addr) : Cx := { X with pn := pn, A := X.A.mark (some (.ref ea)), calm := false, xe := fun _ _ => False }
theorem Cx.Ok.tryIn (ok : X.Ok) (pn : List (Addr × Obj)) (xe : Value → Shared → Prop) : (X.tryIn pn xe).Ok :=
  ⟨ok.mod, ok.kind, ok.glob, ok.blt, ok.above, ok.inj, ok.has, ok.cab, ok.hd, ok.frames, ok.stk, ok.exf, ok.bs, ok.bsz, ok.noex, ok.exfs, ok.funs, ok.frf⟩
theorem Cx.Ok.exIn (ok : X.Ok) (pn : List (Addr × Obj)) (ea : Addr) : (X.exIn pn ea).Ok :=
  ⟨ok.mod, ok.kind, ok.glob, ok.blt, ok.above, ok.inj, ok.has, ok.cab, fun z => absurd (show false = true from z) (by decide), ok.frames, ok.stk, ok.exf, ok.bs, ok.bsz, ok.noex, ok.exfs, ok.funs, ok.frf⟩
theorem Inv.tryIn (I : Inv X pins σ H s) (xe : Value → Shared → Prop) : Inv (X.tryIn (X.pn ++ pins) xe) [] σ H s := ⟨I.ok.tryIn _ _, I.os, I.bare, I.base, I.loc, I.cell, I.free, I.freeC, fun p hp => I.pin p (by simpa using hp), I.hok, I.len⟩
theorem Inv.untry {xe : Value → Shared → Prop} (ok : X.Ok) (I : Inv (X.tryIn (X.pn ++ pins) xe) [] σ H s) : Inv X pins σ H s := ⟨ok, I.os, I.bare, I.base, I.loc, I.cell, I.free, I.freeC, fun p hp => I.pin p (by simpa using hp), I.hok, I.len⟩
theorem Inv.toEx {xe : Value → Shared → Prop} (ok : X.Ok) (ea : Addr) (I : Inv (X.tryIn (X.pn ++ pins) xe) [] σ H s) : Inv (X.exIn (X.pn ++ pins) ea) [] σ H s := ⟨ok.exIn _ _, I.os, I.bare, I.base, I.loc, I.cell, I.free, I.freeC, I.pin, I.hok, I.len⟩
theorem Inv.unEx {ea : Addr} (ok : X.Ok) (I : Inv (X.exIn (X.pn ++ pins) ea) [] σ H s) : Inv X pins σ H s := ⟨ok, I.os, I.bare, I.base, I.loc, I.cell, I.free, I.freeC, fun p hp => I.pin p (by simpa using hp), I.hok, I.len⟩
end


def Caught (H : Hp) (a C : Addr) (d : Option Addr) : Prop := ∃ o, H a = some (.frz o (.own a)) ∧ o.cls = .ref C ∧ o.dict = d ∧ ∃ vs, o.data = .fields vs

def tTry (K : Frag) (Dc : Addr) (i : Nat) (tb : XS → TS) (th : TS) : TS := fun D σ H =>
  tb (fun c d σ' H' => ∃ C, c = .ref C ∧ XCl K C ∧ mroIn K C (.ref Dc) = some true ∧ ∀ ea H2, Same H' H2 → Caught H2 ea C d → th { nx := fun σ2 H2 => D.nx (σ2.map fun _ => none) H2, rt := D.rt, bk := fun σ2 H2 => D.bk (σ2.map fun _ => none) H2, ct := fun σ2 H2 => D.ct (σ2.map fun _ => none) H2 } (σ'.set i (some (.ref ea))) H2) D σ H
section
variable {X : Cx} {Dc : Addr} {x n : Str} {i : Nat} {tb : XS → TS} {th : TS} {body suite : List Stmt} {b₀ : Stmt} {np hpos pos : Pos}
theorem ps_try (hm : X.mg x = some (.ref Dc)) (cD : XCl X.K Dc) (hN : X.N.Nodup) (hi : X.N[i]? = some n) (hl : X.env.scope.names.lookup n = some .local) (hst : X.stack = X.env :: X.outer) (hf : X.env.frame = some X.env.locals)
    (hb : ∀ (E : XS) (pn : List (Addr × Obj)) (xe : Value → Shared → Prop), PassesOwn (model X.prog X.w) X.A X.env xe → Thr (X.tryIn pn xe) E → PSs (X.tryIn pn xe) body (tb E))
    (hh : ∀ pn ea, PSs (X.exIn pn ea) (b₀ :: suite) th) (hg : Gl X x := by rfl) (hdb : (x == ("__debug__" : Str)) = false := by decide) :
    PS X (.Try body [.ExceptHandler (some (.Name x np)) (some n) (b₀ :: suite) hpos] [] [] pos) (tTry X.K Dc i tb th) := by
  intro pins s σ H D I h
  refine wpAny_Try_except ?_
  refine wpAny_mono (hb _ (X.pn ++ pins) (fun e s₁ => wpAny (model X.prog X.w) X.A (noteFrame e X.env) (fun _ s₂ => wpAny (model X.prog X.w) X.A (setFlight e none) (fun _ s₃ =>
    wpAny (model X.prog X.w) X.A (handleBy e X.env [.ExceptHandler (some (.Name x np)) (some n) (b₀ :: suite) hpos]) (SP X pins D) X.xe s₃) X.xe s₂) X.xe s₁) PassesOwn.looking ?_ [] s σ H D (I.tryIn _) h) (fun f s1 q => ?_) fun e s1 z => z
  · intro e s' hF
    obtain ⟨ea, c, d, H', pins', σ', rfl, I1', hea, hHe, hpn, hv, C, rfl, cC, hmr, hth⟩ := hF
    have I1 : Inv (X.tryIn (X.pn ++ pins) _) [] σ' H' s' := I1'.pins_of fun p hp => absurd hp (by simp)
    clear I1'
    have hfr : X.A.frames = some (X.env :: X.outer) := by rw [← hst]; exact I.ok.frames
    have hlf : s'.heap.FunFrames X.base (X.env :: X.outer) := by rw [← hst]; exact I1.stack
    have hfree : ∀ b ∈ frs (X.env :: X.outer), H' b = none := by rw [← hst]; exact I1.stkFree
    have go : ∀ (h2 : Heap) (T : Addr) (ch : List Addr), s'.heap.objs.size ≤ T → Fly h2 ea T (.ref C) d .none → Kp ch (frs (X.env :: X.outer)) s'.heap h2 → ea ∈ ch → T ∈ ch → (∀ b ∈ ch, Ours (X.tryIn (X.pn ++ pins) fun _ _ => True) b ∧ H' b = none) →
        wpAny (model X.prog X.w) X.A (handleBy (.ref ea) X.env [.ExceptHandler (some (.Name x np)) (some n) (b₀ :: suite) hpos]) (SP X pins D) X.xe { s' with heap := h2 } := by
      intro h2 T ch g1 g2 g3 m1 m2 g4
      have I2 : Inv (X.tryIn (X.pn ++ pins) _) [] σ' H' { s' with heap := h2 } := I1.kp (by rw [hst]; exact g3) (fun b hb => ⟨(g4 b hb).1, (g4 b hb).2⟩) (fun _ _ => rfl) (I1.hok.kp g3 (fun b hb => (g4 b hb).2) hfree)
      have I3 := I2.toEx I.ok ea
      obtain ⟨sl, vs, oT, ts, he, hv1, tn, hT, hd, h3⟩ := id g2
      refine wpAny_handleBy_cons (codeAny_handlers_test (ld_glob (X := X.exIn (X.pn ++ pins) ea) I3 hg hm ?_ hdb)) (by intro q; cases q)
      refine exc_match (s := { s' with heap := h2 }) I3.kIn he rfl cC cD hmr ?_
      refine codeAny_handlers_suite_as ?_
      refine flight_off (s := { s' with heap := h2 }) g2 fun h4 f1 f2 f3 => ?_
      obtain ⟨sl4, vs4, oT4, ts4, he4, _⟩ := id f1
      have I4 : Inv (X.exIn (X.pn ++ pins) ea) [] σ' (upd H' ea (.frz ⟨.ref C, d, .fields vs4, sl4⟩ (.own ea))) { s' with heap := h4 } := by
        have k : Kp [ea, T] (frs X.stack) h2 h4 := f2.mono (fun b hb => List.mem_cons_of_mem _ hb) (fun b hb => absurd hb (by simp))
        refine Inv.kp (s := { s' with heap := h2 }) I3 k (fun b hb => ?_) (fun b hb => ?_) fun b o z => ?_
        · have : b ∈ ch := by
            rcases List.mem_cons.mp hb with z | z
            · rw [z]; exact m1
            · rw [show b = T by simpa using z]; exact m2
          exact ⟨(g4 b this).1, (g4 b this).2⟩
        · exact upd_ne fun z => hb (by simp [z])
        · by_cases hb : b = ea
          · subst hb
            rw [upd_same] at z
            cases z
            exact ⟨he4, ⟨_, he4⟩⟩
          · rw [upd_ne hb] at z
            have nT : ∀ c u, H' c = some u → c ∉ [T] := fun c u q y => by
              rw [show c = T by simpa using y, (g4 T m2).2] at q; cases q
            have ne : ∀ c u, H' c = some u → c ≠ ea := fun c u q y => by rw [y, hHe] at q; cases q
            refine (I2.hok b o z).stay (fun c u hc q => ?_) (fun c q => by rw [upd_ne (ne c _ q)]; exact q) fun c xs q => by rw [upd_ne (ne c _ q)]; exact q
            rcases hc with rfl | hc
            · exact f2.keep _ u (nT _ _ z) (by simp) q
            · exact f2.keep _ u (nT _ _ hc) (by simp) q
      refine store_ok (X := X.exIn (X.pn ++ pins) ea) I4 hN hi (.inl hl) (v := .ref ea) rfl (fun s5 I5 => ?_) (.inr hl)
      have hsm : Same H' (upd H' ea (.frz ⟨.ref C, d, .fields vs4, sl4⟩ (.own ea))) := fun b o q => by rw [upd_ne fun y => by rw [y, hHe] at q; cases q]; exact q
      refine wpAny_mono (hh (X.pn ++ pins) ea [] s5 _ _ _ I5 (hth ea _ hsm ⟨_, upd_same, rfl, rfl, _, rfl⟩)) (fun f s6 q => ?_) fun _ _ z => z.elim
      have gone : ∀ σ6 H6, Inv (X.exIn (X.pn ++ pins) ea) [] σ6 H6 s6 → (∀ s7, Inv X pins (σ6.map fun _ => none) H6 s7 → SP X pins D f s7) → wpAny (model X.prog X.w) X.A (do bindName X.env n .none; unbindBehindTheSuite X.env n hpos) (fun _ s7 => SP X pins D f s7) X.xe s6 := by
        intro σ6 H6 J k
        obtain ⟨m, hn, _⟩ := J.loc
        exact wpAny_nameGoes hl hn (by rw [J.ok.kind]; rfl) fun h' m' z1 z2 => k _ ((J.unEx I.ok).lost z1 z2)
      cases f with
      | next => obtain ⟨σ6, H6, J, q⟩ := q; exact gone σ6 H6 J fun s7 J' => ⟨_, H6, J', q⟩
      | brk => obtain ⟨σ6, H6, J, q⟩ := q; exact gone σ6 H6 J fun s7 J' => ⟨_, H6, J', q⟩
      | cont => obtain ⟨σ6, H6, J, q⟩ := q; exact gone σ6 H6 J fun s7 J' => ⟨_, H6, J', q⟩
      | ret u => obtain ⟨v, σ6, H6, J, r, q⟩ := q; exact gone σ6 H6 J fun s7 J' => ⟨v, _, H6, J', r, q⟩
    rcases hv with ⟨sl, vs, he, h1⟩ | ⟨T0, hF, hT, hHT, hpT⟩
    · refine note_first hfr hlf hf he h1 fun h1' T g1 g2 g3 => flight_off (s := { s' with heap := h1' }) g2 fun h2 f1 f2 f3 => ?_
      refine go h2 T ([ea] ++ [T]) g1 f1 (g3.trans (f2.mono (fun _ z => z) fun b z => absurd z (by simp))) (by simp) (by simp) fun b hb => ?_
      rcases List.mem_append.mp hb with z | z
      · rw [show b = ea by simpa using z]; exact ⟨ours_at I1 he rfl hea hpn, hHe⟩
      · rw [show b = T by simpa using z]; exact ⟨ours_new I1 g1, I1.hok.fresh g1⟩
    · obtain ⟨sl, vs, oT, ts, he, hv1, tn, hTT, hd, h3⟩ := id hF
      refine note_next hfr hlf hf hF fun h1' T g1 g2 g3 => flight_off (s := { s' with heap := h1' }) g2 fun h2 f1 f2 f3 => ?_
      refine go h2 T ([T0, ea] ++ [T]) g1 f1 (g3.trans (f2.mono (fun _ z => z) fun b z => absurd z (by simp))) (by simp) (by simp) fun b hb => ?_
      rcases List.mem_append.mp hb with z | z
      · rcases List.mem_cons.mp z with z | z
        · rw [z]; exact ⟨ours_at I1 hTT hd hT hpT, hHT⟩
        · rw [show b = ea by simpa using z]; exact ⟨ours_at I1 he rfl hea hpn, hHe⟩
      · rw [show b = T by simpa using z]; exact ⟨ours_new I1 g1, I1.hok.fresh g1⟩
  · cases f with
    | next => obtain ⟨σ', H', I', q⟩ := q; exact wpAny_execs_nil ⟨σ', H', I'.untry I.ok, q⟩
    | brk => obtain ⟨σ', H', I', q⟩ := q; exact ⟨σ', H', I'.untry I.ok, q⟩
    | cont => obtain ⟨σ', H', I', q⟩ := q; exact ⟨σ', H', I'.untry I.ok, q⟩
    | ret u => obtain ⟨v, σ', H', I', r, q⟩ := q; exact ⟨v, σ', H', I'.untry I.ok, r, q⟩
end
end L2

set_option Elab.async false
set_option linter.all false
set_option maxRecDepth 100000
set_option maxHeartbeats 1000000
namespace L2
open PySem PySem.Spec PyProof.Rows PySem.W

structure Got (K : Frag) (H : Hp) (a C : Addr) (fs : List (Str × V)) : Prop where
  cl : XCl K C
  ex : ∃ d, Caught H a C (some d) ∧ H d = some (.xd fs)
theorem Caught.mono {H H' : Hp} {a C : Addr} {d : Option Addr} (c : Caught H a C d) (s : Same H H') : Caught H' a C d := by
  obtain ⟨o, e, r⟩ := c
  exact ⟨o, s _ _ e, r⟩
theorem Got.mono {K : Frag} {H H' : Hp} {a C : Addr} {fs : List (Str × V)} (g : Got K H a C fs) (s : Same H H') : Got K H' a C fs := by
  obtain ⟨d, c, e⟩ := g.ex
  exact ⟨g.cl, d, c.mono s, s _ _ e⟩
section
variable {X : Cx} {pins : List (Addr × Obj)} {σ : St} {H : Hp} {s : Shared} {a C : Addr} {fs : List (Str × V)}
theorem got_inst (I : Inv X pins σ H s) (g : Got X.K H a C fs) : ∃ (ox od : Obj) (mA : Str → Option Value), InstAt s.heap a ox C (some od) ∧ (∀ f, lookIn f od = some (mA f)) ∧ ∀ f, RelO (fs.lookup f) (mA f) := by
  obtain ⟨d, ⟨o, e, h1, h2, vs, h3⟩, ed⟩ := g.ex
  obtain ⟨e', _⟩ := (show ObjOk X.prog X.w H s.heap a (.frz o (.own a)) from I.hok a _ e)
  obtain ⟨mA, n, r⟩ := (show ObjOk X.prog X.w H s.heap d (.xd fs) from I.hok d _ ed)
  obtain ⟨od, ho, hl⟩ := lookIn_ns n
  obtain ⟨oc, odi, oda, osl⟩ := o
  dsimp only at h1 h2 h3
  subst h1 h2 h3
  exact ⟨_, od, mA, ⟨e', rfl, rfl, ho⟩, hl, r⟩
def isC : V → Bool | .ref _ => true | .ty _ => true | _ => false
def clsU : V → Value | .ref a => .ref a | .ty n => .type n | _ => .none
def rIsX (K : Frag) : List V → Hp → VK → Prop := fun xs H Q => ∃ a c C fs b, xs = [.ref a, c] ∧ Got K H a C fs ∧ isC c = true ∧ kitOne K (.ref C) (clsU c) = some b ∧ Q (.bl b) H
def rIsXT (K : Frag) : List V → Hp → VK → Prop := fun xs H Q => ∃ a p C fs ys b, xs = [.ref a, .ref p] ∧ H p = some (.tup ys) ∧ Got K H a C fs ∧ ys.all isC = true ∧ kitAny K (.ref C) (ys.map clsU) = some b ∧ Q (.bl b) H
def tAtX (K : Frag) (te : TE) (f : Str) : TE := fun σ H Q => te σ H fun x H1 => ∃ a C fs v, x = .ref a ∧ Got K H1 a C fs ∧ findIn K (.ref C) f = some none ∧ fs.lookup f = some v ∧ Q v H1
theorem pe_atX {K : Frag} {e : Expr} {te : TE} {f : Str} {pos : Pos} (hK : X.K = K) (he : PE X e te) (hb : attributeBase e f X.env (eval e X.env) = eval e X.env := by rfl) : PE X (.Attribute e f pos) (tAtX K te f) := by
  subst hK
  intro pins s σ H Q I h
  refine attr_of hb (thn (he pins s σ H _ I h) fun u s1 ⟨x, H1, I1, rx, a, C, fs, v, ex, g, n, l, q⟩ => ?_)
  subst ex
  obtain rfl : u = Value.ref a := rx
  obtain ⟨ox, od, mA, J, hl, hr⟩ := got_inst I1 g
  obtain ⟨u, hu, ru⟩ := RelO.some_of (v := v) (o := mA f) (by rw [← l]; exact hr f)
  exact exc_get I1.kIn J g.cl (findObj_own g.cl.hd n rfl (by rw [hl, hu])) (handed_of ru) ⟨v, H1, I1.tok _, ru, q⟩
end

section
variable {X : Cx}
def rIsInt : List V → Hp → VK → Prop := fun xs H Q => (∃ i, xs = [.int i, .ty "int"] ∧ Q (.bl true) H) ∨ (∃ i, xs = [.bl i, .ty "int"] ∧ Q (.bl true) H) ∨ (∃ i, xs = [.str i, .ty "int"] ∧ Q (.bl false) H) ∨ (xs = [.non, .ty "int"] ∧ Q (.bl false) H)
def rIsBool : List V → Hp → VK → Prop := fun xs H Q => (∃ i, xs = [.int i, .ty "bool"] ∧ Q (.bl false) H) ∨ (∃ i, xs = [.bl i, .ty "bool"] ∧ Q (.bl true) H) ∨ (∃ i, xs = [.str i, .ty "bool"] ∧ Q (.bl false) H) ∨ (xs = [.non, .ty "bool"] ∧ Q (.bl false) H)
def rIsStr : List V → Hp → VK → Prop := fun xs H Q => (∃ i, xs = [.int i, .ty "str"] ∧ Q (.bl false) H) ∨ (∃ i, xs = [.bl i, .ty "str"] ∧ Q (.bl false) H) ∨ (∃ i, xs = [.str i, .ty "str"] ∧ Q (.bl true) H) ∨ (xs = [.non, .ty "str"] ∧ Q (.bl false) H)
end
end L2

set_option Elab.async false
set_option linter.all false
set_option maxRecDepth 100000
set_option maxHeartbeats 1000000
namespace L2
open PySem PySem.Spec PyProof.Rows PySem.W
section
variable {X : Cx} {k j : Nat} {x : Str} {ps : List Str} {sp : Sp} {p pos : Pos} {e : Expr} {es : List Expr} {t : TA} {a : Addr}
theorem passN {P : Program} {w : World} : Passes (CXE P w) X E0 := fun _ _ _ _ _ _ _ h => by
  obtain ⟨_, _, _, _, _, _, _, _, _, _, _, _, _, _, _, z⟩ := h
  exact z.elim

theorem pe_callN (F : OkX X.prog X.w X.K X.mg X.base k x ps sp) (hr : Room j X.A) (hk : k ≤ j) (ha : PA X (e :: es) t) (hg : Gl X x := by rfl) (hdb : (x == ("__debug__" : Str)) = false := by decide)
    (he : starEach (e :: es) X.env = (false, eval e X.env) :: starEach es X.env := by rfl) (hpl : (backTo pos (starEach es X.env)).any (·.1) = false := by rfl) : PE X (.Call (.Name x p) (e :: es) [] pos) (tCall sp [] E0 t) := by
  obtain ⟨f, fd, kp, b, m, G⟩ := F.ex
  exact pe_call G (hr.mono hk) hg m kp b .nil passN ha hdb he hpl

end
structure Ini (K : Frag) (C : Addr) (qual : Str) (st : Stmt) (ps : List Str) : Prop where
  ex : ∃ (fI : Addr) (fd : FuncData) (oI : Obj), xInit K C = some (some (.ref fI)) ∧ K.lookup fI = some oI ∧ oI.cls = .type "function" ∧ Fun K "__init__" qual st fI fd ∧ Binds K fd ps []
theorem ini_mk {K : Frag} {C : Addr} {qual : Str} {st : Stmt} {ps : List Str} {f : Addr} {od an : Option Addr} {osl : Array (Option Value)} {kV doc pm cdv ct : Value}
    (b : ∀ (kV doc pm : Value) (an : Option Addr) (cdv ct : Value) (us : List Value), us.length = ps.length → bindArgs (fnOf "__init__" qual (defArgs st) (defBody st) (defScope st) .none kV doc pm an cdv ct) ⟨us, []⟩ = pure (ps.zip us))
    (a : xInit K C = some (some (.ref f))) (l : K.lookup f = some ⟨.type "function", od, .func (fnOf "__init__" qual (defArgs st) (defBody st) (defScope st) .none kV doc pm an cdv ct), osl⟩)
    (c : codeIn K cdv qual = true) (k : keepIn K (.ref f) = true) : Ini K C qual st ps :=
  ⟨f, _, _, a, l, rfl, fun_mk l c k, (fun_mk l c k).binds b⟩
end L2

set_option Elab.async false
set_option linter.all false
set_option maxRecDepth 100000
set_option maxHeartbeats 1000000
namespace L2
open PySem PySem.Spec PySem.Calls PyProof.Rows PySem.W
section
variable {X : Cx}

def rInsert : V → List V → Hp → VK → Prop := fun x vs H Q => ∃ l xs i y, x = .ref l ∧ vs = [.int i, y] ∧ H l = some (.lst xs) ∧ 0 ≤ i ∧ i ≤ xs.length ∧ xs.length < sizeLine ∧ Q .non (upd H l (.lst (xs.take i.toNat ++ y :: xs.drop i.toNat)))
def eqS (xs ys : List V) : Bool := (List.range (min xs.length ys.length)).all (fun j => eqV (xs.getD j .non) (ys.getD j .non)) && xs.length == ys.length
def rEqS (K : PySem.W.Frag) : R2 := fun x y H Q => ∃ a b xs ys, x = .ref a ∧ y = .ref b ∧ ((SqL K H a xs ∧ SqL K H b ys) ∨ (SqT K H a xs ∧ SqT K H b ys)) ∧ xs.all flatV = true ∧ ys.all flatV = true ∧ Q (.bl (eqS xs ys)) H
def rNeS (K : PySem.W.Frag) : R2 := fun x y H Q => ∃ a b xs ys, x = .ref a ∧ y = .ref b ∧ ((SqL K H a xs ∧ SqL K H b ys) ∨ (SqT K H a xs ∧ SqT K H b ys)) ∧ xs.all flatV = true ∧ ys.all flatV = true ∧ Q (.bl (!eqS xs ys)) H
theorem eqs_at {A : Around} {s : Shared} {xs ys : List V} {us vs : List Value} (r1 : Vals xs us) (r2 : Vals ys vs) (f1 : xs.all flatV = true) (f2 : ys.all flatV = true) :
    ∀ j (h1 : j < us.toArray.size) (h2 : j < vs.toArray.size), SeqAt.EqAt A s us.toArray[j] vs.toArray[j] (eqV (xs.getD j .non) (ys.getD j .non)) := by
  intro j h1 h2
  rw [List.size_toArray] at h1 h2
  have l1 := r1.length
  have l2 := r2.length
  have e1 : xs[j]? = some xs[j] := List.getElem?_eq_getElem (by omega)
  have e2 : ys[j]? = some ys[j] := List.getElem?_eq_getElem (by omega)
  obtain ⟨u, hu, ru⟩ := r1.get e1
  obtain ⟨v, hv, rv⟩ := r2.get e2
  rw [List.getElem?_eq_getElem h1] at hu
  rw [List.getElem?_eq_getElem h2] at hv
  rw [List.getElem_toArray, List.getElem_toArray, Option.some.inj hu, Option.some.inj hv, List.getD_eq_getElem?_getD, List.getD_eq_getElem?_getD, e1, e2]
  exact eqAt_V ru rv (List.all_eq_true.mp f1 _ (List.getElem_mem _)) (List.all_eq_true.mp f2 _ (List.getElem_mem _))
theorem op_eqS (hu : X.A.units < cLine) : OpR X (compareOp .Eq) (rEqS X.K) := by
  intro pins s σ H x y v u Q I rx ry h
  obtain ⟨a, b, xs, ys, rfl, rfl, hq, f1, f2, q⟩ := h
  cases rx
  cases ry
  rcases hq with ⟨ha, hb⟩ | ⟨ha, hb⟩
  · obtain ⟨its, r1, p1, _⟩ := I.list ha
    obtain ⟨its2, r2, p2, _⟩ := I.list hb
    have l1 := r1.length
    have l2 := r2.length
    by_cases hl : xs.length = ys.length
    · refine SeqAt.eq_listAt p1.isList p2.isList (by simp; omega) hu (eqs_at r1 r2 f1 f2) ⟨.bl _, H, I, rfl, ?_⟩
      have : eqS xs ys = (List.range its.toArray.size).all (fun j => eqV (xs.getD j .non) (ys.getD j .non)) := by
        unfold eqS
        rw [List.size_toArray, ← l1, hl, Nat.min_self]
        simp
      rw [← this]
      exact q
    · refine SeqAt.eq_list_lengthsAt p1.isList p2.isList (by simp; omega) hu ⟨.bl _, H, I, rfl, ?_⟩
      have : eqS xs ys = false := by
        unfold eqS
        rw [show (xs.length == ys.length) = false by simp [hl], Bool.and_false]
      rw [← this]
      exact q
  · obtain ⟨its, r1, p1, _⟩ := I.tuple ha
    obtain ⟨its2, r2, p2, _⟩ := I.tuple hb
    have l1 := r1.length
    have l2 := r2.length
    refine SeqAt.eq_tupleAt p1 p2 hu (eqs_at r1 r2 f1 f2) ⟨.bl _, H, I, rfl, ?_⟩
    rw [List.size_toArray, List.size_toArray, ← l1, ← l2]
    exact q
theorem op_eqSK {K : Frag} (hK : X.K = K) (hu : X.A.units < cLine) : OpR X (compareOp .Eq) (rEqS K) := by subst hK; exact op_eqS hu
theorem hu_lt {A : Around} {k : Nat} (hr : Room k A) : A.units < cLine := Nat.lt_of_succ_lt (hu_of hr)
end
end L2

set_option Elab.async false
set_option linter.all false
set_option maxRecDepth 100000
set_option maxHeartbeats 1000000
namespace L2
open PySem PySem.W

end L2

set_option Elab.async false
set_option linter.all false
set_option maxRecDepth 100000
set_option maxHeartbeats 1000000
namespace L2
open PySem PySem.Spec PySem.Calls PyProof.Rows PySem.W
section
variable {X : Cx} {pins : List (Addr × Obj)} {σ : St} {H : Hp} {s : Shared} {h' : Heap}

theorem Inv.turned2 {t' : Nat} {e it : Addr} (I : Inv X pins σ H s) (k : ∀ b o, b ≠ e → b ≠ it → s.heap.get? b = some o → h'.get? b = some o) (fe : FpOk X pins H e) (fi : FpOk X pins H it) :
    Inv X pins σ H { s with heap := h', toks := t' } := by
  obtain ⟨e0, e1, _, e3, e4, e5⟩ := fe
  obtain ⟨i0, i1, _, i3, i4, i5⟩ := fi
  have hk : ∀ b o, b ∉ [e, it] → s.heap.get? b = some o → h'.get? b = some o := fun b o hb q => k b o (fun z => hb (by simp [z])) (fun z => hb (by simp [z])) q
  have nn : ∀ b u, H b = some u → b ∉ [e, it] := fun b u q z => by
    rcases List.mem_cons.mp z with z | z
    · rw [z, e0] at q; cases q
    · rw [List.mem_singleton.mp z, i0] at q; cases q
  refine I.step (g' := s.gens) (d' := s.drawn) (ch := [e, it]) ?_ (fun b o _ _ hc q _ => hk b o hc q) (fun b o _ _ hc q _ => ⟨o.slots, hk b o hc q⟩) (fun _ _ _ _ n => n) (fun b o hc q => ⟨o, hk b o hc q⟩)
    (fun _ _ q => q) (fun _ _ _ q => q) (fun b ps q => ⟨#[], by rw [q]; simp⟩) ?_ ?_ I.bare
  · intro b hb
    rcases List.mem_cons.mp hb with z | z
    · rw [z]; exact ⟨e3, e1, e4, e5⟩
    · rw [List.mem_singleton.mp z]; exact ⟨i3, i1, i4, i5⟩
  · intro m hm
    obtain ⟨o, es, ep, ho, r⟩ := hm
    exact ⟨o, es, ep, k _ o (Ne.symm e1) (Ne.symm i1) ho, r⟩
  · intro b u q
    refine (I.hok b u q).stay (fun c v hc z => hk c v ?_ z) (fun _ z => z) fun _ _ z => z
    rcases hc with z' | z'
    · rw [z']; exact nn b u q
    · exact nn c _ z'
end

def Ite (go : Nat → Hp → Prop) (yv : Nat → Hp → V → Prop) (stop : Nat → Hp → Prop) : It := ⟨go, fun i H x H' => ∃ p v, H p = none ∧ yv i H v ∧ x = .ref p ∧ H' = upd H p (.tup [.int i, v]), stop⟩
theorem turn_enum {P : Program} {w : World} {K : PySem.W.Frag} {elts : List Expr} {ek : Nat} {epos : Pos} {e it : Addr} {go : Nat → Hp → Prop} {yv : Nat → Hp → V → Prop} {stop : Nat → Hp → Prop} {tn : Nat → Heap → Prop} (hne : e ≠ it)
    (hobj : ∀ i h, tn i h → ∃ o, h.get? it = some o ∧ ∀ v, o.data ≠ .cell v)
    (hkeep : ∀ i h h', tn i h → (∀ o, h.get? it = some o → h'.get? it = some o) → tn i h')
    (hitem : ∀ (X : Cx), X.prog = P → X.w = w → X.K = K → X.calm = true → ∀ (i : Nat) (pins : List (Addr × Obj)) (s : Shared) (σ : St) (H : Hp), Inv X pins σ H s → tn i s.heap → go i H → (∃ old, IsEnum s.heap e it i old) →
      ∃ fp n Pd St, Draws P w X.A.in1 it fp n Pd St ∧ St i s.heap ∧ i < n ∧ e ∉ fp ∧ (∀ h, St (i + 1) h → tn (i + 1) h) ∧ ∀ x, Pd i x → ∃ v, RelV v x ∧ yv i H v)
    (hdone : ∀ (X : Cx), X.prog = P → X.w = w → X.K = K → X.calm = true → ∀ (i : Nat) (pins : List (Addr × Obj)) (s : Shared) (σ : St) (H : Hp), Inv X pins σ H s → tn i s.heap → stop i H →
      ∃ fp n Pd St, Draws P w X.A.in1 it fp n Pd St ∧ St n s.heap) :
    Turn P w K (.Tuple elts ek epos) (Ite go yv stop) [e, it] e (fun i h => (∃ old, IsEnum h e it i old) ∧ tn i h) where
  mem := by simp
  obj := fun i h st b hb => by
    rcases List.mem_cons.mp hb with z | z
    · obtain ⟨⟨old, q⟩, _⟩ := st
      rw [z]
      exact ⟨_, q, fun v z => nomatch z⟩
    · rw [List.mem_singleton.mp z]
      exact hobj i h st.2
  keep := fun i h h' st k => by
    obtain ⟨⟨old, q⟩, st⟩ := st
    exact ⟨⟨old, k e (by simp) _ q⟩, hkeep i h h' st (k it (by simp))⟩
  item := by
    intro X hP hw hK hc i pins s σ H E I hf st hg
    obtain ⟨⟨old, q⟩, st⟩ := st
    obtain ⟨fp, n, Pd, St, D, hs, hlt, hef, hst, hv⟩ := hitem X hP hw hK hc i pins s σ H I st hg ⟨old, q⟩
    refine wpAny_pyNext_enum_itemD D q hs hlt hne hef fun x h1 tk hx ho hs1 hT hsz hk => ⟨_, rfl, ?_⟩
    obtain ⟨v, rv, yv'⟩ := hv x hx
    have helt : e < s.heap.objs.size := Heap.lt_size q
    refine wpAny_letOwnedTupleGo_enum ho fun h2 he2 hs2 => ?_
    have hTe : s.heap.objs.size ≠ e := Nat.ne_of_gt helt
    have hT2 : h2.get? s.heap.objs.size = some { cls := .type "tuple", data := .seq #[.int i tk, x] } := (hs2.2 _ hTe).trans hT
    have fe := hf e (by simp)
    have fi := hf it (by simp)
    have fresh : H s.heap.objs.size = none := I.hok.fresh (Nat.le_refl _)
    have hit : s.heap.objs.size ≠ it := by
      obtain ⟨o, z⟩ := D.live _ _ hs
      exact Nat.ne_of_gt (Heap.lt_size z)
    -- the pair, laid ahead of the turn
    have I0 := I.laid (t' := s.toks) (a := s.heap.objs.size) (o := .tup [.int i, v]) (h' := s.heap.push { cls := .type "tuple", data := .seq #[.int i tk, x] }) (fun b o z => Heap.get?_push_of_some _ z) (Nat.le_refl _) (by
      refine ⟨by show 2 ≤ sizeLine; decide, [.int i tk, x], .cons ⟨tk, rfl⟩ (.cons rv .nil), ?_⟩
      exact ⟨_, Heap.get?_push_size _ rfl, rfl, _, rfl⟩)
    have fe0 : FpOk X pins (upd H s.heap.objs.size (.tup [.int i, v])) e := ⟨by rw [upd_ne (Ne.symm hTe)]; exact fe.1, fe.2⟩
    have fi0 : FpOk X pins (upd H s.heap.objs.size (.tup [.int i, v])) it := ⟨by rw [upd_ne (Ne.symm hit)]; exact fi.1, fi.2⟩
    have I2 := I0.turned2 (h' := h2) (t' := tk + 1) (e := e) (it := it) (fun b o hbe hbi z => by
      by_cases hb : b = s.heap.objs.size
      · rw [hb] at z ⊢
        have z' : some ({ cls := .type "tuple", data := .seq #[.int i tk, x] } : Obj) = some o := (Heap.get?_push_size _ rfl).symm.trans z
        rw [hT2]; exact z'
      · have z' : s.heap.get? b = some o := by
          have z2 := z
          rw [Heap.get?_push_ne _ _ _ hb] at z2
          exact z2
        exact (hs2.2 b hbe).trans (hk b o hbe hbi z')) fe0 fi0
    refine ⟨.ref s.heap.objs.size, upd H s.heap.objs.size (.tup [.int i, v]), I2, rfl, ⟨_, v, fresh, yv', rfl, rfl⟩, ⟨⟨_, he2⟩, ?_⟩, fun b hb => ?_⟩
    · refine hkeep _ _ _ (hst h1 hs1) fun o z => (hs2.2 it (Ne.symm hne)).trans z
    · rcases List.mem_cons.mp hb with z | z
      · rw [z]; exact fe0.1
      · rw [List.mem_singleton.mp z]; exact fi0.1
  done := by
    intro X hP hw hK hc i pins s σ H E I hf st hg
    obtain ⟨⟨old, q⟩, st⟩ := st
    obtain ⟨fp, n, Pd, St, D, hs⟩ := hdone X hP hw hK hc i pins s σ H I st hg
    have fi := hf it (by simp)
    refine wpAny_pyNext_enum_endD D q hs fun h1 hx => ⟨rfl, I.turned (t' := s.toks) (fun b o hb z => hx b o hb z) fi.1 fi.2.1 fi.2.2.2.1 fi.2.2.2.2.1 fi.2.2.2.2.2⟩
  self := fun A i s Q E st h => by
    obtain ⟨⟨old, q⟩, _⟩ := st
    exact wpAny_pyIter_enum q h

section
variable {X : Cx}
def goS (x : Str) : Nat → Hp → Prop := fun i _ => i < x.cps.size
def yvS (x : Str) : Nat → Hp → V → Prop := fun i _ v => ∃ c, x.cps[i]? = some c ∧ v = .str ⟨#[c]⟩
def stS (x : Str) : Nat → Hp → Prop := fun i _ => x.cps.size ≤ i
theorem turn_enumS {P : Program} {w : World} {K : PySem.W.Frag} {elts : List Expr} {ek : Nat} {epos : Pos} {e it : Addr} (hne : e ≠ it) (x : Str) (t : Tok) :
    Turn P w K (.Tuple elts ek epos) (Ite (goS x) (yvS x) (stS x)) [e, it] e (fun i h => (∃ old, IsEnum h e it i old) ∧ (h.IsStrIter it (strIterType x) x t i ∧ i ≤ x.cps.size)) := by
  have dr : ∀ A : Around, A.handled = none → Draws P w A it [it] x.cps.size (fun i v => ∃ c u, x.cps[i]? = some c ∧ v = .str ⟨#[c]⟩ u) (fun i h => h.IsStrIter it (strIterType x) x t i) := fun A hA => by
    unfold strIterType
    cases ha : x.cps.all (· < 128)
    · exact Draws.strWide hA it x t
    · exact Draws.strAscii hA it x t
  refine turn_enum hne ?_ ?_ ?_ ?_
  · intro i h st
    obtain ⟨o, ho, _, hd⟩ := st.1
    exact ⟨o, ho, fun v z => by rw [hd] at z; cases z⟩
  · intro i h h' st k
    obtain ⟨⟨o, ho, r⟩, hl⟩ := st
    exact ⟨⟨o, k o ho, r⟩, hl⟩
  · intro X hP hw hK hc i pins s σ H I st hg he
    refine ⟨[it], _, _, _, dr X.A.in1 (I.ok.hd hc), st.1, hg, by simp [hne], fun h z => ⟨z, hg⟩, fun v hv => ?_⟩
    obtain ⟨c, u, hcu, rfl⟩ := hv
    exact ⟨.str ⟨#[c]⟩, ⟨u, rfl⟩, c, hcu, rfl⟩
  · intro X hP hw hK hc i pins s σ H I st hg
    have hi : i = x.cps.size := Nat.le_antisymm st.2 hg
    subst hi
    exact ⟨[it], _, _, _, dr X.A.in1 (I.ok.hd hc), st.1⟩
def iEnumS (ta : TA) : TI := fun σ H R => ta σ H fun vs H1 => ∃ z, vs = [.str z] ∧ R (Ite (goS z) (yvS z) (stS z)) H1
theorem pi_enumS {a : Expr} {ta : TA} {p pos : Pos} {elts : List Expr} {ek : Nat} {epos : Pos} (hg : Gl X "enumerate") (hm : X.mg "enumerate" = none) (ha : PA X [a] ta) (hs : starEach [a] X.env = [(false, eval a X.env)] := by rfl) :
    PI X (.Tuple elts ek epos) (.Call (.Name "enumerate" p) [a] [] pos) (iEnumS ta) := by
  intro pins s σ H R I h
  refine Call_ (ld_blt I hg hm boot_enumerate (PyProof.Rows.callWith_type1 (thn (ha pos pins s σ H _ I h) fun us s1 ⟨vs, H1, I1, r1, q1⟩ => ?_) hs rfl))
  obtain ⟨z, e, q⟩ := q1
  subst e
  obtain ⟨u, rfl, t, rfl⟩ := r1.one
  refine call_enumerate_str fun h' he hit hsz hk => wpAny_pyIter_enum he ?_
  have hlt : s1.heap.objs.size ≤ s1.heap.objs.size + 1 := Nat.le_succ _
  refine ⟨s1.heap.objs.size + 1, [s1.heap.objs.size + 1, s1.heap.objs.size], _, _, H1, rfl, I1.kept (t' := s1.toks) hk, turn_enumS (Nat.succ_ne_self _) z t, ⟨⟨_, he⟩, hit, Nat.zero_le _⟩, fun b hb => ?_, q⟩
  have hb' : s1.heap.objs.size ≤ b := by
    rcases List.mem_cons.mp hb with z | z
    · rw [z]; exact hlt
    · rw [List.mem_singleton.mp z]; exact Nat.le_refl _
  exact I1.fpOk hb' (I1.hok.fresh hb')

theorem fb_enumS {K : PySem.W.Frag} {l : List Nat} {a b : Nat} {tb : TS} {D : Ends} {σ : St} {H : Hp} (Pv : Nat → St → Hp → Prop) (h0 : Pv 0 σ H)
    (hs : ∀ i c σ H, l[i]? = some c → Pv i σ H → ∀ p, H p = none → tb { D with nx := Pv (i + 1), ct := Pv (i + 1), bk := D.nx } ((σ.set a (some (.int i))).set b (some (.str (S [c])))) (upd H p (.tup [.int i, .str (S [c])])))
    (hd : ∀ σ H, Pv l.length σ H → D.nx σ H) : forBody (Ite (goS (S l)) (yvS (S l)) (stS (S l))) (gTup K 2 (gCons (gName a) (gCons (gName b) gNil))) tb D σ H := by
  refine ⟨fun i m σ H => m = l.length - i ∧ i ≤ l.length ∧ Pv i σ H, ⟨l.length, by simp, Nat.zero_le _, h0⟩, ?_⟩
  rintro i m σ H ⟨rfl, hi, p⟩
  by_cases hlt : i < l.length
  · refine .inr ⟨by show i < (S l).cps.size; rw [S_size]; exact hlt, Pv (i + 1), fun σ' H' p' => ⟨l.length - (i + 1), by omega, rfl, hlt, p'⟩, fun x H' y => ?_⟩
    obtain ⟨q, v, hq, ⟨c, hc, rfl⟩, rfl, rfl⟩ := y
    rw [S_get] at hc
    exact ⟨q, _, rfl, SqT.of upd_same, rfl, _, _, rfl, _, _, rfl, rfl, hs i c σ H hc p q hq⟩
  · have e : i = l.length := by omega
    subst e
    exact .inl ⟨by show (S l).cps.size ≤ l.length; rw [S_size]; exact Nat.le_refl _, hd σ H p⟩
end
end L2

set_option Elab.async false
set_option linter.all false
set_option maxRecDepth 100000
set_option maxHeartbeats 1000000
namespace L2
open PySem PySem.Spec PySem.Calls PyProof.Rows PySem.W

structure RoomH (k : Nat) (A : Around) : Prop where
  dp : A.depth + 3 * k + 5 < recursionLimit
  un : A.units + 16 * k + 200 < cLine
theorem RoomH.mono {j k : Nat} {A : Around} (r : RoomH k A) (h : j ≤ k) : RoomH j A := ⟨by have := r.dp; omega, by have := r.un; omega⟩
theorem RoomH.deeper {k : Nat} {A : Around} (r : RoomH (k + 1) A) (env : Env) : RoomH k (A.deeper env) :=
  ⟨by have := r.dp; show A.depth + 1 + 3 * k + 5 < _; omega, by have := r.un; show A.units + 3 + 16 * k + 200 < _; omega⟩
theorem Room.marked {k : Nat} {A : Around} (r : Room k A) (v : Option Value) : RoomH k (A.mark v) := ⟨by have := r.dp; exact this, by have := r.un; exact this⟩
abbrev Cx.hot (X : Cx) : Cx := { X with calm := false }
section
variable {P : Program} {w : World} {K : PySem.W.Frag} {mg : Str → Option Value} {base : Heap}
end
section
variable {X : Cx} {k j : Nat} {x : Str} {ps : List Str} {sp : Sp} {p pos : Pos} {e : Expr} {es : List Expr} {t : TA}
end
end L2

set_option Elab.async false
set_option linter.all false
set_option maxRecDepth 100000
set_option maxHeartbeats 1000000
namespace L2
open PySem PySem.Spec PyProof.Rows


def lcBody2 (K : PySem.W.Frag) (J : It) (tt : TT) (te : TE) (σ : St) (H1 : Hp) (Q : VK) : Prop := ∀ D, H1 D = none → ∃ W : Nat → Nat → List V → Hp → Prop, (∃ m, W 0 m [] (upd H1 D (.lst []))) ∧ ∀ i m ys H', W i m ys H' → H' D = some (.lst ys) ∧
  ((J.stop i H' ∧ Q (.ref D) H') ∨ (J.go i H' ∧ ∀ v H2, J.yld i H' v H2 → ∃ pa u1 u2, v = .ref pa ∧ SqT K H2 pa [u1, u2] ∧ tt (some u1 :: some u2 :: σ) H2 fun b H3 =>
    if b = true then te (some u1 :: some u2 :: σ) H3 fun y H4 => H4 D = some (.lst ys) ∧ ys.length < sizeLine ∧ ∃ m', m' < m ∧ W (i + 1) m' (ys ++ [y]) (upd H4 D (.lst (ys ++ [y]))) else ∃ m', m' < m ∧ W (i + 1) m' ys H3))
def tLC2 (K : PySem.W.Frag) (wi : TI) (tt : TT) (te : TE) : TE := fun σ H Q => wi σ H fun J H1 => lcBody2 K J tt te σ H1 Q


section
variable {X : Cx} {elt iter : Expr} {x x2 : Str} {px py pt pos : Pos} {kt : Nat} {ifs : List Expr} {scope : Scope} {wi : TI} {tt : TT} {te : TE}

end
end L2

set_option Elab.async false
set_option linter.all false
set_option maxRecDepth 100000
set_option maxHeartbeats 1000000
namespace L2
open PySem PySem.Spec PySem.Calls PyProof.Rows PySem.W

def goL (K : Frag) (l : Addr) : Nat → Hp → Prop := fun i H => ∃ xs x, SqL K H l xs ∧ xs[i]? = some x
def yvL (K : Frag) (l : Addr) : Nat → Hp → V → Prop := fun i H v => ∀ xs, SqL K H l xs → xs[i]? = some v
def stL0 (K : Frag) (l : Addr) : Nat → Hp → Prop := fun i H => ∃ xs, SqL K H l xs ∧ xs.length = i
section
variable {X : Cx}
def iEnumL (K : Frag) (ta : TA) : TI := fun σ H R => ta σ H fun vs H1 => ∃ l xs, vs = [.ref l] ∧ SqL K H1 l xs ∧ R (Ite (goL K l) (yvL K l) (stL0 K l)) H1
end

def Pairs (H : Hp) (a : Addr) (ps : List (List Nat × List Nat)) : Prop := ∃ as : List Addr, H a = some (.lst (as.map V.ref)) ∧ as.length = ps.length ∧ ∀ (i : Nat) p, ps[i]? = some p → ∃ b, as[i]? = some b ∧ H b = some (.tup [.str (S p.1), .str (S p.2)])
theorem Pairs.mono {H H' : Hp} {a : Addr} {ps : List (List Nat × List Nat)} (h : Pairs H a ps) (g : Same H H') : Pairs H' a ps := by
  obtain ⟨as, h1, h2, h3⟩ := h
  refine ⟨as, g _ _ h1, h2, fun i p e => ?_⟩
  obtain ⟨b, h4, h5⟩ := h3 i p e
  exact ⟨b, h4, g _ _ h5⟩

theorem tLC2_eq (K : Frag) (wi : TI) (tt : TT) (te : TE) : tLC2 K wi tt te = fun σ H Q => wi σ H fun J H1 => lcBody2 K J tt te σ H1 Q := rfl
end L2

set_option Elab.async false
set_option linter.all false
set_option maxRecDepth 100000
set_option maxHeartbeats 1000000
namespace L2
open PySem PySem.Spec PySem.Calls PyProof.Rows PySem.W
section
variable {X : Cx}

def rListS : List V → Hp → VK → Prop := fun xs H Q => ∃ l, xs = [.str (S l)] ∧ l.length ≤ 1000000 ∧ ∀ p, H p = none → Q (.ref p) (upd H p (.lst (l.map fun c => .str (S [c]))))
def NoT (K : Frag) (H : Hp) (x : V) : Prop := x = .non ∨ (∃ b, x = .bl b) ∨ (∃ i, x = .int i) ∨ (∃ a xs, x = .ref a ∧ H a = some (.lst xs)) ∨ (∃ a xs, x = .ref a ∧ H a = some (.tup xs)) ∨ ∃ a kvs, x = .ref a ∧ H a = some (.dK kvs)
theorem NoT.mono {K : Frag} {H H' : Hp} {x : V} (h : NoT K H x) (g : Same H H') : NoT K H' x := by
  rcases h with h | h | h | ⟨a, xs, h, e⟩ | ⟨a, xs, h, e⟩ | ⟨a, xs, h, e⟩
  · exact .inl h
  · exact .inr (.inl h)
  · exact .inr (.inr (.inl h))
  · exact .inr (.inr (.inr (.inl ⟨a, xs, h, g _ _ e⟩)))
  · exact .inr (.inr (.inr (.inr (.inl ⟨a, xs, h, g _ _ e⟩))))
  · exact .inr (.inr (.inr (.inr (.inr ⟨a, xs, h, g _ _ e⟩))))
def rIsStrA (K : Frag) : List V → Hp → VK → Prop := fun xs H Q => ∃ x, xs = [x, .ty "str"] ∧ ((∃ i, x = .str i ∧ Q (.bl true) H) ∨ (NoT K H x ∧ Q (.bl false) H))
theorem call_isstrA : CallR X (.builtin "isinstance") (rIsStrA X.K) := by
  intro pins s σ H xs us Q I r h
  obtain ⟨x, rfl, h⟩ := h
  rcases h with ⟨i, rfl, q⟩ | ⟨h, q⟩
  · exact call_isinst pins s σ H _ us Q I r ⟨_, _, _, _, rfl, .str i, rfl, q⟩
  · rcases h with rfl | ⟨i, rfl⟩ | ⟨i, rfl⟩ | ⟨a, xs, rfl, e⟩ | ⟨a, xs, rfl, e⟩ | ⟨a, xs, rfl, e⟩
    · exact call_isinst pins s σ H _ us Q I r ⟨_, _, _, _, rfl, .non, rfl, q⟩
    · exact call_isinst pins s σ H _ us Q I r ⟨_, _, _, _, rfl, .bl i, rfl, q⟩
    · exact call_isinst pins s σ H _ us Q I r ⟨_, _, _, _, rfl, .int i, rfl, q⟩
    · exact call_isinst pins s σ H _ us Q I r ⟨_, _, _, _, rfl, .lst e, rfl, q⟩
    · exact call_isinst pins s σ H _ us Q I r ⟨_, _, _, _, rfl, .tup e, rfl, q⟩
    · exact call_isinst pins s σ H _ us Q I r ⟨_, _, _, _, rfl, .dK e, rfl, q⟩
theorem call_isstrAK {K : Frag} (hK : X.K = K) : CallR X (.builtin "isinstance") (rIsStrA K) := by subst hK; exact call_isstrA


theorem op_inQK {K : Frag} (hK : X.K = K) : OpR X (compareOp .In) (rIn K false) := by subst hK; exact op_in_seq
theorem pi_tupK {K : Frag} {tg l : Expr} {tl : TE} (hK : X.K = K) (hl : PE X l tl) : PI X tg l (iTup K tl) := by subst hK; exact pi_tup hl
theorem fb_tup {K : Frag} {a : Addr} {xs : List V} {g : TG} {tb : TS} {D : Ends} {σ : L2.St} {H : Hp} (Pv : Nat → L2.St → Hp → Prop) (h0 : Pv 0 σ H) (hl : ∀ i σ H, i ≤ xs.length → Pv i σ H → SqT K H a xs)
    (hs : ∀ i x σ H, xs[i]? = some x → Pv i σ H → g x σ H fun σ2 H2 => tb { D with nx := Pv (i + 1), ct := Pv (i + 1), bk := D.nx } σ2 H2) (hd : ∀ σ H, Pv xs.length σ H → D.nx σ H) : forBody (Itt K a) g tb D σ H := for_tup Pv h0 hl hs hd

def tD0 : TE := fun _ H Q => ∀ p, H p = none → Q (.ref p) (upd H p (.dK []))
end
end L2

set_option Elab.async false
set_option linter.all false
set_option maxRecDepth 100000
set_option maxHeartbeats 1000000
namespace L2
open PySem PySem.Spec PySem.Calls PyProof.Rows PySem.W

inductive Dat where
  | fl (v : V)
  | tp (xs : List Dat)
  | ls (xs : List Dat)
mutual
def IsDt (H : Hp) : Dat → V → Prop
  | .fl x, v => v = x ∧ flatV x = true
  | .tp ds, v => ∃ a vs, v = .ref a ∧ H a = some (.tup vs) ∧ IsDs H ds vs
  | .ls ds, v => ∃ a vs, v = .ref a ∧ H a = some (.lst vs) ∧ IsDs H ds vs
def IsDs (H : Hp) : List Dat → List V → Prop
  | [], vs => vs = []
  | d :: ds, vs => ∃ v r, vs = v :: r ∧ IsDt H d v ∧ IsDs H ds r
end
mutual
def eqD : Dat → Dat → Bool
  | .fl x, .fl y => eqV x y
  | .tp xs, .tp ys => eqDs xs ys
  | .ls xs, .ls ys => eqDs xs ys
  | .fl _, .tp _ => false
  | .fl _, .ls _ => false
  | .tp _, .fl _ => false
  | .tp _, .ls _ => false
  | .ls _, .fl _ => false
  | .ls _, .tp _ => false
def eqDs : List Dat → List Dat → Bool
  | [], [] => true
  | x :: xs, y :: ys => eqD x y && eqDs xs ys
  | [], _ :: _ => false
  | _ :: _, [] => false
end
mutual
def depD : Dat → Nat
  | .fl _ => 0
  | .tp xs => depDs xs + 1
  | .ls xs => depDs xs + 1
def depDs : List Dat → Nat
  | [] => 0
  | d :: ds => max (depD d) (depDs ds)
end
mutual
theorem IsDt.mono {H H' : Hp} (g : Same H H') : ∀ {d : Dat} {v : V}, IsDt H d v → IsDt H' d v
  | .fl x, v, h => by simp only [IsDt] at h ⊢; exact h
  | .tp ds, v, h => by
    simp only [IsDt] at h ⊢
    obtain ⟨a, vs, e, h1, h2⟩ := h
    exact ⟨a, vs, e, g _ _ h1, IsDs.mono g h2⟩
  | .ls ds, v, h => by
    simp only [IsDt] at h ⊢
    obtain ⟨a, vs, e, h1, h2⟩ := h
    exact ⟨a, vs, e, g _ _ h1, IsDs.mono g h2⟩
theorem IsDs.mono {H H' : Hp} (g : Same H H') : ∀ {ds : List Dat} {vs : List V}, IsDs H ds vs → IsDs H' ds vs
  | [], vs, h => by simp only [IsDs] at h ⊢; exact h
  | d :: ds, vs, h => by
    simp only [IsDs] at h ⊢
    obtain ⟨v, r, e, h1, h2⟩ := h
    exact ⟨v, r, e, IsDt.mono g h1, IsDs.mono g h2⟩
end
theorem IsDs.len {H : Hp} : ∀ {ds : List Dat} {vs : List V}, IsDs H ds vs → ds.length = vs.length
  | [], vs, h => by simp only [IsDs] at h; subst h; rfl
  | d :: ds, vs, h => by
    simp only [IsDs] at h
    obtain ⟨v, r, e, h1, h2⟩ := h
    rw [e, List.length_cons, List.length_cons, IsDs.len h2]
theorem IsDs.snoc {H : Hp} {d : Dat} {v : V} : ∀ {ds : List Dat} {vs : List V}, IsDs H ds vs → IsDt H d v → IsDs H (ds ++ [d]) (vs ++ [v])
  | [], vs, h, k => by simp only [IsDs] at h; subst h; simp only [List.nil_append, IsDs]; exact ⟨v, [], rfl, k, rfl⟩
  | d :: ds, vs, h, k => by
    simp only [IsDs] at h
    obtain ⟨v, r, e, h1, h2⟩ := h
    subst e
    simp only [List.cons_append, IsDs]
    exact ⟨v, _, rfl, h1, IsDs.snoc h2 k⟩
theorem IsDs.app {H : Hp} {es : List Dat} {us : List V} : ∀ {ds : List Dat} {vs : List V}, IsDs H ds vs → IsDs H es us → IsDs H (ds ++ es) (vs ++ us)
  | [], vs, h, k => by simp only [IsDs] at h; subst h; exact k
  | d :: ds, vs, h, k => by
    simp only [IsDs] at h
    obtain ⟨v, r, e, h1, h2⟩ := h
    subst e
    simp only [List.cons_append, IsDs]
    exact ⟨v, _, rfl, h1, IsDs.app h2 k⟩
theorem IsDs.get {H : Hp} : ∀ {ds : List Dat} {vs : List V} {j : Nat} {v : V}, IsDs H ds vs → vs[j]? = some v → ∃ d, ds[j]? = some d ∧ IsDt H d v
  | [], vs, j, v, h, k => by simp only [IsDs] at h; subst h; simp at k
  | d :: ds, vs, j, v, h, k => by
    simp only [IsDs] at h
    obtain ⟨v', r, e, h1, h2⟩ := h
    subst e
    cases j with
    | zero => simp at k; subst k; exact ⟨d, rfl, h1⟩
    | succ j => simpa using IsDs.get h2 (j := j) (by simpa using k)
theorem eqV_same {v : V} (h : flatV v = true) : eqV v v = true := by
  cases v <;> simp [eqV, flatV] at h ⊢
mutual

theorem eqD_same {H : Hp} : ∀ {d e : Dat} {v : V}, IsDt H d v → IsDt H e v → eqD d e = true
  | .fl x, .fl y, v, h, k => by
    simp only [IsDt] at h k
    obtain ⟨rfl, f⟩ := h
    obtain ⟨rfl, _⟩ := k
    simp only [eqD]
    exact eqV_same f
  | .tp xs, .tp ys, v, h, k => by
    simp only [IsDt] at h k
    obtain ⟨a, vs, rfl, h1, h2⟩ := h
    obtain ⟨b, us, e, k1, k2⟩ := k
    cases e
    rw [h1] at k1
    cases k1
    simp only [eqD]
    exact eqDs_same h2 k2
  | .ls xs, .ls ys, v, h, k => by
    simp only [IsDt] at h k
    obtain ⟨a, vs, rfl, h1, h2⟩ := h
    obtain ⟨b, us, e, k1, k2⟩ := k
    cases e
    rw [h1] at k1
    cases k1
    simp only [eqD]
    exact eqDs_same h2 k2
  | .fl x, .tp ys, v, h, k => by
    simp only [IsDt] at h k
    obtain ⟨rfl, f⟩ := h
    obtain ⟨b, us, rfl, k1, k2⟩ := k
    simp [flatV] at f
  | .fl x, .ls ys, v, h, k => by
    simp only [IsDt] at h k
    obtain ⟨rfl, f⟩ := h
    obtain ⟨b, us, rfl, k1, k2⟩ := k
    simp [flatV] at f
  | .tp xs, .fl y, v, h, k => by
    simp only [IsDt] at h k
    obtain ⟨rfl, f⟩ := k
    obtain ⟨b, us, rfl, k1, k2⟩ := h
    simp [flatV] at f
  | .ls xs, .fl y, v, h, k => by
    simp only [IsDt] at h k
    obtain ⟨rfl, f⟩ := k
    obtain ⟨b, us, rfl, k1, k2⟩ := h
    simp [flatV] at f
  | .tp xs, .ls ys, v, h, k => by
    simp only [IsDt] at h k
    obtain ⟨a, vs, rfl, h1, h2⟩ := h
    obtain ⟨b, us, e, k1, k2⟩ := k
    cases e
    rw [h1] at k1
    cases k1
  | .ls xs, .tp ys, v, h, k => by
    simp only [IsDt] at h k
    obtain ⟨a, vs, rfl, h1, h2⟩ := h
    obtain ⟨b, us, e, k1, k2⟩ := k
    cases e
    rw [h1] at k1
    cases k1
theorem eqDs_same {H : Hp} : ∀ {ds es : List Dat} {vs : List V}, IsDs H ds vs → IsDs H es vs → eqDs ds es = true
  | [], [], _, _, _ => rfl
  | d :: ds, e :: es, vs, h, k => by
    simp only [IsDs] at h k
    obtain ⟨v, r, rfl, h1, h2⟩ := h
    obtain ⟨v', r', e', k1, k2⟩ := k
    cases e'
    simp only [eqDs, Bool.and_eq_true]
    exact ⟨eqD_same h1 k1, eqDs_same h2 k2⟩
  | [], e :: es, vs, h, k => by
    simp only [IsDs] at h k
    subst h
    obtain ⟨v', r', e', k1, k2⟩ := k
    cases e'
  | d :: ds, [], vs, h, k => by
    simp only [IsDs] at h k
    subst k
    obtain ⟨v', r', e', k1, k2⟩ := h
    cases e'
end
mutual
def flatD : Dat → Bool
  | .fl v => flatV v
  | .tp xs => flatDs xs
  | .ls xs => flatDs xs
def flatDs : List Dat → Bool
  | [] => true
  | d :: ds => flatD d && flatDs ds
end
mutual
theorem eqD_refl : ∀ {d : Dat}, flatD d = true → eqD d d = true
  | .fl v, h => by simp only [eqD]; exact eqV_same h
  | .tp xs, h => by simp only [eqD]; simp only [flatD] at h; exact eqDs_refl h
  | .ls xs, h => by simp only [eqD]; simp only [flatD] at h; exact eqDs_refl h
theorem eqDs_refl : ∀ {ds : List Dat}, flatDs ds = true → eqDs ds ds = true
  | [], _ => rfl
  | d :: ds, h => by
    simp only [flatDs, Bool.and_eq_true] at h
    simp only [eqDs, Bool.and_eq_true]
    exact ⟨eqD_refl h.1, eqDs_refl h.2⟩
end
mutual
theorem IsDt.flat {H : Hp} : ∀ {d : Dat} {v : V}, IsDt H d v → flatD d = true
  | .fl x, v, h => by simp only [IsDt] at h; simp only [flatD]; exact h.2
  | .tp ds, v, h => by
    simp only [IsDt] at h
    obtain ⟨a, vs, e, h1, h2⟩ := h
    simp only [flatD]
    exact IsDs.flat h2
  | .ls ds, v, h => by
    simp only [IsDt] at h
    obtain ⟨a, vs, e, h1, h2⟩ := h
    simp only [flatD]
    exact IsDs.flat h2
theorem IsDs.flat {H : Hp} : ∀ {ds : List Dat} {vs : List V}, IsDs H ds vs → flatDs ds = true
  | [], vs, h => rfl
  | d :: ds, vs, h => by
    simp only [IsDs] at h
    obtain ⟨v, r, e, h1, h2⟩ := h
    simp only [flatDs, Bool.and_eq_true]
    exact ⟨IsDt.flat h1, IsDs.flat h2⟩
end
theorem eqDs_len : ∀ {ds es : List Dat}, ds.length ≠ es.length → eqDs ds es = false
  | [], [], h => absurd rfl h
  | d :: ds, e :: es, h => by
    simp only [eqDs]
    rw [eqDs_len (ds := ds) (es := es) (by simpa using h), Bool.and_false]
  | [], _ :: _, _ => rfl
  | _ :: _, [], _ => rfl
def dGet (ds : List Dat) (j : Nat) : Dat := ds.getD j (.fl .non)
theorem eqDs_all : ∀ {ds es : List Dat}, ds.length = es.length → (List.range ds.length).all (fun j => eqD (dGet ds j) (dGet es j)) = eqDs ds es
  | [], [], _ => rfl
  | d :: ds, e :: es, h => by
    rw [List.length_cons, List.range_succ_eq_map, List.all_cons, List.all_map]
    simp only [eqDs]
    have := eqDs_all (ds := ds) (es := es) (by simpa using h)
    rw [← this]
    rfl
  | [], _ :: _, h => by simp at h
  | _ :: _, [], h => by simp at h
theorem eqDs_tup {ds es : List Dat} {n m : Nat} (hn : n = ds.length) (hm : m = es.length) : ((List.range (min n m)).all (fun j => eqD (dGet ds j) (dGet es j)) && n == m) = eqDs ds es := by
  subst hn hm
  by_cases h : ds.length = es.length
  · rw [← h, Nat.min_self, beq_self_eq_true, Bool.and_true]
    exact eqDs_all h
  · rw [eqDs_len h, beq_eq_false_iff_ne.mpr h, Bool.and_false]
section
variable {X : Cx} {pins : List (Addr × Obj)} {σ : L2.St} {H : Hp} {s : Shared}
theorem tup_at (I : Inv X pins σ H s) {a : Addr} {vs : List V} (h : H a = some (.tup vs)) : ∃ its : List Value, Vals vs its ∧ s.heap.IsTuple a its.toArray := by
  obtain ⟨its, r, p, _⟩ := I.tuple (SqT.of h)
  exact ⟨its, r, p⟩
theorem lst_at (I : Inv X pins σ H s) {a : Addr} {vs : List V} (h : H a = some (.lst vs)) : ∃ its : List Value, Vals vs its ∧ s.heap.IsList a its.toArray := by
  obtain ⟨its, r, p, _⟩ := I.list (SqL.of h)
  exact ⟨its, r, p.isList⟩
mutual
theorem eqD_at (I : Inv X pins σ H s) : ∀ (d e : Dat) (A : Around) (x y : V) (u w : Value), A.units + depD d < cLine → IsDt H d x → IsDt H e y → RelV x u → RelV y w → SeqAt.EqAt A s u w (eqD d e)
  | .fl x, .fl y, A, x', y', u, w, hu, h, k, ru, rw' => by
    simp only [IsDt] at h k
    obtain ⟨rfl, f⟩ := h
    obtain ⟨rfl, g⟩ := k
    simp only [eqD]
    exact eqAt_V ru rw' f g
  | .tp ds, .tp es, A, x, y, u, w, hu, h, k, ru, rw' => by
    have hh := h
    have kk := k
    simp only [IsDt] at h k
    obtain ⟨a, vs, rfl, h1, h2⟩ := h
    obtain ⟨b, us, rfl, k1, k2⟩ := k
    cases ru
    cases rw'
    by_cases hab : a = b
    · subst hab
      rw [eqD_same hh kk]
      exact SeqAt.EqAt.same _
    obtain ⟨i1, r1, p1⟩ := tup_at I h1
    obtain ⟨i2, r2, p2⟩ := tup_at I k1
    simp only [depD] at hu
    refine SeqAt.EqAt.of_refs hab ?_
    have := SeqAt.RcAt.tuples (A := A) (e := fun j => eqD (dGet ds j) (dGet es j)) p1 p2 (by omega) (eqDs_at I ds es A.in1 vs us i1 i2 (by show A.units + 1 + _ < _; omega) h2 k2 r1 r2)
    rw [eqDs_tup (by rw [List.size_toArray, ← r1.length, h2.len]) (by rw [List.size_toArray, ← r2.length, k2.len])] at this
    simp only [eqD]
    exact this
  | .ls ds, .ls es, A, x, y, u, w, hu, h, k, ru, rw' => by
    have hh := h
    have kk := k
    simp only [IsDt] at h k
    obtain ⟨a, vs, rfl, h1, h2⟩ := h
    obtain ⟨b, us, rfl, k1, k2⟩ := k
    cases ru
    cases rw'
    by_cases hab : a = b
    · subst hab
      rw [eqD_same hh kk]
      exact SeqAt.EqAt.same _
    obtain ⟨i1, r1, p1⟩ := lst_at I h1
    obtain ⟨i2, r2, p2⟩ := lst_at I k1
    have l1 := r1.length
    have l2 := r2.length
    have l3 := h2.len
    have l4 := k2.len
    simp only [depD] at hu
    refine SeqAt.EqAt.of_refs hab ?_
    simp only [eqD]
    by_cases hl : ds.length = es.length
    · have := SeqAt.RcAt.lists (A := A) (e := fun j => eqD (dGet ds j) (dGet es j)) p1 p2 (by simp; omega) (by omega) (eqDs_at I ds es A.in1 vs us i1 i2 (by show A.units + 1 + _ < _; omega) h2 k2 r1 r2)
      rw [List.size_toArray, ← l1, ← l3, eqDs_all hl] at this
      exact this
    · rw [eqDs_len hl]
      exact SeqAt.RcAt.lists_lengths p1 p2 (by simp; omega) (by omega)
  | .fl x, .tp es, A, x', y, u, w, hu, h, k, ru, rw' => by
    simp only [IsDt] at h k
    obtain ⟨rfl, f⟩ := h
    obtain ⟨b, us, rfl, k1, k2⟩ := k
    cases rw'
    obtain ⟨i2, r2, p2⟩ := tup_at I k1
    simp only [eqD]
    have hu : A.units < cLine := by omega
    cases x' with
    | non => cases ru; exact SeqAt.EqAt.none_tuple p2 hu
    | bl z => cases ru; exact SeqAt.EqAt.bool_tuple z p2 hu
    | int z => obtain ⟨t, rfl⟩ := ru; exact SeqAt.EqAt.int_tuple z t p2 hu
    | str z => obtain ⟨t, rfl⟩ := ru; exact SeqAt.EqAt.str_tuple z t p2 hu
    | byt z => simp [flatV] at f
    | flt z => simp [flatV] at f
    | ref z => simp [flatV] at f
    | ty z => simp [flatV] at f
  | .fl x, .ls es, A, x', y, u, w, hu, h, k, ru, rw' => by
    simp only [IsDt] at h k
    obtain ⟨rfl, f⟩ := h
    obtain ⟨b, us, rfl, k1, k2⟩ := k
    cases rw'
    obtain ⟨i2, r2, p2⟩ := lst_at I k1
    simp only [eqD]
    have hu : A.units < cLine := by omega
    cases x' with
    | non => cases ru; exact SeqAt.EqAt.none_list p2 hu
    | bl z => cases ru; exact SeqAt.EqAt.bool_list z p2 hu
    | int z => obtain ⟨t, rfl⟩ := ru; exact SeqAt.EqAt.int_list z t p2 hu
    | str z => obtain ⟨t, rfl⟩ := ru; exact SeqAt.EqAt.str_list z t p2 hu
    | byt z => simp [flatV] at f
    | flt z => simp [flatV] at f
    | ref z => simp [flatV] at f
    | ty z => simp [flatV] at f
  | .tp ds, .fl y, A, x, y', u, w, hu, h, k, ru, rw' => by
    simp only [IsDt] at h k
    obtain ⟨rfl, f⟩ := k
    obtain ⟨b, us, rfl, k1, k2⟩ := h
    cases ru
    obtain ⟨i2, r2, p2⟩ := tup_at I k1
    simp only [eqD]
    have hu : A.units < cLine := by omega
    cases y' with
    | non => cases rw'; exact SeqAt.EqAt.tuple_none p2 hu
    | bl z => cases rw'; exact SeqAt.EqAt.tuple_bool z p2 hu
    | int z => obtain ⟨t, rfl⟩ := rw'; exact SeqAt.EqAt.tuple_int z t p2 hu
    | str z => obtain ⟨t, rfl⟩ := rw'; exact SeqAt.EqAt.tuple_str z t p2 hu
    | byt z => simp [flatV] at f
    | flt z => simp [flatV] at f
    | ref z => simp [flatV] at f
    | ty z => simp [flatV] at f
  | .ls ds, .fl y, A, x, y', u, w, hu, h, k, ru, rw' => by
    simp only [IsDt] at h k
    obtain ⟨rfl, f⟩ := k
    obtain ⟨b, us, rfl, k1, k2⟩ := h
    cases ru
    obtain ⟨i2, r2, p2⟩ := lst_at I k1
    simp only [eqD]
    have hu : A.units < cLine := by omega
    cases y' with
    | non => cases rw'; exact SeqAt.EqAt.list_none p2 hu
    | bl z => cases rw'; exact SeqAt.EqAt.list_bool z p2 hu
    | int z => obtain ⟨t, rfl⟩ := rw'; exact SeqAt.EqAt.list_int z t p2 hu
    | str z => obtain ⟨t, rfl⟩ := rw'; exact SeqAt.EqAt.list_str z t p2 hu
    | byt z => simp [flatV] at f
    | flt z => simp [flatV] at f
    | ref z => simp [flatV] at f
    | ty z => simp [flatV] at f
  | .tp ds, .ls es, A, x, y, u, w, hu, h, k, ru, rw' => by
    simp only [IsDt] at h k
    obtain ⟨a, vs, rfl, h1, h2⟩ := h
    obtain ⟨b, us, rfl, k1, k2⟩ := k
    cases ru
    cases rw'
    obtain ⟨i1, r1, p1⟩ := tup_at I h1
    obtain ⟨i2, r2, p2⟩ := lst_at I k1
    simp only [eqD]
    exact SeqAt.EqAt.tuple_list p1 p2 (by omega)
  | .ls ds, .tp es, A, x, y, u, w, hu, h, k, ru, rw' => by
    simp only [IsDt] at h k
    obtain ⟨a, vs, rfl, h1, h2⟩ := h
    obtain ⟨b, us, rfl, k1, k2⟩ := k
    cases ru
    cases rw'
    obtain ⟨i1, r1, p1⟩ := lst_at I h1
    obtain ⟨i2, r2, p2⟩ := tup_at I k1
    simp only [eqD]
    exact SeqAt.EqAt.list_tuple p1 p2 (by omega)
theorem eqDs_at (I : Inv X pins σ H s) : ∀ (ds es : List Dat) (A : Around) (xs ys : List V) (us ws : List Value), A.units + depDs ds < cLine → IsDs H ds xs → IsDs H es ys → Vals xs us → Vals ys ws →
    ∀ j (h1 : j < us.toArray.size) (h2 : j < ws.toArray.size), SeqAt.EqAt A s us.toArray[j] ws.toArray[j] (eqD (dGet ds j) (dGet es j))
  | [], es, A, xs, ys, us, ws, hu, h, k, ru, rw', j, h1, h2 => by
    simp only [IsDs] at h
    subst h
    have := ru.length
    rw [List.size_toArray] at h1
    simp at this
    omega
  | d :: ds, [], A, xs, ys, us, ws, hu, h, k, ru, rw', j, h1, h2 => by
    simp only [IsDs] at k
    subst k
    have := rw'.length
    rw [List.size_toArray] at h2
    simp at this
    omega
  | d :: ds, e :: es, A, xs, ys, us, ws, hu, h, k, ru, rw', j, h1, h2 => by
    simp only [IsDs] at h k
    obtain ⟨v, r, rfl, a1, a2⟩ := h
    obtain ⟨v', r', rfl, b1, b2⟩ := k
    simp only [depDs] at hu
    cases ru with
    | cons q1 q2 =>
      cases rw' with
      | cons q3 q4 =>
        cases j with
        | zero => exact eqD_at I d e A _ _ _ _ (by omega) a1 b1 q1 q3
        | succ j =>
          have := eqDs_at I ds es A _ _ _ _ (by omega) a2 b2 q2 q4 j (by simpa using h1) (by simpa using h2)
          simpa [dGet] using this
end
end
section
variable {X : Cx}

def rEqD : R2 := fun x y H Q => ∃ d e a b, x = .ref a ∧ y = .ref b ∧ IsDt H d (.ref a) ∧ IsDt H e (.ref b) ∧ depD d ≤ 50 ∧ Q (.bl (eqD d e)) H
def rNeD : R2 := fun x y H Q => ∃ d e a b, x = .ref a ∧ y = .ref b ∧ IsDt H d (.ref a) ∧ IsDt H e (.ref b) ∧ depD d ≤ 50 ∧ Q (.bl (!eqD d e)) H
theorem op_eqD (hu : X.A.units + 64 < cLine) : OpR X (compareOp .Eq) rEqD := by
  intro pins s σ H x y v u Q I rx ry h
  obtain ⟨d, e, a, b, rfl, rfl, h, k, hd, q⟩ := h
  cases rx
  cases ry
  match d, e, h, k, hd, q with
  | .tp ds, .tp es, h, k, hd, q =>
    simp only [IsDt] at h k
    obtain ⟨_, vs, e1, h1, h2⟩ := h
    obtain ⟨_, us, e2, k1, k2⟩ := k
    cases e1
    cases e2
    obtain ⟨i1, r1, p1⟩ := tup_at I h1
    obtain ⟨i2, r2, p2⟩ := tup_at I k1
    simp only [depD] at hd
    refine SeqAt.eq_tupleAt (e := fun j => eqD (dGet ds j) (dGet es j)) p1 p2 (by omega) (eqDs_at I ds es X.A.in1 vs us i1 i2 (by show X.A.units + 1 + _ < _; omega) h2 k2 r1 r2) ⟨.bl _, H, I, rfl, ?_⟩
    rw [eqDs_tup (by rw [List.size_toArray, ← r1.length, h2.len]) (by rw [List.size_toArray, ← r2.length, k2.len])]
    exact q
  | .ls ds, .ls es, h, k, hd, q =>
    simp only [IsDt] at h k
    obtain ⟨_, vs, e1, h1, h2⟩ := h
    obtain ⟨_, us, e2, k1, k2⟩ := k
    cases e1
    cases e2
    obtain ⟨i1, r1, p1⟩ := lst_at I h1
    obtain ⟨i2, r2, p2⟩ := lst_at I k1
    have l1 := r1.length
    have l2 := r2.length
    have l3 := h2.len
    have l4 := k2.len
    simp only [depD] at hd
    by_cases hl : ds.length = es.length
    · refine SeqAt.eq_listAt (e := fun j => eqD (dGet ds j) (dGet es j)) p1 p2 (by simp; omega) (by omega) (eqDs_at I ds es X.A.in1 vs us i1 i2 (by show X.A.units + 1 + _ < _; omega) h2 k2 r1 r2) ⟨.bl _, H, I, rfl, ?_⟩
      rw [List.size_toArray, ← l1, ← l3, eqDs_all hl]
      exact q
    · refine SeqAt.eq_list_lengthsAt p1 p2 (by simp; omega) (by omega) ⟨.bl _, H, I, rfl, ?_⟩
      simp only [eqD] at q
      rw [eqDs_len hl] at q
      exact q
  | .tp ds, .ls es, h, k, hd, q =>
    simp only [IsDt] at h k
    obtain ⟨_, vs, e1, h1, h2⟩ := h
    obtain ⟨_, us, e2, k1, k2⟩ := k
    cases e1
    cases e2
    obtain ⟨i1, r1, p1⟩ := tup_at I h1
    obtain ⟨i2, r2, p2⟩ := lst_at I k1
    exact SeqAt.RcAt.tuple_list p1 p2 (by omega) _ _ _ _ ⟨.bl _, H, I, rfl, q⟩
  | .ls ds, .tp es, h, k, hd, q =>
    simp only [IsDt] at h k
    obtain ⟨_, vs, e1, h1, h2⟩ := h
    obtain ⟨_, us, e2, k1, k2⟩ := k
    cases e1
    cases e2
    obtain ⟨i1, r1, p1⟩ := lst_at I h1
    obtain ⟨i2, r2, p2⟩ := tup_at I k1
    exact SeqAt.RcAt.list_tuple p1 p2 (by omega) _ _ _ _ ⟨.bl _, H, I, rfl, q⟩
  | .fl x, e, h, k, hd, q => simp only [IsDt] at h; obtain ⟨rfl, f⟩ := h; simp [flatV] at f
  | .tp ds, .fl x, h, k, hd, q => simp only [IsDt] at k; obtain ⟨rfl, f⟩ := k; simp [flatV] at f
  | .ls ds, .fl x, h, k, hd, q => simp only [IsDt] at k; obtain ⟨rfl, f⟩ := k; simp [flatV] at f
theorem op_neD (hu : X.A.units + 64 < cLine) : OpR X (compareOp .NotEq) rNeD := by
  intro pins s σ H x y v u Q I rx ry h
  obtain ⟨d, e, a, b, rfl, rfl, h, k, hd, q⟩ := h
  cases rx
  cases ry
  match d, e, h, k, hd, q with
  | .tp ds, .tp es, h, k, hd, q =>
    simp only [IsDt] at h k
    obtain ⟨_, vs, e1, h1, h2⟩ := h
    obtain ⟨_, us, e2, k1, k2⟩ := k
    cases e1
    cases e2
    obtain ⟨i1, r1, p1⟩ := tup_at I h1
    obtain ⟨i2, r2, p2⟩ := tup_at I k1
    simp only [depD] at hd
    refine SeqAt.RcNeAt.tuples (e := fun j => eqD (dGet ds j) (dGet es j)) p1 p2 (by omega) (eqDs_at I ds es X.A.in1 vs us i1 i2 (by show X.A.units + 1 + _ < _; omega) h2 k2 r1 r2) _ _ _ _ ⟨.bl _, H, I, rfl, ?_⟩
    rw [eqDs_tup (by rw [List.size_toArray, ← r1.length, h2.len]) (by rw [List.size_toArray, ← r2.length, k2.len])]
    exact q
  | .ls ds, .ls es, h, k, hd, q =>
    simp only [IsDt] at h k
    obtain ⟨_, vs, e1, h1, h2⟩ := h
    obtain ⟨_, us, e2, k1, k2⟩ := k
    cases e1
    cases e2
    obtain ⟨i1, r1, p1⟩ := lst_at I h1
    obtain ⟨i2, r2, p2⟩ := lst_at I k1
    have l1 := r1.length
    have l2 := r2.length
    have l3 := h2.len
    have l4 := k2.len
    simp only [depD] at hd
    by_cases hl : ds.length = es.length
    · refine SeqAt.RcNeAt.lists (e := fun j => eqD (dGet ds j) (dGet es j)) p1 p2 (by simp; omega) (by omega) (eqDs_at I ds es X.A.in1 vs us i1 i2 (by show X.A.units + 1 + _ < _; omega) h2 k2 r1 r2) _ _ _ _ ⟨.bl _, H, I, rfl, ?_⟩
      rw [List.size_toArray, ← l1, ← l3, eqDs_all hl]
      exact q
    · refine SeqAt.RcNeAt.lists_lengths p1 p2 (by simp; omega) (by omega) _ _ _ _ ⟨.bl _, H, I, rfl, ?_⟩
      simp only [eqD] at q
      rw [eqDs_len hl] at q
      exact q
  | .tp ds, .ls es, h, k, hd, q =>
    simp only [IsDt] at h k
    obtain ⟨_, vs, e1, h1, h2⟩ := h
    obtain ⟨_, us, e2, k1, k2⟩ := k
    cases e1
    cases e2
    obtain ⟨i1, r1, p1⟩ := tup_at I h1
    obtain ⟨i2, r2, p2⟩ := lst_at I k1
    exact SeqAt.RcNeAt.tuple_list p1 p2 (by omega) _ _ _ _ ⟨.bl _, H, I, rfl, q⟩
  | .ls ds, .tp es, h, k, hd, q =>
    simp only [IsDt] at h k
    obtain ⟨_, vs, e1, h1, h2⟩ := h
    obtain ⟨_, us, e2, k1, k2⟩ := k
    cases e1
    cases e2
    obtain ⟨i1, r1, p1⟩ := lst_at I h1
    obtain ⟨i2, r2, p2⟩ := tup_at I k1
    exact SeqAt.RcNeAt.list_tuple p1 p2 (by omega) _ _ _ _ ⟨.bl _, H, I, rfl, q⟩
  | .fl x, e, h, k, hd, q => simp only [IsDt] at h; obtain ⟨rfl, f⟩ := h; simp [flatV] at f
  | .tp ds, .fl x, h, k, hd, q => simp only [IsDt] at k; obtain ⟨rfl, f⟩ := k; simp [flatV] at f
  | .ls ds, .fl x, h, k, hd, q => simp only [IsDt] at k; obtain ⟨rfl, f⟩ := k; simp [flatV] at f
end
end L2

set_option Elab.async false
set_option linter.all false
set_option maxRecDepth 100000
set_option maxHeartbeats 1000000
namespace L2
open PySem PySem.Spec PySem.Calls PyProof.Rows PySem.W

abbrev Tx := List Nat
def tx (x : Tx) : V := .str (S x)
abbrev ft (x : Tx) : Dat := .fl (.str (S x))
structure MS where
  mode : Tx
  word : Tx
  opens : List Tx
  talk : Tx
abbrev Ev := List Tx
abbrev Ans := Option (MS × List Ev)
abbrev mText : Tx := [116, 101, 120, 116]
abbrev mMark : Tx := [109, 97, 114, 107]
abbrev mOpen : Tx := [111, 112, 101, 110]
abbrev mName : Tx := [110, 97, 109, 101]
abbrev mSlash : Tx := [115, 108, 97, 115, 104]
abbrev mShut : Tx := [115, 104, 117, 116]
abbrev mGap : Tx := [103, 97, 112]
abbrev mAttr : Tx := [97, 116, 116, 114]
abbrev mIs : Tx := [105, 115]
abbrev mBang : Tx := [98, 97, 110, 103]
abbrev mBare : Tx := [98, 97, 114, 101]
abbrev mCode : Tx := [99, 111, 100, 101]
abbrev mRow : Tx := [114, 111, 119]
abbrev mStroke : Tx := [115, 116, 114, 111, 107, 101]
abbrev mQuoted : Tx := [113, 117, 111, 116, 101, 100]
abbrev mQmark : Tx := [113, 109, 97, 114, 107]
abbrev mDone : Tx := [100, 111, 110, 101]
abbrev mTalk : Tx := [116, 97, 108, 107]
abbrev mTmark : Tx := [116, 109, 97, 114, 107]
abbrev mAsis : Tx := [97, 115, 105, 115]
abbrev eBox : Tx := [98, 111, 120]
abbrev eAttr : Tx := [97, 116, 116, 114]
abbrev eIn : Tx := [105, 110]
abbrev eSign : Tx := [115, 105, 103, 110]
abbrev eNext : Tx := [110, 101, 120, 116]
abbrev eWord : Tx := [119, 111, 114, 100]
abbrev eSaid : Tx := [115, 97, 105, 100]
abbrev eOut : Tx := [111, 117, 116]
abbrev tBetween : Tx := [98, 101, 116, 119, 101, 101, 110]
abbrev tWord : Tx := [119, 111, 114, 100]
abbrev tSaid : Tx := [115, 97, 105, 100]
abbrev tStroke : Tx := [115, 116, 114, 111, 107, 101]
abbrev asisEnd : Tx := [60, 47, 97, 115, 105, 115, 62]
abbrev lt : Tx := [97, 98, 99, 100, 101, 102, 103, 104, 105, 106, 107, 108, 109, 110, 111, 112, 113, 114, 115, 116, 117, 118, 119, 120, 121, 122]
def comeTo (m : Tx) (op : List Tx) (es : List Ev) : Ans := some (⟨m, [], op, []⟩, es)
def toldM (m : Tx) (op : List Tx) : Option Nat → Ans
  | none => none
  | some c => comeTo m op [[eSign, [c]]]
def gath (m w : Tx) (op : List Tx) (t : Tx) (n : Nat) : Ans := if n < w.length then none else some (⟨m, w, op, t⟩, [])
def boxShut (op : List Tx) (es : List Ev) : Ans := if op = [] then none else comeTo mText op.dropLast (es ++ [[eOut]])
def intoBox (op : List Tx) (es : List Ev) : Ans := if op = [] then none else comeTo (if op.getLast? = some mAsis then mAsis else mText) op (es ++ [[eIn]])
def ledOn (op : List Tx) (c : Nat) (es : List Ev) : Ans := if c = 32 then comeTo mGap op es else if c = 47 then comeTo mSlash op es else if c = 62 then intoBox op es else none
def fedB (c : Nat) : Option (Tx × List Ev) := if c = 32 then some (tBetween, []) else if c = 39 then some (tSaid, [[eSaid]]) else if c ∈ ws then some (tWord, [[eWord], [eSign, [c]]]) else none
def fedW (c : Nat) : Option (Tx × List Ev) := if c ∈ ws then some (tWord, [[eSign, [c]]]) else fedB c
def fedS (c : Nat) : Option (Tx × List Ev) := if c = 39 then some (tBetween, []) else if c = 92 then some (tStroke, []) else some (tSaid, [[eSign, [c]]])
def feedM (t : Tx) (c : Nat) : Option (Tx × List Ev) := if t = tBetween then fedB c else if t = tWord then fedW c else if t = tSaid then fedS c else if t = tStroke then some (tSaid, [[eSign, [c]]]) else none
def fedM (op : List Tx) (t : Tx) (c : Option Nat) : Ans := match c with
  | none => none
  | some c => match feedM t c with
    | none => none
    | some (t', es) => some (⟨mTalk, [], op, t'⟩, es)
def mkEnd (w : Tx) (c : Nat) : Option Nat := if c = 59 then L2.told w else none
abbrev AtF := Tx → List Tx → Tx → Nat → Ans
def aText : AtF := fun _ op _ c => if c = 60 then comeTo mOpen op [] else if c = 38 then comeTo mMark op [] else toldM mText op (some c)
def aMark : AtF := fun w op _ c => if c ∈ fg then gath mMark (w ++ [c]) op [] 2 else toldM mText op (mkEnd w c)
def aOpen : AtF := fun _ op _ c => if c = 47 then comeTo mShut op [] else if c ∈ lt then gath mName [c] op [] 8 else none
def aName : AtF := fun w op _ c => if c ∈ lt then gath mName (w ++ [c]) op [] 8 else ledOn (op ++ [w]) c [[eBox, w]]
def aSlash : AtF := fun _ op _ c => if c = 62 then boxShut op [[eIn]] else none
def aShut : AtF := fun w op _ c => if c ∈ lt then gath mShut (w ++ [c]) op [] 8 else if c = 62 ∧ op.getLast? = some w then boxShut op [] else none
def aGap : AtF := fun _ op _ c => if c ∈ lt then gath mAttr [c] op [] 8 else none
def aAttr : AtF := fun w op _ c => if c ∈ lt then gath mAttr (w ++ [c]) op [] 8 else if c = 58 then comeTo mBare op [[eAttr, w, mBare]] else if c = 40 then comeTo mRow op [[eAttr, w, mRow]]
  else if c = 61 then some (⟨mIs, w, op, []⟩, []) else if c = 33 then some (⟨mBang, w, op, []⟩, []) else none
def aIs : AtF := fun w op _ c => if c = 34 then comeTo mQuoted op [[eAttr, w, mQuoted]] else none
def aBang : AtF := fun w op _ c => if c = 34 then some (⟨mTalk, [], op, tBetween⟩, [[eAttr, w, mTalk]]) else none
def aBare : AtF := fun _ op _ c => if c ∈ ws then toldM mBare op (some c) else if c = 126 then comeTo mCode op [] else ledOn op c []
def aCode : AtF := fun w op _ c => if w = [] then (if c ∈ fg then some (⟨mCode, [c], op, []⟩, []) else none) else toldM mBare op (L2.told (w ++ [c]))
def aRow : AtF := fun _ op _ c => if c = 92 then comeTo mStroke op [] else if c = 44 then comeTo mRow op [[eNext]] else if c = 41 then comeTo mDone op [] else toldM mRow op (some c)
def aStroke : AtF := fun _ op _ c => toldM mRow op (some c)
def aQuoted : AtF := fun _ op _ c => if c = 34 then comeTo mDone op [] else if c = 38 then comeTo mQmark op [] else toldM mQuoted op (some c)
def aQmark : AtF := fun w op _ c => if c ∈ fg then gath mQmark (w ++ [c]) op [] 2 else toldM mQuoted op (mkEnd w c)
def aDone : AtF := fun _ op _ c => ledOn op c []
def aTalk : AtF := fun _ op t c => if c = 38 then some (⟨mTmark, [], op, t⟩, []) else if c = 34 then (if t = tBetween ∨ t = tWord then comeTo mDone op [] else none) else fedM op t (some c)
def aTmark : AtF := fun w op t c => if c ∈ fg then gath mTmark (w ++ [c]) op t 2 else fedM op t (mkEnd w c)
def aAsis : AtF := fun w op _ c => if w ++ [c] = asisEnd then boxShut op [] else if (w ++ [c]).isPrefixOf asisEnd then some (⟨mAsis, w ++ [c], op, []⟩, [])
  else if c = 60 then some (⟨mAsis, [c], op, []⟩, w.map fun k => [eSign, [k]]) else comeTo mAsis op ((w.map fun k => [eSign, [k]]) ++ [[eSign, [c]]])
def atTab : List (Tx × AtF) := [(mText, aText), (mMark, aMark), (mOpen, aOpen), (mName, aName), (mSlash, aSlash), (mShut, aShut), (mGap, aGap), (mAttr, aAttr), (mIs, aIs), (mBang, aBang), (mBare, aBare), (mCode, aCode), (mRow, aRow), (mStroke, aStroke), (mQuoted, aQuoted), (mQmark, aQmark), (mDone, aDone), (mTalk, aTalk), (mTmark, aTmark), (mAsis, aAsis)]
def stepM (s : MS) (c : Nat) : Ans := match atTab.lookup s.mode with
  | none => none
  | some f => f s.word s.opens s.talk c

def dS (s : MS) : Dat := .tp [ft s.mode, ft s.word, .tp (s.opens.map ft), ft s.talk]
def dE (e : Ev) : Dat := .tp (e.map ft)
def dEs (es : List Ev) : Dat := .ls (es.map dE)
def OpV (H : Hp) (a : Addr) (op : List Tx) : Prop := H a = some (.tup (op.map tx))
def StV (H : Hp) (v : V) (s : MS) : Prop := ∃ p o, v = .ref p ∧ H p = some (.tup [tx s.mode, tx s.word, .ref o, tx s.talk]) ∧ OpV H o s.opens
def EvV (H : Hp) (v : V) (e : Ev) : Prop := ∃ a, v = .ref a ∧ H a = some (.tup (e.map tx))
inductive EvA (H : Hp) : List V → List Ev → Prop
  | nil : EvA H [] []
  | cons {v : V} {e : Ev} {vs : List V} {es : List Ev} : EvV H v e → EvA H vs es → EvA H (v :: vs) (e :: es)
def EvL (H : Hp) (a : Addr) (es : List Ev) : Prop := ∃ vs, H a = some (.lst vs) ∧ EvA H vs es

def AnV (G : Addr → Prop) (H : Hp) (v : V) : Ans → Prop
  | none => v = .non
  | some (s, es) => ∃ p sa ea, v = .ref p ∧ H p = some (.tup [sa, .ref ea]) ∧ StV H sa s ∧ EvL H ea es ∧ G ea
theorem OpV.mono {H H' : Hp} {a : Addr} {op : List Tx} (h : OpV H a op) (g : Same H H') : OpV H' a op := g _ _ h
theorem StV.mono {H H' : Hp} {v : V} {s : MS} (h : StV H v s) (g : Same H H') : StV H' v s := by
  obtain ⟨p, o, e, h1, h2⟩ := h
  exact ⟨p, o, e, g _ _ h1, h2.mono g⟩
theorem EvV.mono {H H' : Hp} {v : V} {e : Ev} (h : EvV H v e) (g : Same H H') : EvV H' v e := by
  obtain ⟨a, e1, h1⟩ := h
  exact ⟨a, e1, g _ _ h1⟩
theorem EvA.mono {H H' : Hp} {vs : List V} {es : List Ev} (h : EvA H vs es) (g : Same H H') : EvA H' vs es := by
  induction h with
  | nil => exact .nil
  | cons h1 h2 ih => exact .cons (h1.mono g) ih
theorem EvL.mono {H H' : Hp} {a : Addr} {es : List Ev} (h : EvL H a es) (g : Same H H') : EvL H' a es := by
  obtain ⟨vs, h1, h2⟩ := h
  exact ⟨vs, g _ _ h1, h2.mono g⟩
theorem AnV.mono {G : Addr → Prop} {H H' : Hp} {v : V} {r : Ans} (h : AnV G H v r) (g : Same H H') : AnV G H' v r := by
  cases r with
  | none => exact h
  | some x =>
    obtain ⟨s, es⟩ := x
    obtain ⟨p, sa, ea, e1, h1, h2, h3, h4⟩ := h
    exact ⟨p, sa, ea, e1, g _ _ h1, h2.mono g, h3.mono g, h4⟩
theorem AnV.imp {G G' : Addr → Prop} {H : Hp} {v : V} {r : Ans} (h : AnV G H v r) (k : ∀ a, G a → G' a) : AnV G' H v r := by
  cases r with
  | none => exact h
  | some x =>
    obtain ⟨s, es⟩ := x
    obtain ⟨p, sa, ea, e1, h1, h2, h3, h4⟩ := h
    exact ⟨p, sa, ea, e1, h1, h2, h3, k _ h4⟩
theorem EvA.app {H : Hp} {vs us : List V} {es fs : List Ev} (h : EvA H vs es) (k : EvA H us fs) : EvA H (vs ++ us) (es ++ fs) := by
  induction h with
  | nil => exact k
  | cons h1 h2 ih => exact .cons h1 ih
theorem EvA.len {H : Hp} {vs : List V} {es : List Ev} (h : EvA H vs es) : vs.length = es.length := by
  induction h with
  | nil => rfl
  | cons h1 h2 ih => rw [List.length_cons, List.length_cons, ih]
theorem isDs_txs {H : Hp} : ∀ (l : List Tx), IsDs H (l.map ft) (l.map tx)
  | [] => by simp only [List.map_nil, IsDs]
  | x :: l => by
    simp only [List.map_cons, IsDs]
    exact ⟨_, _, rfl, by simp only [IsDt]; exact ⟨rfl, rfl⟩, isDs_txs l⟩
theorem StV.dat {H : Hp} {v : V} {s : MS} (h : StV H v s) : IsDt H (dS s) v := by
  obtain ⟨p, o, e, h1, h2⟩ := h
  unfold dS
  simp only [IsDt, IsDs]
  refine ⟨p, _, e, h1, _, _, rfl, ⟨rfl, rfl⟩, _, _, rfl, ⟨rfl, rfl⟩, _, _, rfl, ⟨o, _, rfl, h2, isDs_txs _⟩, _, _, rfl, ⟨rfl, rfl⟩, rfl⟩
theorem EvV.dat {H : Hp} {v : V} {e : Ev} (h : EvV H v e) : IsDt H (dE e) v := by
  obtain ⟨a, e1, h1⟩ := h
  unfold dE
  simp only [IsDt]
  exact ⟨a, _, e1, h1, isDs_txs _⟩
theorem EvA.dat {H : Hp} {vs : List V} {es : List Ev} (h : EvA H vs es) : IsDs H (es.map dE) vs := by
  induction h with
  | nil => simp only [List.map_nil, IsDs]
  | cons h1 h2 ih =>
    simp only [List.map_cons, IsDs]
    exact ⟨_, _, rfl, h1.dat, ih⟩
theorem EvL.dat {H : Hp} {a : Addr} {es : List Ev} (h : EvL H a es) : IsDt H (dEs es) (.ref a) := by
  obtain ⟨vs, h1, h2⟩ := h
  unfold dEs
  simp only [IsDt]
  exact ⟨a, _, rfl, h1, h2.dat⟩
end L2
namespace L2
open PySem PySem.Spec PySem.Calls PyProof.Rows PySem.W
theorem an_of {G : Addr → Prop} {H : Hp} {p p1 oa ea : Addr} {m w t : Tx} {op : List Tx} {es : List Ev} (hp : H p = none) (hp1 : upd H p (.tup [.str (S m), .str (S w), .ref oa, .str (S t)]) p1 = none) (ho : OpV H oa op) (he : EvL H ea es) (hg : G ea) :
    Same H (upd (upd H p (.tup [.str (S m), .str (S w), .ref oa, .str (S t)])) p1 (.tup [.ref p, .ref ea])) ∧ AnV G (upd (upd H p (.tup [.str (S m), .str (S w), .ref oa, .str (S t)])) p1 (.tup [.ref p, .ref ea])) (.ref p1) (some (⟨m, w, op, t⟩, es)) := by
  have g1 : Same H (upd H p (.tup [.str (S m), .str (S w), .ref oa, .str (S t)])) := same_upd hp
  have g2 := same_upd (o := .tup [.ref p, .ref ea]) hp1
  refine ⟨g1.trans g2, p1, .ref p, ea, rfl, upd_same, ⟨p, oa, rfl, g2 _ _ upd_same, ho.mono (g1.trans g2)⟩, he.mono (g1.trans g2), hg⟩
theorem evl0 {H : Hp} {q : Addr} : EvL (upd H q (.lst [])) q [] := ⟨[], upd_same, .nil⟩
theorem evl1 {H : Hp} {p q : Addr} {e : Ev} (hq : upd H p (.tup (e.map tx)) q = none) : EvL (upd (upd H p (.tup (e.map tx))) q (.lst [.ref p])) q [e] :=
  ⟨_, upd_same, .cons ⟨p, rfl, same_upd hq _ _ upd_same⟩ .nil⟩
def TkV (G : Addr → Prop) (H : Hp) (v : V) : Option (Tx × List Ev) → Prop
  | none => v = .non
  | some (t, es) => ∃ p ea, v = .ref p ∧ H p = some (.tup [tx t, .ref ea]) ∧ EvL H ea es ∧ G ea
theorem TkV.mono {G : Addr → Prop} {H H' : Hp} {v : V} {r : Option (Tx × List Ev)} (h : TkV G H v r) (g : Same H H') : TkV G H' v r := by
  cases r with
  | none => exact h
  | some x =>
    obtain ⟨s, es⟩ := x
    obtain ⟨p, ea, e1, h1, h2, h3⟩ := h
    exact ⟨p, ea, e1, g _ _ h1, h2.mono g, h3⟩
theorem tk_of {G : Addr → Prop} {H : Hp} {p ea : Addr} {t : Tx} {es : List Ev} (hp : H p = none) (he : EvL H ea es) (hg : G ea) : Same H (upd H p (.tup [.str (S t), .ref ea])) ∧ TkV G (upd H p (.tup [.str (S t), .ref ea])) (.ref p) (some (t, es)) :=
  ⟨same_upd hp, p, ea, rfl, upd_same, he.mono (same_upd hp), hg⟩
end L2
namespace L2
open PySem PySem.Spec PySem.Calls PyProof.Rows PySem.W
theorem an_up {G : Addr → Prop} {H : Hp} {p p2 oa ea : Addr} {m w t : Tx} {op : List Tx} {es : List Ev} (h1 : H p = some (.tup [.str (S m), .str (S w), .ref oa, .str (S t)])) (ho : OpV H oa op) (he : EvL H ea es) (hg : G ea) (hp2 : H p2 = none) :
    AnV G (upd H p2 (.tup [.ref p, .ref ea])) (.ref p2) (some (⟨m, w, op, t⟩, es)) := by
  have g2 := same_upd (o := .tup [.ref p, .ref ea]) hp2
  exact ⟨p2, .ref p, ea, rfl, upd_same, ⟨p, oa, rfl, g2 _ _ h1, ho.mono g2⟩, he.mono g2, hg⟩
theorem tru_tup {K : Frag} {H : Hp} {a : Addr} {xs : List V} (h : H a = some (.tup xs)) : TruV K (.ref a) H (!xs.isEmpty) := .inr (.inl ⟨xs, SqT.of h, rfl⟩)
theorem cut_init (xs : List V) : cutV xs none (some (-1)) = xs.dropLast := by
  unfold cutV
  rw [HT.sIx_none, List.drop_zero, Nat.sub_zero]
  have : HT.sIx xs.length xs.length (some (-1)) = xs.length - 1 := by
    unfold HT.sIx
    simp only []
    rw [if_pos (by decide)]
    omega
  rw [this, List.dropLast_eq_take]
theorem cut_last (xs : List V) : cutV xs (some (-1)) none = xs.drop (xs.length - 1) := by
  unfold cutV
  have : HT.sIx xs.length 0 (some (-1)) = xs.length - 1 := by
    unfold HT.sIx
    simp only []
    rw [if_pos (by decide)]
    omega
  rw [this, HT.sIx_none]
  exact List.take_of_length_le (by rw [List.length_drop]; omega)
theorem map_dropLast (op : List Tx) : (op.map tx).dropLast = op.dropLast.map tx := by rw [List.map_dropLast]
end L2
namespace L2
open PySem PySem.Spec PySem.Calls PyProof.Rows PySem.W
theorem none_of_same {H H' : Hp} {p : Addr} (g : Same H H') (h : H' p = none) : H p = none := by
  cases e : H p with
  | none => rfl
  | some o => rw [g _ _ e] at h; cases h
theorem atI_last1 {α : Type} (xs : List α) : atI xs (-1) = xs.getLast? := by
  unfold atI ixN
  rw [if_neg (by decide)]
  cases xs with
  | nil => rfl
  | cons x xs =>
    rw [if_pos (by rw [List.length_cons]; omega), List.getLast?_eq_getElem?]
    simp only [Option.bind_some]
    congr 1
    simp
    omega
end L2
namespace L2
open PySem PySem.Spec PySem.Calls PyProof.Rows PySem.W
theorem flat_txs (l : List Tx) : (l.map tx).all flatV = true := by
  rw [List.all_eq_true]
  intro v hv
  obtain ⟨x, _, rfl⟩ := List.mem_map.mp hv
  rfl
theorem flat_drop {l : List V} {n : Nat} (h : l.all flatV = true) : (l.drop n).all flatV = true := by
  rw [List.all_eq_true] at h ⊢
  exact fun v hv => h v (List.mem_of_mem_drop hv)
theorem beq_S (a b : Tx) : (S a == S b) = decide (a = b) := by
  rw [Bool.eq_iff_iff, beq_iff_eq, S_inj, decide_eq_true_eq]
theorem eq_last (op : List Tx) (w : Tx) : eqS ((op.map tx).drop ((op.map tx).length - 1)) [.str (S w)] = decide (op.getLast? = some w) := by
  rcases List.eq_nil_or_concat op with rfl | ⟨l, z, rfl⟩
  · rfl
  · have e : ((l ++ [z]).map tx).drop (((l ++ [z]).map tx).length - 1) = [tx z] := by
      rw [List.map_append, List.length_append]
      simp
    rw [List.concat_eq_append, e, List.getLast?_append]
    simp [eqS, eqV, tx, beq_S]
theorem inV_txs (a : Tx) (l : List Tx) : inV (.str (S a)) (l.map fun x => .str (S x)) = decide (a ∈ l) := by
  unfold inV
  induction l with
  | nil => rfl
  | cons x l ih =>
    rw [List.map_cons, List.any_cons, ih]
    show ((S x == S a) || decide (a ∈ l)) = decide (a ∈ x :: l)
    rw [beq_S, Bool.eq_iff_iff, Bool.or_eq_true, decide_eq_true_eq, decide_eq_true_eq, decide_eq_true_eq, List.mem_cons]
    exact ⟨fun h => h.elim (fun e => .inl e.symm) .inr, fun h => h.elim (fun e => .inl e.symm) .inr⟩
end L2
namespace L2
open PySem PySem.Spec PySem.Calls PyProof.Rows PySem.W

theorem OpV.updL {H : Hp} {a p : Addr} {op : List Tx} {xs ys : List V} (h : OpV H a op) (hp : H p = some (.lst xs)) : OpV (upd H p (.lst ys)) a op := by
  unfold OpV at h ⊢
  rw [upd_ne (ne_of h hp (by intro z; cases z))]
  exact h
theorem StV.updL {H : Hp} {v : V} {s : MS} {p : Addr} {xs ys : List V} (h : StV H v s) (hp : H p = some (.lst xs)) : StV (upd H p (.lst ys)) v s := by
  obtain ⟨q, o, e, h1, h2⟩ := h
  exact ⟨q, o, e, by rw [upd_ne (ne_of h1 hp (by intro z; cases z))]; exact h1, h2.updL hp⟩
theorem EvV.updL {H : Hp} {v : V} {e : Ev} {p : Addr} {xs ys : List V} (h : EvV H v e) (hp : H p = some (.lst xs)) : EvV (upd H p (.lst ys)) v e := by
  obtain ⟨q, e1, h1⟩ := h
  exact ⟨q, e1, by rw [upd_ne (ne_of h1 hp (by intro z; cases z))]; exact h1⟩
theorem EvA.updL {H : Hp} {vs : List V} {es : List Ev} {p : Addr} {xs ys : List V} (h : EvA H vs es) (hp : H p = some (.lst xs)) : EvA (upd H p (.lst ys)) vs es := by
  induction h with
  | nil => exact .nil
  | cons h1 h2 ih => exact .cons (h1.updL hp) ih

def runM : MS → List Nat → Except Nat (MS × List Ev)
  | s, [] => .ok (s, [])
  | s, c :: r => match stepM s c with
    | none => .error 0
    | some (s', es) => match runM s' r with
      | .error n => .error (n + 1)
      | .ok (s'', fs) => .ok (s'', es ++ fs)

def StepOk (s : MS) (r : Ans) : Prop := ∀ s' es, r = some (s', es) → s.word.length ≤ 8 → s'.word.length ≤ 8 ∧ s'.opens.length ≤ s.opens.length + 1 ∧ es.length ≤ 10
theorem at_ok : ∀ e ∈ atTab, ∀ (w : Tx) (op : List Tx) (t : Tx) (c : Nat) (s' : MS) (es : List Ev), e.2 w op t c = some (s', es) → w.length ≤ 8 → s'.word.length ≤ 8 ∧ s'.opens.length ≤ op.length + 1 ∧ es.length ≤ 10 := by
  have led : ∀ op c es s' es', ledOn op c es = some (s', es') → s'.word.length ≤ 8 ∧ s'.opens.length ≤ op.length ∧ es'.length ≤ es.length + 1 := by
    intro op c es s' es' h
    simp only [ledOn, comeTo, intoBox] at h
    repeat' split at h
    all_goals (first | cases h | skip)
    all_goals simp
  have shut : ∀ op es s' es', boxShut op es = some (s', es') → s'.word.length ≤ 8 ∧ s'.opens.length ≤ op.length ∧ es'.length ≤ es.length + 1 := by
    intro op es s' es' h
    simp only [boxShut, comeTo] at h
    split at h
    · cases h
    · cases h
      simp
  have toldK : ∀ m op o s' es', toldM m op o = some (s', es') → s'.word.length ≤ 8 ∧ s'.opens.length ≤ op.length ∧ es'.length ≤ 10 := by
    intro m op o s' es' h
    cases o with
    | none => cases h
    | some c => cases h; simp
  have gathK : ∀ m w op t n s' es', n ≤ 8 → gath m w op t n = some (s', es') → s'.word.length ≤ 8 ∧ s'.opens.length ≤ op.length ∧ es'.length ≤ 10 := by
    intro m w op t n s' es' hn h
    simp only [gath] at h
    split at h
    · cases h
    · cases h
      simp
      omega
  have feedK : ∀ t c t' es', feedM t c = some (t', es') → es'.length ≤ 10 := by
    intro t c t' es' h
    simp only [feedM, fedB, fedW, fedS] at h
    repeat' split at h
    all_goals (first | cases h | skip)
    all_goals simp
  have fedK : ∀ op t o s' es', fedM op t o = some (s', es') → s'.word.length ≤ 8 ∧ s'.opens.length ≤ op.length ∧ es'.length ≤ 10 := by
    intro op t o s' es' h
    cases o with
    | none => cases h
    | some c =>
      simp only [fedM] at h
      cases hf : feedM t c with
      | none => rw [hf] at h; cases h
      | some r =>
        obtain ⟨t', fs⟩ := r
        rw [hf] at h
        cases h
        exact ⟨by simp, by simp, feedK _ _ _ _ hf⟩
  have pre : ∀ l : Tx, l.isPrefixOf asisEnd = true → l.length ≤ 8 := by
    intro l h
    rw [List.isPrefixOf_iff_prefix] at h
    have := h.length_le
    simp at this
    omega
  intro e he w op t c s' es h hw
  simp only [atTab, List.mem_cons, List.not_mem_nil, or_false] at he
  rcases he with rfl | rfl | rfl | rfl | rfl | rfl | rfl | rfl | rfl | rfl | rfl | rfl | rfl | rfl | rfl | rfl | rfl | rfl | rfl | rfl
  all_goals simp only [aText, aMark, aOpen, aName, aSlash, aShut, aGap, aAttr, aIs, aBang, aBare, aCode, aRow, aStroke, aQuoted, aQmark, aDone, aTalk, aTmark, aAsis] at h
  all_goals repeat' split at h
  all_goals first
    | (have := toldK _ _ _ _ _ h; omega)
    | (have := gathK _ _ _ _ _ _ _ (by decide) h; omega)
    | (have := fedK _ _ _ _ _ h; omega)
    | (have := led _ _ _ _ _ h; simp at this ⊢; omega)
    | (have := shut _ _ _ _ h; simp at this ⊢; omega)
    | (cases h; simp; omega)
    | (cases h; simp; done)
    | (cases h; have := pre _ (by assumption); simp at this ⊢; omega)
    | cases h
theorem step_ok (s : MS) (c : Nat) : StepOk s (stepM s c) := by
  intro s' es h hw
  unfold stepM at h
  cases hl : atTab.lookup s.mode with
  | none => rw [hl] at h; cases h
  | some f =>
    rw [hl] at h
    have hm : (s.mode, f) ∈ atTab := by
      have : ∀ (l : List (Tx × AtF)), l.lookup s.mode = some f → (s.mode, f) ∈ l := by
        intro l
        induction l with
        | nil => intro z; cases z
        | cons e l ih =>
          intro z
          rw [List.lookup_cons] at z
          split at z
          · rename_i hb
            cases z
            have : s.mode = e.1 := by simpa using hb
            rw [this]
            exact List.mem_cons_self
          · exact List.mem_cons_of_mem _ (ih z)
      exact this _ hl
    exact at_ok _ hm _ _ _ _ _ _ h hw
end L2
namespace L2
open PySem PySem.Spec PySem.Calls PyProof.Rows PySem.W
theorem EvA.get {H : Hp} {vs : List V} {es : List Ev} {i : Nat} {v : V} (h : EvA H vs es) (e : vs[i]? = some v) : ∃ x, es[i]? = some x ∧ EvV H v x := by
  induction h generalizing i with
  | nil => simp at e
  | cons h1 h2 ih =>
    cases i with
    | zero => simp at e; subst e; exact ⟨_, rfl, h1⟩
    | succ i => simpa using ih (i := i) (by simpa using e)
theorem depDs_ft : ∀ l : List Tx, depDs (l.map ft) = 0
  | [] => by simp only [List.map_nil, depDs]
  | x :: l => by simp only [List.map_cons, depDs, depD, depDs_ft l, Nat.max_self]
theorem dep_E (e : Ev) : depD (dE e) = 1 := by unfold dE; simp only [depD, depDs_ft]
theorem dep_S (s : MS) : depD (dS s) ≤ 2 := by unfold dS; simp only [depD, depDs, depDs_ft]; decide
end L2

set_option Elab.async false
set_option linter.all false
set_option maxRecDepth 100000
set_option maxHeartbeats 1000000
namespace L2
open PySem PySem.Spec PyProof.Rows


section
variable {κ : Type} [DecidableEq κ]
def valV (kvs : List (κ × V)) (k : κ) : Option V := (kvs.find? fun kv => decide (kv.1 = k)).map (·.2)

def putK (kvs : List (κ × V)) (k : κ) (v : V) : List (κ × V) :=
  if (kvs.any fun kv => decide (kv.1 = k)) = true then kvs.map (fun kv => if kv.1 = k then (kv.1, v) else kv) else kvs ++ [(k, v)]
def dropK (kvs : List (κ × V)) (k : κ) : List (κ × V) := kvs.filter fun kv => decide (kv.1 ≠ k)

theorem valV_pos {p : κ × V} {r : List (κ × V)} {k : κ} (e : p.1 = k) : valV (p :: r) k = some p.2 := by simp [valV, List.find?_cons, e]
theorem valV_neg {p : κ × V} {r : List (κ × V)} {k : κ} (e : ¬ p.1 = k) : valV (p :: r) k = valV r k := by simp [valV, List.find?_cons, e]
theorem valV_any (k : κ) : ∀ kvs : List (κ × V), (kvs.any fun kv => decide (kv.1 = k)) = (valV kvs k).isSome
  | [] => rfl
  | p :: r => by
    rw [List.any_cons]
    by_cases e : p.1 = k
    · simp only [valV_pos e, decide_eq_true e, Bool.true_or, Option.isSome_some]
    · rw [valV_neg e, decide_eq_false e, Bool.false_or]; exact valV_any k r
theorem RelO.isSome_eq {o : Option V} {u : Option Value} (r : RelO o u) : o.isSome = u.isSome := by
  cases o with
  | none => cases u with
    | none => rfl
    | some _ => exact (show False from r).elim
  | some _ => cases u with
    | none => exact (show False from r).elim
    | some _ => rfl
theorem RelO.getD {o : Option V} {u : Option Value} {d : V} {d' : Value} (r : RelO o u) (rd : RelV d d') : RelV (o.getD d) (u.getD d') := by
  cases o with
  | none => cases u with
    | none => exact rd
    | some _ => exact (show False from r).elim
  | some _ => cases u with
    | none => exact (show False from r).elim
    | some _ => exact r


theorem KV.val {kvs : List (κ × V)} {vs : List (κ × Value)} (r : KV kvs vs) (k : κ) : RelO (valV kvs k) (valueAt vs k) := by
  unfold KV at r
  induction r with
  | nil => exact True.intro
  | @cons p q ps qs h t ih =>
    obtain ⟨h1, h2⟩ := h
    by_cases e : p.1 = k
    · have e' : q.1 = k := h1.symm.trans e
      have b : valueAt (q :: qs) k = some q.2 := by simp [valueAt, List.find?_cons, e']
      rw [valV_pos e, b]; exact h2
    · have e' : ¬ q.1 = k := fun z => e (h1.trans z)
      have b : valueAt (q :: qs) k = valueAt qs k := by simp [valueAt, List.find?_cons, e']
      rw [valV_neg e, b]; exact ih
theorem KV.any {kvs : List (κ × V)} {vs : List (κ × Value)} (r : KV kvs vs) (k : κ) : (kvs.any fun kv => decide (kv.1 = k)) = vs.any fun kv => decide (kv.1 = k) := by
  unfold KV at r
  induction r with
  | nil => rfl
  | cons h t ih => rw [List.any_cons, List.any_cons, ih, h.1]
theorem KV.repl {kvs : List (κ × V)} {vs : List (κ × Value)} (r : KV kvs vs) (k : κ) {y : V} {u : Value} (ry : RelV y u) :
    KV (kvs.map fun kv => if kv.1 = k then (kv.1, y) else kv) (vs.map fun kv => if kv.1 = k then (kv.1, u) else kv) := by
  unfold KV at r ⊢
  induction r with
  | nil => exact .nil
  | @cons p q ps qs h t ih =>
    rw [List.map_cons, List.map_cons]
    refine .cons ?_ ih
    obtain ⟨h1, h2⟩ := h
    by_cases e : p.1 = k
    · rw [if_pos e, if_pos (h1.symm.trans e)]; exact ⟨h1, ry⟩
    · rw [if_neg e, if_neg (fun z => e (h1.trans z))]; exact ⟨h1, h2⟩
theorem KV.put {kvs : List (κ × V)} {vs : List (κ × Value)} (r : KV kvs vs) (k : κ) {y : V} {u : Value} (ry : RelV y u) : KV (putK kvs k y) (stored vs k u) := by
  unfold putK stored
  rw [r.any k]
  by_cases e : (vs.any fun kv => decide (kv.1 = k)) = true
  · rw [if_pos e, if_pos e]; exact r.repl k ry
  · rw [if_neg e, if_neg e]; exact Paired.snoc r ⟨rfl, ry⟩
theorem KV.drop {kvs : List (κ × V)} {vs : List (κ × Value)} (r : KV kvs vs) (k : κ) : KV (dropK kvs k) (without vs k) := by
  unfold KV at r ⊢
  unfold dropK without
  induction r with
  | nil => exact .nil
  | @cons p q ps qs h t ih =>
    obtain ⟨h1, h2⟩ := h
    rw [List.filter_cons, List.filter_cons]
    by_cases e : p.1 = k
    · have a : ¬ decide (p.1 ≠ k) = true := by simp [e]
      have b : ¬ decide (q.1 ≠ k) = true := by simp [h1.symm.trans e]
      rw [if_neg a, if_neg b]; exact ih
    · have e' : ¬ q.1 = k := fun z => e (h1.trans z)
      have a : decide (p.1 ≠ k) = true := by simp [e]
      have b : decide (q.1 ≠ k) = true := by simp [e']
      rw [if_pos a, if_pos b]; exact .cons ⟨h1, h2⟩ ih
theorem KV.keys {kvs : List (κ × V)} {vs : List (κ × Value)} (r : KV kvs vs) : kvs.map (·.1) = vs.map (·.1) := by
  unfold KV at r
  induction r with
  | nil => rfl
  | cons h t ih => rw [List.map_cons, List.map_cons, ih, h.1]
theorem KV.length {kvs : List (κ × V)} {vs : List (κ × Value)} (r : KV kvs vs) : kvs.length = vs.length := Paired.length r
end



theorem kV_is {P : Program} {w : World} {k : Key} {u : Value} (r : RelV (kV k) u) : (mixKind P w).is k u = true := by
  cases k with
  | inl i => obtain ⟨t, e⟩ := (show ∃ t, u = Value.int i t from r); subst e; exact mixKind_int P w i t
  | inr x => obtain ⟨t, e⟩ := (show ∃ t, u = Value.str x t from r); subst e; exact mixKind_str P w x t
abbrev KT (H : Hp) : List (List Key × V) → List (List Key × Addr × Value) → Prop := Paired fun p q => p.1 = q.1 ∧ H q.2.1 = some (.tup (p.1.map kV)) ∧ RelV p.2 q.2.2
theorem KT.val {H : Hp} {kvs : List (List Key × V)} {xs : List (List Key × Addr × Value)} (r : KT H kvs xs) (k : List Key) : RelO (valV kvs k) ((atKey xs k).map (·.2)) := by
  induction r with
  | nil => exact True.intro
  | @cons p q ps qs h t ih =>
    obtain ⟨h1, _, h2⟩ := h
    by_cases e : p.1 = k
    · have e' : q.1 = k := h1.symm.trans e
      have b : atKey (q :: qs) k = some q.2 := by simp [atKey, List.find?_cons, e']
      rw [valV_pos e, b]; exact h2
    · have e' : ¬ q.1 = k := fun z => e (h1.trans z)
      have b : atKey (q :: qs) k = atKey qs k := by simp [atKey, List.find?_cons, e']
      rw [valV_neg e, b]; exact ih
theorem KT.repl {H : Hp} {kvs : List (List Key × V)} {xs : List (List Key × Addr × Value)} (r : KT H kvs xs) (k : List Key) {y : V} {u : Value} (ry : RelV y u) :
    KT H (kvs.map fun kv => if kv.1 = k then (kv.1, y) else kv) (xs.map (putAt k u)) := by
  induction r with
  | nil => exact .nil
  | @cons p q ps qs h t ih =>
    rw [List.map_cons, List.map_cons]
    refine .cons ?_ ih
    obtain ⟨h1, h2, h3⟩ := h
    unfold putAt
    by_cases e : p.1 = k
    · rw [if_pos e, if_pos (h1.symm.trans e)]; exact ⟨h1, h2, ry⟩
    · rw [if_neg e, if_neg (fun z => e (h1.trans z))]; exact ⟨h1, h2, h3⟩
theorem KT.put {H : Hp} {kvs : List (List Key × V)} {xs : List (List Key × Addr × Value)} (r : KT H kvs xs) (k : List Key) {b : Addr} {y : V} {u : Value} (hb : H b = some (.tup (k.map kV))) (ry : RelV y u) :
    KT H (putK kvs k y) (storedH xs k b u) := by
  have e : (kvs.any fun kv => decide (kv.1 = k)) = (atKey xs k).isSome := by
    rw [valV_any, (r.val k).isSome_eq, Option.isSome_map]
  unfold putK storedH
  rw [e]
  by_cases q : (atKey xs k).isSome = true
  · rw [if_pos q, if_pos q]; exact r.repl k ry
  · rw [if_neg q, if_neg q]; exact Paired.snoc r ⟨rfl, hb, ry⟩
theorem KT.keeps {H H' : Hp} {kvs : List (List Key × V)} {xs : List (List Key × Addr × Value)} (r : KT H kvs xs) (ht : ∀ b ys, H b = some (.tup ys) → H' b = some (.tup ys)) : KT H' kvs xs :=
  Paired.mapP r fun _ _ z => ⟨z.1, ht _ _ z.2.1, z.2.2⟩

section
variable {P : Program} {w : World} {H : Hp} {h : Heap} {a : Addr}
end


def DGet (H : Hp) (a : Addr) (y : V) (r : Option V) : Prop :=
  (∃ kvs k, Rd H a (.dK kvs) ∧ y = kV k ∧ r = valV kvs k) ∨ ∃ kvs k b, Rd H a (.dT kvs) ∧ y = .ref b ∧ H b = some (.tup (k.map kV)) ∧ r = valV kvs k

def DPut (H : Hp) (a : Addr) (y v : V) (H' : Hp) : Prop :=
  (∃ kvs k, H a = some (.dK kvs) ∧ y = kV k ∧ kvs.length < sizeLine ∧ H' = upd H a (.dK (putK kvs k v))) ∨
  ∃ kvs k b, H a = some (.dT kvs) ∧ y = .ref b ∧ H b = some (.tup (k.map kV)) ∧ kvs.length < sizeLine ∧ H' = upd H a (.dT (putK kvs k v))
theorem DGet.k {H : Hp} {a : Addr} {kvs : List (Key × V)} {k : Key} (e : H a = some (.dK kvs)) : DGet H a (kV k) (valV kvs k) := .inl ⟨kvs, k, .inl e, rfl, rfl⟩
theorem DGet.t {H : Hp} {a b : Addr} {kvs : List (List Key × V)} {k : List Key} (e : H a = some (.dT kvs)) (eb : H b = some (.tup (k.map kV))) : DGet H a (.ref b) (valV kvs k) := .inr ⟨kvs, k, b, .inl e, rfl, eb, rfl⟩
theorem DPut.k {H : Hp} {a : Addr} {kvs : List (Key × V)} {k : Key} {v : V} (e : H a = some (.dK kvs)) (hl : kvs.length < sizeLine) : DPut H a (kV k) v (upd H a (.dK (putK kvs k v))) := .inl ⟨kvs, k, e, rfl, hl, rfl⟩
theorem DPut.t {H : Hp} {a b : Addr} {kvs : List (List Key × V)} {k : List Key} {v : V} (e : H a = some (.dT kvs)) (eb : H b = some (.tup (k.map kV))) (hl : kvs.length < sizeLine) :
    DPut H a (.ref b) v (upd H a (.dT (putK kvs k v))) := .inr ⟨kvs, k, b, e, rfl, eb, hl, rfl⟩


section
variable {X : Cx} {pins : List (Addr × Obj)} {σ : St} {H : Hp} {s : Shared} {a : Addr} {y v : V} {u r : Value} {o : Option V} {A : Around} {E : Value → Shared → Prop}

end

section
variable {X : Cx} {pins : List (Addr × Obj)} {σ : St} {H : Hp} {s : Shared} {a : Addr} {kvs : List (Key × V)} {k : Key} {u : Value} {A : Around} {E : Value → Shared → Prop}

end




def tDGet (td ty : TE) : TE := fun σ H Q => td σ H fun x H1 => ty σ H1 fun y H2 => ∃ a v, x = .ref a ∧ DGet H2 a y (some v) ∧ Q v H2

section
variable {X : Cx} {o i e value : Expr} {pos pos' tpos : Pos} {td ty tv : TE}
end



section
variable {X : Cx} {pos : Pos}
end


def tPairs : List (TE × TE) → St → Hp → (List (V × V) → Hp → Prop) → Prop
  | [], _, H, Q => Q [] H
  | (tk, tv) :: r, σ, H, Q => tk σ H fun x H1 => tv σ H1 fun y H2 => tPairs r σ H2 fun ps H3 => Q ((x, y) :: ps) H3
def mergeK (kvs more : List (Key × V)) : List (Key × V) := more.foldl (fun acc kv => putK acc kv.1 kv.2) kvs
def tDisp (trs : List (TE × TE)) : TE := fun σ H Q => ∀ p, H p = none → tPairs trs σ (upd H p (.dK [])) fun ps H2 => H2 p = some (.dK []) ∧ ∃ kvs : List (Key × V), ps = kvs.map (fun kv => (kV kv.1, kv.2)) ∧ kvs.length ≤ 15 ∧ Q (.ref p) (upd H2 p (.dK (mergeK [] kvs)))
def IsD (H : Hp) (a : Addr) : Prop := (∃ kvs, Rd H a (.dK kvs)) ∨ ∃ kvs, Rd H a (.dT kvs)
section
variable {X : Cx} {pins : List (Addr × Obj)} {σ : St} {H : Hp} {s : Shared} {a : Addr} {y d : V} {u r : Value} {o : Option V} {A : Around} {E : Value → Shared → Prop}

end

section
variable {X : Cx} {o e f : Expr} {apos cpos : Pos} {td ty tx : TE}
end


section
variable {X : Cx} {pins : List (Addr × Obj)} {σ : St} {H : Hp} {s : Shared} {a : Addr} {kvs : List (Key × V)} {A : Around} {E : Value → Shared → Prop}
end


section
variable {X : Cx} {pins : List (Addr × Obj)} {σ : St} {H : Hp} {s : Shared} {a : Addr} {y : V} {u : Value} {A : Around} {E : Value → Shared → Prop}

end
end L2


set_option Elab.async false
set_option linter.all false
set_option maxRecDepth 100000
set_option maxHeartbeats 1000000
namespace L2
open PySem PySem.Spec PySem.Calls PyProof.Rows PySem.W
section
variable {X : Cx} {k j : Nat} {x : Str} {p pos : Pos} {e : Expr} {es : List Expr} {tf : TE} {t : TA}

def FnV (P : Program) (w : World) (K : Frag) (mg : Str → Option Value) (base : Heap) (k : Nat) (f : Addr) (sp : Sp) : Prop := ∃ fd ps, keepIn K (.ref f) = true ∧ Binds K fd ps [] ∧ FnOk P w K mg base CX0 k f fd ps sp
def tCallV (P : Program) (w : World) (K : Frag) (mg : Str → Option Value) (base : Heap) (k : Nat) (tf : TE) (t : TA) : TE := fun σ H Q => tf σ H fun v H0 => ∃ f sp, v = .ref f ∧ FnV P w K mg base k f sp ∧ t σ H0 fun vs H1 => sp vs H1 Q E0
theorem pe_callV (hf : PE X (.Name x p) tf) (hr : Room j X.A) (hk : k ≤ j) (ha : PA X (e :: es) t)
    (he : starEach (e :: es) X.env = (false, eval e X.env) :: starEach es X.env := by rfl) (hpl : (backTo pos (starEach es X.env)).any (·.1) = false := by rfl) :
    PE X (.Call (.Name x p) (e :: es) [] pos) (tCallV X.prog X.w X.K X.mg X.base k tf t) := by
  intro pins s σ H Q I h
  refine wpAny_Call_Name_kw (thn (hf pins s σ H _ I h) fun u s0 ⟨v, H0, I0, r0, f, sp, ev, G, q⟩ => ?_)
  subst ev
  obtain rfl : u = Value.ref f := r0
  obtain ⟨fd, ps, kp, b, G⟩ := G
  refine PySem.W.callWith_K (h₀ := X.base) I0.ok.mod.kin kp (thn (ha pos pins s0 σ H0 _ I0 q) fun us s1 ⟨vs, H1, I1, r, q⟩ => ⟨I1.kIn, ?_⟩) he hpl
  exact run_fn (dvs := []) (ds := []) G (hr.mono hk) b .nil pass0 I1 r (by rw [List.append_nil]; exact q)
end

inductive EntK (w : World) : List DictEntry → List (Key × V) → Prop
  | nil : EntK w [] []
  | cons {e : DictEntry} {k : Key} {v : V} {es : List DictEntry} {kvs : List (Key × V)} : e.hash = keyH w k → keyIs k e.key = true → RelV v e.val → EntK w es kvs → EntK w (e :: es) ((k, v) :: kvs)
theorem EntK.keys {P : Program} {w : World} {es : List DictEntry} {kvs : List (Key × V)} (h : EntK w es kvs) : ∀ e ∈ es, ∃ k, (mixKind P w).is k e.key = true ∧ e.hash = (mixKind P w).hash k := by
  induction h with
  | nil => intro e he; cases he
  | cons h1 h2 h3 h4 ih =>
    intro e he
    rcases List.mem_cons.mp he with rfl | he
    · exact ⟨_, h2, h1⟩
    · exact ih e he
theorem EntK.pairs {P : Program} {w : World} {es : List DictEntry} {kvs : List (Key × V)} (h : EntK w es kvs) : ∃ vs : List (Key × Value), PySem.Pairs (mixKind P w) es vs ∧ KV kvs vs ∧ vs.map (·.1) = kvs.map (·.1) := by
  induction h with
  | nil => exact ⟨[], .nil, .nil, rfl⟩
  | @cons e k v es kvs h1 h2 h3 h4 ih =>
    obtain ⟨vs, i1, i2, i3⟩ := ih
    exact ⟨(k, e.val) :: vs, .cons h2 rfl i1, .cons ⟨rfl, h3⟩ i2, by rw [List.map_cons, List.map_cons, i3]⟩
def KDict (w : World) (K : Frag) (a : Addr) (kvs : List (Key × V)) : Prop := (a == sysModules) = false ∧ ∃ o es ep, K.lookup a = some o ∧ o.ExactDict ∧ o.data = .dict es ep ∧ EntK w es.toList kvs ∧ (kvs.map (·.1)).Nodup
section
variable {X : Cx} {pins : List (Addr × Obj)} {σ : L2.St} {H : Hp} {s : Shared} {a : Addr} {kvs : List (Key × V)}
theorem KDict.at (I : Inv X pins σ H s) (h : KDict X.w X.K a kvs) : (a == sysModules) = false ∧ ∃ vs, KV kvs vs ∧ s.heap.DictOf (mixKind X.prog X.w) a vs := by
  obtain ⟨h0, o, es, ep, h1, h2, h3, h4, h5⟩ := h
  obtain ⟨vs, i1, i2, i3⟩ := h4.pairs (P := X.prog)
  exact ⟨h0, vs, i2, o, es, ep, I.kIn a o h1, h2, h3, fun e he => h4.keys (P := X.prog) e (by simpa using he), i1, by rw [i3]; exact h5⟩
end
section
variable {X : Cx} {x : Str} {p apos cpos : Pos} {e f : Expr} {ty tx' : TE} {kvs : List (Key × V)}

def tKGet (kvs : List (Key × V)) (ty : TE) : TE := fun σ H Q => ty σ H fun y H1 => ∃ k, y = kV k ∧ Q ((valV kvs k).getD .non) H1
theorem pe_kget (hm : ∃ a, X.mg x = some (.ref a) ∧ KDict X.w X.K a kvs) (he : PE X e ty) (hg : Gl X x := by rfl) (hd : (x == ("__debug__" : Str)) = false := by decide)
    (hbase : attributeBase (.Name x p) "get" X.env (eval (.Name x p) X.env) = eval (.Name x p) X.env := by rfl)
    (hfew : ((backTo cpos (starEach [e] X.env)).all (fun x => !x.1) && (backToKw cpos (keywordEach [] X.env)).all (fun x => x.1.isSome)
      && decide (([e] : List Expr).length + ([] : List Keyword).length + (if ([] : List Keyword).isEmpty then 0 else 1) < 30)) = true := by rfl)
    (hline : (apos.endLine == cpos.line) = true := by rfl) (htr : backTo cpos (starEach [e] X.env) = [(false, eval e X.env)] := by rfl) :
    PE X (.Call (.Attribute (.Name x p) "get" apos) [e] [] cpos) (tKGet kvs ty) := by
  intro pins s σ H Q I h
  obtain ⟨a, hm, D⟩ := hm
  refine wpAny_Call_method hbase hfew hline PySem.F.plainAttrs_dict PySem.F.slot_dict_get PySem.F.type_dict_get (ld_glob I hg hm ?_ hd)
  obtain ⟨h0, vs, rel, dd⟩ := D.at I
  refine ⟨dd.typeIs, fun b q => ?_, ?_⟩
  · cases q
    obtain ⟨ob, _, _, h1, h2, _⟩ := dd
    exact ⟨ob, h1, h2.2.1⟩
  rw [htr]
  refine Calls.callWith_builtin rfl (Calls.evalArgs_plain (Calls.spliced_cons (thn (he pins s σ H _ I h) fun iv s2 ⟨y, H2, I2, ry, k, ey, q2⟩ => Calls.spliced_nil ?_)))
  subst ey
  obtain ⟨_, vs2, rel2, dd2⟩ := D.at I2
  refine call_meetsIn PySem.F.slot_dict_get dd2.typeIs PySem.F.entry_dict_get (PySem.F.args_dict_get_2 _ _) (meets_dict_get (mixKind X.prog X.w) a (kV_is ry) h0) ⟨_, dd2.mapOf, _, H2, I2.tok _, ?_, q2⟩
  exact (rel2.val k).getD rfl
end

section
variable {X : Cx} {a : Expr} {ta : TE}
def tTruK (K : Frag) (ta : TE) : TT := fun σ H Q => ta σ H fun x H' => ∃ k, TruV K x H' k ∧ Q k H'
theorem pt_truthK {K : Frag} (hK : X.K = K) (ha : PE X a ta) (he : ∀ whole, isTrue a X.env whole = (do let v ← whole; standAt a.pos; holding [v] (truthy v)) := by intro _; rfl) : PT X a (tTruK K ta) := by
  subst hK
  exact pt_truth ha he
end

section
variable {X : Cx}
def rIsA (K : Frag) (n : String) : List V → Hp → VK → Prop := fun xs H Q => ∃ x t b, xs = [x, .ty n] ∧ TyOf K H x t ∧ PySem.W.kitOne K t (.type n) = some b ∧ Q (.bl b) H
def rTupL (K : Frag) : List V → Hp → VK → Prop := fun xs H Q => ∃ p ys, xs = [.ref p] ∧ SqL K H p ys ∧ ∀ l, H l = none → Q (.ref l) (upd H l (.tup ys))
def rCatU : R2 := fun x y H Q => ∃ a b xs ys, x = .ref a ∧ y = .ref b ∧ H a = some (.tup xs) ∧ H b = some (.tup ys) ∧ xs.length + ys.length ≤ 1000000 ∧ ∀ p H', Same H H' → H' p = some (.tup (xs ++ ys)) → Q (.ref p) H'
theorem op_catU : OpR X (binaryOp .Add) rCatU := by
  intro pins s σ H x y v u Q I rx ry h
  obtain ⟨a, b, xs, ys, rfl, rfl, ha, hb, hz, q⟩ := h
  by_cases hx : xs = []
  · subst hx
    cases rx
    cases ry
    obtain ⟨its, r1, p1, _⟩ := I.tuple (SqT.of ha)
    obtain ⟨its2, r2, p2, _⟩ := I.tuple (SqT.of hb)
    obtain ⟨⟨cls, dd, data, sl⟩, ho, hc, n, hd⟩ := id p1
    obtain ⟨⟨cls2, dd2, data2, sl2⟩, ho2, hc2, n2, hd2⟩ := id p2
    simp only at hc hd hc2 hd2
    subst hc hd hc2 hd2
    have e0 : its = [] := r1.nil_iff.mpr rfl
    exact concat_meets ⟨_, ho, rfl⟩ ⟨_, ho2, rfl⟩ noFill_tuple_add seq_tuple_add PySem.F.slot_tuple_add PySem.F.entry_tuple_add (PySem.F.args_tuple_add_2 _ _)
      (tuple_addW0 a b its.toArray its2.toArray n n2 dd dd2 sl sl2 (by simp [e0])) ⟨ho, ho2, .ref b, H, I, rfl, q b H (Same.refl H) (by rw [List.nil_append]; exact hb)⟩
  · refine op_catT pins s σ H _ _ v u Q I rx ry ⟨a, b, xs, ys, rfl, rfl, SqT.of ha, SqT.of hb, hx, by rw [sizeLine_eq]; omega, fun e => q a H (Same.refl H) (by rw [e, List.append_nil]; exact ha), fun _ p hp => q p _ (same_upd hp) upd_same⟩

def rStarts : V → List V → Hp → VK → Prop := fun x vs H Q => ∃ l y, x = .str (S l) ∧ vs = [.str (S y)] ∧ Q (.bl (y.isPrefixOf l)) H
theorem starts_S (l y : List Nat) : Txt.startswith (S l) (S y) = y.isPrefixOf l := by
  unfold Txt.startswith Builtin.Str.subAt
  rw [S_len, S_len]
  by_cases h : y.length ≤ l.length
  · have h1 : decide (0 + y.length ≤ l.length) = true := by simpa using h
    rw [h1, Bool.true_and]
    have e : (S l).cps.extract 0 (0 + y.length) = (l.take y.length).toArray := by
      simp [S]
    rw [e]
    rw [Bool.eq_iff_iff, beq_iff_eq, List.isPrefixOf_iff_prefix, List.prefix_iff_eq_take]
    constructor
    · intro z
      have := congrArg Array.toList z
      simp [S] at this
      exact this.symm
    · intro z
      rw [← z]
      rfl
  · have h1 : decide (0 + y.length ≤ l.length) = false := by simpa using h
    rw [h1, Bool.false_and]
    symm
    rw [← Bool.not_eq_true, List.isPrefixOf_iff_prefix]
    intro z
    exact h z.length_le
theorem mt_startswithS : MtR X "str.startswith" rStarts := by
  intro pins s σ H x xs v us Q I rx rs h
  obtain ⟨l, y, rfl, rfl, q⟩ := h
  obtain ⟨t, rfl⟩ := rx
  obtain ⟨u, rfl, t', rfl⟩ := vals1 rs
  refine SC.startswith ⟨.bl _, H, I, rfl, ?_⟩
  rw [starts_S]
  exact q
end

theorem lc_strG {l : List Nat} {te : TE} {σ : L2.St} {H : Hp} {Q : VK} (G : Nat → V → Hp → Prop) (hG : ∀ c v H1 H2, G c v H1 → Same H1 H2 → G c v H2) (hU : ∀ c v H1 D xs ys, G c v H1 → H1 D = some (.lst xs) → G c v (upd H1 D (.lst ys))) (hl : l.length ≤ sizeLine)
    (he : ∀ c ∈ l, ∀ H1, Same H H1 → ∀ R : VK, (∀ v H2, Same H1 H2 → G c v H2 → R v H2) → te (some (.str (S [c])) :: σ) H1 R)
    (hq : ∀ D H2 ys, H D = none → Same H H2 → ys.length = l.length → (∀ (i : Nat) c v, l[i]? = some c → ys[i]? = some v → G c v H2) → H2 D = some (.lst ys) → Q (.ref D) H2) : lcBody (Its (S l)) tTrue te σ H Q := by
  intro D hD
  refine ⟨fun i m ys H' => m = l.length - i ∧ i ≤ l.length ∧ ys.length = i ∧ (∀ (j : Nat) c v, l[j]? = some c → ys[j]? = some v → G c v H') ∧ Same H H' ∧ H' D = some (.lst ys), ⟨l.length, by simp, Nat.zero_le _, rfl, by simp, same_upd hD, upd_same⟩, ?_⟩
  rintro i m ys H' ⟨rfl, hi, hy, hg, sm, hDl⟩
  refine ⟨hDl, ?_⟩
  by_cases hlt : i < l.length
  · refine .inr ⟨by show i < (S l).cps.size; rw [S_size]; exact hlt, fun v H2 y => ?_⟩
    obtain ⟨rfl, c, hc, rfl⟩ := y
    rw [S_get] at hc
    have hm : c ∈ l := List.mem_of_getElem? hc
    simp only [tTrue, ↓reduceIte]
    refine he c hm H2 sm _ fun v H4 s4 gv => ?_
    have hD4 := s4 D _ hDl
    refine ⟨hD4, by omega, l.length - (i + 1), by omega, rfl, hlt, by simp [hy], fun j c' u e1 e2 => ?_, ?_, upd_same⟩
    · refine hU _ _ _ _ _ _ ?_ hD4
      by_cases hj : j < ys.length
      · rw [List.getElem?_append_left hj] at e2
        exact hG _ _ _ _ (hg j c' u e1 e2) s4
      · rw [List.getElem?_append_right (by omega)] at e2
        have hj' : j - ys.length = 0 := by
          by_cases hz : j - ys.length = 0
          · exact hz
          · rw [List.getElem?_eq_none_iff.mpr (by simp; omega)] at e2; cases e2
        have ej : j = i := by omega
        subst ej
        rw [hj'] at e2
        simp at e2
        subst e2
        rw [hc] at e1
        cases e1
        exact gv
    · intro b o e
      rw [upd_ne (ne_of_none e hD)]
      exact s4 b o (sm b o e)
  · have e : i = l.length := by omega
    subst e
    exact .inl ⟨by show (S l).cps.size ≤ l.length; rw [S_size]; exact Nat.le_refl _, hq D H' ys hD sm hy hg hDl⟩

section
variable {X : Cx} {pins : List (Addr × Obj)} {σ : L2.St} {H : Hp} {s : Shared} {h' : Heap}

end
def Itz (K : Frag) (l1 l2 : Addr) : It := ⟨fun i H => ∃ xs ys x y, SqL K H l1 xs ∧ SqL K H l2 ys ∧ xs[i]? = some x ∧ ys[i]? = some y,
  fun i H v H' => ∃ p x y, H p = none ∧ (∀ xs, SqL K H l1 xs → xs[i]? = some x) ∧ (∀ ys, SqL K H l2 ys → ys[i]? = some y) ∧ v = .ref p ∧ H' = upd H p (.tup [x, y]),
  fun i H => ∃ xs ys, SqL K H l1 xs ∧ SqL K H l2 ys ∧ (xs.length ≤ i ∨ ys.length ≤ i)⟩
section
variable {X : Cx}
def iZip (K : Frag) (ta : TA) : TI := fun σ H R => ta σ H fun vs H1 => ∃ l1 l2, vs = [.ref l1, .ref l2] ∧ (∃ xs, SqL K H1 l1 xs) ∧ (∃ ys, SqL K H1 l2 ys) ∧ R (Itz K l1 l2) H1
end
end L2
namespace L2
open PySem PySem.Spec PySem.Calls PyProof.Rows PySem.W
theorem hu64 {A : Around} {k : Nat} (hr : Room k A) : A.units + 64 < cLine := hr.units
section
variable {X : Cx}
def rIntB : List V → Hp → VK → Prop := fun xs H Q => ∃ k, xs = [.bl k] ∧ Q (.int (if k then 1 else 0)) H
end
theorem OkF.fnv {P : Program} {w : World} {K : Frag} {mg : Str → Option Value} {base : Heap} {j k : Nat} {x : Str} {ps : List Str} {sp : Sp} {a : Addr} (F : OkF P w K mg base j x ps sp) (h : mg x = some (.ref a)) (hk : j ≤ k) : FnV P w K mg base k a sp := by
  obtain ⟨f, fd, kp, b, m, G⟩ := F.ex
  have e : f = a := by
    have := m.1
    rw [h] at this
    cases this
    rfl
  subst e
  exact ⟨fd, ps, kp, b, G.mono hk⟩
end L2
namespace L2
open PySem PySem.Spec PySem.Calls PyProof.Rows PySem.W
section
variable {X : Cx} {K : Frag} {o : Expr} {to : TE} {name : Str} {apos cpos : Pos} {T id : String} {r : V → List V → Hp → VK → Prop}
end
end L2
namespace HT
open PySem PySem.Spec PySem.Calls PyProof.Rows PySem.W
section
variable {prog : Program} {w : World} {A : Around} {E : Value → Shared → Prop} {s : Shared}
theorem getItem_tuple_whole {t sl : Addr} {items : Array Value} {vl vu : Value} {lo hi : Option Int} {Q : Value → Shared → Prop} (ht : IsTup s.heap t items) (hs : s.heap.IsSliceOf sl vl vu .none) (pl : IsPart vl lo) (pu : IsPart vu hi)
    (hw : sIx items.size 0 lo = 0 ∧ sIx items.size items.size hi = items.size) (h : Q (.ref t) s) : wpAny (model prog w) A (getItem (.ref t) (.ref sl)) Q E s := by
  obtain ⟨os, hos, hcs, hds⟩ := id hs
  have hTs : s.TypeIs (.ref sl) "slice" := ⟨os, hos, hcs⟩
  unfold getItem
  try with_reducible refine wpAny_holding ?_
  first | refine wpAny_bind (wpAny_pure ?_) | skip
  refine wpAny_bind (wpAny_sequenceKey ht.typeIs (by decide) ?_)
  refine wpAny_bind (wpAny_callSpecial?_slot (name := Str.ofString "__getitem__") ht.typeIs PyProof.Rows.slot_tuple_getitem
    (wpAny_call_entry PyProof.Rows.slot_tuple_getitem ht.typeIs entry_tuple_getitem ?_ (args_tuple_getitem _ _)))
  show wpAny _ _ (Builtin.Tuple.tupleItemsOf (.ref t) >>= _) _ _ s
  refine wpAny_bind (tupleItemsOf_ ht ?_)
  refine wpAny_bind (wpAny_typeOf hTs ?_)
  rw [if_pos (by decide)]
  refine wpAny_bind (sliceApplied_gen hs pl pu ?_)
  have hyes : (((sIx items.size 0 lo : Nat) : Int) == 0 && (1 : Int) == 1 && (sIx items.size items.size hi - sIx items.size 0 lo) == items.size) = true := by
    rw [hw.1, hw.2]
    simp
  show wpAny _ _ (if (((sIx items.size 0 lo : Nat) : Int) == 0 && (1 : Int) == 1 && (sIx items.size items.size hi - sIx items.size 0 lo) == items.size) = true then _ else _) _ _ s
  rw [if_pos hyes]
  unfold Builtin.Tuple.tupleIsExact
  refine wpAny_bind (wpAny_bind (wpAny_typeOf ht.typeIs (wpAny_pure ?_)))
  rw [if_pos (by decide)]
  exact wpAny_bind (wpAny_rule (wpAny_pure ⟨_, rfl, wpAny_pure h⟩))
end
end HT
namespace L2
open PySem PySem.Spec PySem.Calls PyProof.Rows PySem.W
section
variable {X : Cx}

def rSlU : V → Option Int → Option Int → Hp → VK → Prop := fun x lo hi H Q => ∃ a xs, x = .ref a ∧ H a = some (.tup xs) ∧ ∀ p H', Same H H' → H' p = some (.tup (cutV xs lo hi)) → Q (.ref p) H'
theorem sl_tupU : SlR X rSlU := by
  intro pins s σ H x v vl vu lo hi sl Q I rx hs pl pu h
  obtain ⟨a, xs, rfl, hx, q⟩ := h
  by_cases hw : HT.sIx xs.length 0 lo = 0 ∧ HT.sIx xs.length xs.length hi = xs.length
  · cases rx
    obtain ⟨its, r, ht, hz⟩ := I.tuple (SqT.of hx)
    have hlen : its.toArray.size = xs.length := by rw [List.size_toArray]; exact r.length.symm
    refine ⟨"tuple", _, PyProof.Rows.slot_tuple_getitem.lookup, ht.typeIs, ?_⟩
    refine HT.getItem_tuple_whole ht hs pl pu (by rw [hlen]; exact hw) ⟨.ref a, H, I, rfl, q a H (Same.refl H) ?_⟩
    rw [hx]
    unfold cutV
    rw [hw.1, hw.2, List.drop_zero, Nat.sub_zero, List.take_length]
  · exact sl_tup pins s σ H _ v vl vu lo hi sl Q I rx hs pl pu ⟨a, xs, rfl, SqT.of hx, hw, fun p hp => q p _ (same_upd hp) upd_same⟩
end

theorem seq_gen {a b : TS} {D : Ends} {σ : L2.St} {H : Hp} (R : L2.St → Hp → Prop) (hr : ∀ σ' H', R σ' H' → b D σ' H') (h : ∀ N : L2.St → Hp → Prop, (∀ σ' H', R σ' H' → N σ' H') → a { D with nx := N } σ H) : tSeq a b D σ H := h (b D) hr
theorem none_of_upd {H : Hp} {p q : Addr} {o : HO} (h : upd H p o q = none) : H q = none := by
  unfold upd at h
  by_cases e : q = p
  · rw [if_pos e] at h; cases h
  · rw [if_neg e] at h; exact h
end L2
namespace L2
open PySem PySem.Spec PySem.Calls PyProof.Rows PySem.W
theorem evA_of {H : Hp} : ∀ {l : List Nat} {ys : List V}, ys.length = l.length → (∀ (i : Nat) c v, l[i]? = some c → ys[i]? = some v → EvV H v [eSign, [c]]) → EvA H ys (l.map fun k => [eSign, [k]])
  | [], [], _, _ => .nil
  | c :: l, y :: ys, h, hG => .cons (hG 0 c y rfl rfl) (evA_of (by simpa using h) fun i c' v e1 e2 => hG (i + 1) c' v (by simpa using e1) (by simpa using e2))
  | [], _ :: _, h, _ => by simp at h
  | _ :: _, [], h, _ => by simp at h
end L2

set_option Elab.async false
set_option linter.all false
set_option maxRecDepth 100000
set_option maxHeartbeats 1000000
namespace L2
open PySem PySem.Spec PySem.Calls PyProof.Rows PySem.W

structure QE (X : Cx) (e : Expr) (t : TE) : Prop where
  h : PE X e t
structure QT (X : Cx) (e : Expr) (t : TT) : Prop where
  h : PT X e t
structure QW (X : Cx) (e : Expr) (t : TT) : Prop where
  h : PW X e t
structure QA (X : Cx) (es : List Expr) (t : TA) : Prop where
  h : PA X es t
structure QS (X : Cx) (st : Stmt) (t : TS) : Prop where
  h : PS X st t
structure QSs (X : Cx) (st : List Stmt) (t : TS) : Prop where
  h : PSs X st t
structure QI (X : Cx) (tg iter : Expr) (wi : TI) : Prop where
  h : PI X tg iter wi
structure QG (X : Cx) (target : Expr) (t : TG) : Prop where
  h : PG X target t
structure QGs (X : Cx) (ts : List Expr) (t : TGs) : Prop where
  h : PGs X ts t
structure QO (X : Cx) (e : Option Expr) (t : TO) : Prop where
  h : PO X e t
structure QTs (X : Cx) (ifs : List Expr) (t : TT) : Prop where
  h : PTs X ifs t
section
set_option autoImplicit true
set_option relaxedAutoImplicit true
theorem qa_cons {X : Cx} (ha : QE X e te) (hr : QA X es t) (hs : starEach (e :: es) X.env = (false, eval e X.env) :: starEach es X.env := by rfl) : QA X (e :: es) (tCons te t) := ⟨pa_cons (ha := ha.h) (hr := hr.h) (hs := hs)⟩
theorem qa_nil {X : Cx} : QA X [] tNil := ⟨pa_nil ⟩
theorem qe_S {X : Cx} {x : Str} {l : List Nat} {j pos} (h : x = S l) : QE X (.Constant (.str x) j pos) (tC (.str (S l))) := ⟨pe_S (h := h)⟩
theorem qe_atX {X : Cx} {K : Frag} {e : Expr} {te : TE} {f : Str} {pos : Pos} (hK : X.K = K) (he : QE X e te) (hb : attributeBase e f X.env (eval e X.env) = eval e X.env := by rfl) : QE X (.Attribute e f pos) (tAtX K te f) := ⟨pe_atX (hK := hK) (he := he.h) (hb := hb)⟩
theorem qe_bl {X : Cx} {b j pos} : QE X (.Constant (.bool b) j pos) (tC (.bl b)) := ⟨pe_bl ⟩
theorem qe_blt {X : Cx} {v : V} {u : Value} {pos : Pos} (hm : X.mg x = none) (hv : bootBuiltins x = some u) (r : RelV v u) (hg : Gl X x := by rfl) (hn : x ≠ "__name__" := by decide) (hd : (x == ("__debug__" : Str)) = false := by decide) : QE X (.Name x pos) (tC v) := ⟨pe_blt (hm := hm) (hv := hv) (r := r) (hg := hg) (hn := hn) (hd := hd)⟩
theorem qe_bmK {X : Cx} {id : String} {K : Frag} (hK : X.K = K) (pa : PlainAttrs T) (slot : Slot T name id) (hty : typeOf (.builtin id) = pure (.type "method_descriptor")) (hm : MtR X id r) (ho : QE X o to) (ha : QA X (e :: es) t)
    (hbase : attributeBase o name X.env (eval o X.env) = eval o X.env := by rfl)
    (hfew : ((backTo cpos (starEach (e :: es) X.env)).all (fun x => !x.1) && (backToKw cpos (keywordEach [] X.env)).all (fun x => x.1.isSome)
      && decide ((e :: es).length + ([] : List Keyword).length + (if ([] : List Keyword).isEmpty then 0 else 1) < 30)) = true := by rfl)
    (hline : (apos.endLine == cpos.line) = true := by rfl) (hs : starEach (e :: es) X.env = (false, eval e X.env) :: starEach es X.env := by rfl) (hplain : (backTo cpos (starEach es X.env)).any (·.1) = false := by rfl) :
    QE X (.Call (.Attribute o name apos) (e :: es) [] cpos) (tBM K T r to t) := ⟨pe_bmK (hK := hK) (pa := pa) (slot := slot) (hty := hty) (hm := hm) (ho := ho.h) (ha := ha.h) (hbase := hbase) (hfew := hfew) (hline := hline) (hs := hs) (hplain := hplain)⟩
theorem qe_callB {X : Cx} {id : String} (hc : CallR X (.builtin id) r) (hg : Gl X x) (hm : X.mg x = none) (hv : bootBuiltins x = some (.builtin id)) (ha : QA X (e :: es) t) (hn : x ≠ "__name__" := by decide) (hdb : (x == ("__debug__" : Str)) = false := by decide)
    (he : starEach (e :: es) X.env = (false, eval e X.env) :: starEach es X.env := by rfl) (hpl : (backTo pos (starEach es X.env)).any (·.1) = false := by rfl) : QE X (.Call (.Name x p) (e :: es) [] pos) (tCB r t) := ⟨pe_callB (hc := hc) (hg := hg) (hm := hm) (hv := hv) (ha := ha.h) (hn := hn) (hdb := hdb) (he := he) (hpl := hpl)⟩
theorem qe_callF {X : Cx} (F : OkF X.prog X.w X.K X.mg X.base k x ps sp) (hr : Room j X.A) (hk : k ≤ j) (ha : QA X (e :: es) t) (hg : Gl X x := by rfl) (hdb : (x == ("__debug__" : Str)) = false := by decide)
    (he : starEach (e :: es) X.env = (false, eval e X.env) :: starEach es X.env := by rfl) (hpl : (backTo pos (starEach es X.env)).any (·.1) = false := by rfl) : QE X (.Call (.Name x p) (e :: es) [] pos) (tCall sp [] E0 t) := ⟨pe_callF (F := F) (hr := hr) (hk := hk) (ha := ha.h) (hg := hg) (hdb := hdb) (he := he) (hpl := hpl)⟩
theorem qe_callF0 {X : Cx} (F : OkF X.prog X.w X.K X.mg X.base k x ps sp) (hr : Room j X.A) (hk : k ≤ j) (hg : Gl X x := by rfl) (hdb : (x == ("__debug__" : Str)) = false := by decide) : QE X (.Call (.Name x p) [] [] pos) (tCall sp [] E0 tNil) := ⟨pe_callF0 (F := F) (hr := hr) (hk := hk) (hg := hg) (hdb := hdb)⟩
theorem qe_callN {X : Cx} (F : OkX X.prog X.w X.K X.mg X.base k x ps sp) (hr : Room j X.A) (hk : k ≤ j) (ha : QA X (e :: es) t) (hg : Gl X x := by rfl) (hdb : (x == ("__debug__" : Str)) = false := by decide)
    (he : starEach (e :: es) X.env = (false, eval e X.env) :: starEach es X.env := by rfl) (hpl : (backTo pos (starEach es X.env)).any (·.1) = false := by rfl) : QE X (.Call (.Name x p) (e :: es) [] pos) (tCall sp [] E0 t) := ⟨pe_callN (F := F) (hr := hr) (hk := hk) (ha := ha.h) (hg := hg) (hdb := hdb) (he := he) (hpl := hpl)⟩
theorem qe_callTy {X : Cx} (hc : CallR X (.type T) r) (hg : Gl X x) (hm : X.mg x = none) (hv : bootBuiltins x = some (.type T)) (ha : QA X (e :: es) t) (hn : x ≠ "__name__" := by decide) (hdb : (x == ("__debug__" : Str)) = false := by decide)
    (he : starEach (e :: es) X.env = (false, eval e X.env) :: starEach es X.env := by rfl) (hpl : (backTo pos (starEach es X.env)).any (·.1) = false := by rfl) : QE X (.Call (.Name x p) (e :: es) [] pos) (tCB r t) := ⟨pe_callTy (hc := hc) (hg := hg) (hm := hm) (hv := hv) (ha := ha.h) (hn := hn) (hdb := hdb) (he := he) (hpl := hpl)⟩
theorem qe_callV {X : Cx} (hf : QE X (.Name x p) tf) (hr : Room j X.A) (hk : k ≤ j) (ha : QA X (e :: es) t)
    (he : starEach (e :: es) X.env = (false, eval e X.env) :: starEach es X.env := by rfl) (hpl : (backTo pos (starEach es X.env)).any (·.1) = false := by rfl) :
    QE X (.Call (.Name x p) (e :: es) [] pos) (tCallV X.prog X.w X.K X.mg X.base k tf t) := ⟨pe_callV (hf := hf.h) (hr := hr) (hk := hk) (ha := ha.h) (he := he) (hpl := hpl)⟩
theorem qe_callX {X : Cx} (hx : Thr X E) (F : OkX X.prog X.w X.K X.mg X.base k x ps sp) (hr : Room j X.A) (hk : k ≤ j) (ha : QA X (e :: es) t) (hg : Gl X x := by rfl) (hdb : (x == ("__debug__" : Str)) = false := by decide)
    (he : starEach (e :: es) X.env = (false, eval e X.env) :: starEach es X.env := by rfl) (hpl : (backTo pos (starEach es X.env)).any (·.1) = false := by rfl) : QE X (.Call (.Name x p) (e :: es) [] pos) (tCallX sp E t) := ⟨pe_callX (hx := hx) (F := F) (hr := hr) (hk := hk) (ha := ha.h) (hg := hg) (hdb := hdb) (he := he) (hpl := hpl)⟩
theorem qe_cmpR {X : Cx} {op : CmpOp} {r : R2} (ho : OpR X (compareOp op) r) (ha : QE X a ta) (hb : QE X b tb) (hm : behindInMarks op b = false) : QE X (.Compare a [op] [b] pos) (tOp r ta tb) := ⟨pe_cmpR (ho := ho) (ha := ha.h) (hb := hb.h) (hm := hm)⟩
theorem qe_gl {X : Cx} {v : V} {pos : Pos} (h : ∃ u, X.mg x = some u ∧ RelV v u) (hg : Gl X x := by rfl) (hd : (x == ("__debug__" : Str)) = false := by decide) : QE X (.Name x pos) (tC v) := ⟨pe_gl (h := h) (hg := hg) (hd := hd)⟩
theorem qe_ifExp {X : Cx} {c : Expr} (hc : QT X c tA) (ha : QE X a ta) (hb : QE X b tb) : QE X (.IfExp c a b pos) (tIf tA ta tb) := ⟨pe_ifExp (hc := hc.h) (ha := ha.h) (hb := hb.h)⟩
theorem qe_int {X : Cx} {i j pos} : QE X (.Constant (.int i) j pos) (tC (.int i)) := ⟨pe_int ⟩
theorem qe_ix {X : Cx} {r : R2} (hr : IxR X r) (ha : QE X a ta) (hb : QE X b tb) (hs : PlainIx b) : QE X (.Subscript a b pos) (tOp r ta tb) := ⟨pe_ix (hr := hr) (ha := ha.h) (hb := hb.h) (hs := hs)⟩
theorem qe_kget {X : Cx} (hm : ∃ a, X.mg x = some (.ref a) ∧ KDict X.w X.K a kvs) (he : QE X e ty) (hg : Gl X x := by rfl) (hd : (x == ("__debug__" : Str)) = false := by decide)
    (hbase : attributeBase (.Name x p) "get" X.env (eval (.Name x p) X.env) = eval (.Name x p) X.env := by rfl)
    (hfew : ((backTo cpos (starEach [e] X.env)).all (fun x => !x.1) && (backToKw cpos (keywordEach [] X.env)).all (fun x => x.1.isSome)
      && decide (([e] : List Expr).length + ([] : List Keyword).length + (if ([] : List Keyword).isEmpty then 0 else 1) < 30)) = true := by rfl)
    (hline : (apos.endLine == cpos.line) = true := by rfl) (htr : backTo cpos (starEach [e] X.env) = [(false, eval e X.env)] := by rfl) :
    QE X (.Call (.Attribute (.Name x p) "get" apos) [e] [] cpos) (tKGet kvs ty) := ⟨pe_kget (hm := hm) (he := he.h) (hg := hg) (hd := hd) (hbase := hbase) (hfew := hfew) (hline := hline) (htr := htr)⟩
theorem qe_lst {X : Cx} (h : QA X es t) : QE X (.List es pos) (tLst t) := ⟨pe_lst (h := h.h)⟩
theorem qe_non {X : Cx} {j pos} : QE X (.Constant .none j pos) (tC .non) := ⟨pe_non ⟩
theorem qe_op {X : Cx} {op : Operator} {r : R2} (ho : OpR X (binaryOp op) r) (ha : QE X a ta) (hb : QE X b tb) : QE X (.BinOp a op b pos) (tOp r ta tb) := ⟨pe_op (ho := ho) (ha := ha.h) (hb := hb.h)⟩
theorem qe_slice {X : Cx} {lo hi : Option Expr} {r : V → Option Int → Option Int → Hp → VK → Prop} (hr : SlR X r) (he : QE X e te) (hl : QO X lo tl) (hu : QO X hi th) : QE X (.Subscript e (.Slice lo hi none p2) pos) (tSl r te tl th) := ⟨pe_slice (hr := hr) (he := he.h) (hl := hl.h) (hu := hu.h)⟩
theorem qe_tup {X : Cx} {x1} (h : QA X es t) : QE X (.Tuple es x1 pos) (tTup t) := ⟨pe_tup (h := h.h)⟩
theorem qe_un {X : Cx} {op : UnaryOp} {r : V → Hp → VK → Prop} (ho : UnR X (unaryOp op) r) (ha : QE X a ta) : QE X (.UnaryOp op a pos) (tUn r ta) := ⟨pe_un (ho := ho) (ha := ha.h)⟩
theorem qg_name {X : Cx} {i : Nat} {x : Str} (hN : X.N.Nodup) (hi : X.N[i]? = some x) (hx : Loc X.env.scope x) (hf : X.fn x = true ∨ X.env.scope.names.lookup x = some .local := by first | exact .inl rfl | exact .inr rfl | assumption) : QG X (.Name x pos) (gName i) := ⟨pg_name (hN := hN) (hi := hi) (hx := hx) (hf := hf)⟩
theorem qg_tup {X : Cx} {es : List Expr} {k : Nat} {t : TGs} {n : Nat} (hc : X.calm = true) (h : QGs X es t)
    (hn : (assignEach es X.env).length = n := by rfl) (hst : (assignEach es X.env).findIdx? (·.1) = none := by rfl) : QG X (.Tuple es k pos) (gTup X.K n t) := ⟨pg_tup (hc := hc) (h := h.h) (hn := hn) (hst := hst)⟩
theorem qgs_cons {X : Cx} {e : Expr} {es : List Expr} {t : TG} {u : TGs} (h1 : QG X e t) (h2 : QGs X es u)
    (hs : (assignEach (e :: es) X.env).map (·.2) = assign e X.env :: (assignEach es X.env).map (·.2) := by rfl) : QGs X (e :: es) (gCons t u) := ⟨pgs_cons (h1 := h1.h) (h2 := h2.h) (hs := hs)⟩
theorem qgs_nil {X : Cx} : QGs X [] gNil := ⟨pgs_nil ⟩
theorem qi_enumS {X : Cx} {a : Expr} {ta : TA} {p pos : Pos} {elts : List Expr} {ek : Nat} {epos : Pos} (hg : Gl X "enumerate") (hm : X.mg "enumerate" = none) (ha : QA X [a] ta) (hs : starEach [a] X.env = [(false, eval a X.env)] := by rfl) :
    QI X (.Tuple elts ek epos) (.Call (.Name "enumerate" p) [a] [] pos) (iEnumS ta) := ⟨pi_enumS (hg := hg) (hm := hm) (ha := ha.h) (hs := hs)⟩
theorem qi_listK {X : Cx} {K : Frag} {tg l : Expr} {tl : TE} (hK : X.K = K) (hl : QE X l tl) : QI X tg l (iList K tl) := ⟨pi_listK (hK := hK) (hl := hl.h)⟩
theorem qi_range1 {X : Cx} {a : Expr} {ta : TA} {p pos : Pos} (hg : Gl X "range") (hm : X.mg "range" = none) (ha : QA X [a] ta) (hs : starEach [a] X.env = [(false, eval a X.env)] := by rfl) : QI X tg (.Call (.Name "range" p) [a] [] pos) (iRng1 ta) := ⟨pi_range1 (hg := hg) (hm := hm) (ha := ha.h) (hs := hs)⟩
theorem qi_str {X : Cx} {l : Expr} {tl : TE} (hl : QE X l tl) : QI X tg l (iStr tl) := ⟨pi_str (hl := hl.h)⟩
theorem qi_tupK {X : Cx} {K : Frag} {tg l : Expr} {tl : TE} (hK : X.K = K) (hl : QE X l tl) : QI X tg l (iTup K tl) := ⟨pi_tupK (hK := hK) (hl := hl.h)⟩
theorem qo_none {X : Cx} : QO X none tNoPart := ⟨po_none ⟩
theorem qo_some {X : Cx} (h : QE X e te) : QO X (some e) (tPart te) := ⟨po_some (h := h.h)⟩
theorem qs_asg {X : Cx} {tg e : Expr} {te : TE} {g : TG} (he : QE X e te) (hg : QG X tg g) (hs : swapsWithSole [tg] e pos.line X.env = pure false := by rfl) (hw : swappedStores [tg] e X.env = pure none := by rfl)
    (h1 : (assignEach [tg] X.env).map (·.2) = [assign tg X.env] := by rfl) : QS X (.Assign [tg] e pos) (tAsg te g) := ⟨ps_asg (he := he.h) (hg := hg.h) (hs := hs) (hw := hw) (h1 := h1)⟩
theorem qs_expr {X : Cx} (he : QE X e te) (hs : swapsWith e none pos.line X.env = pure false := by rfl) : QS X (.Expr e pos) (tDrop te) := ⟨ps_expr (he := he.h) (hs := hs)⟩
theorem qs_for {X : Cx} {iter : Expr} {body : List Stmt} {wi : TI} {g : TG} {tb : TS} {pos : Pos} (hp : PassesOwn (model X.prog X.w) X.A X.env X.xe) (hc : X.calm = true) (hi : QI X tg iter wi) (hg : QG X tg g) (hb : QSs X body tb)
    (hs : ∀ x, foldedSetIterable iter X.env x = pure x := by intro _; rfl) : QS X (.For tg iter body [] pos) (tFor wi g tb) := ⟨ps_for (hp := hp) (hc := hc) (hi := hi.h) (hg := hg.h) (hb := hb.h) (hs := hs)⟩
theorem qs_if {X : Cx} {c : Expr} {a b : List Stmt} {tc : TT} (hc : QT X c tc) (ha : QSs X a t) (hb : QSs X b u) : QS X (.If c a b pos) (tIfS tc t u) := ⟨ps_if (hc := hc.h) (ha := ha.h) (hb := hb.h)⟩
theorem qs_raise {X : Cx} (hx : Thr X E) (R : Err X.prog X.w X.K X.mg X.base x C f pay) (hr : Room j X.A) (hj : 2 ≤ j) (ha : QA X (e :: es) t) (hg : Gl X x := by rfl) (hdb : (x == ("__debug__" : Str)) = false := by decide)
    (he : starEach (e :: es) X.env = (false, eval e X.env) :: starEach es X.env := by rfl) (hpl : (backTo cpos (starEach es X.env)).any (·.1) = false := by rfl) :
    QS X (.Raise (some (.Call (.Name x np) (e :: es) [] cpos)) none pos) (tRaise C f pay E t) := ⟨ps_raise (hx := hx) (R := R) (hr := hr) (hj := hj) (ha := ha.h) (hg := hg) (hdb := hdb) (he := he) (hpl := hpl)⟩
theorem qs_ret {X : Cx} (he : QE X e te) : QS X (.Return (some e) pos) (tRet te) := ⟨ps_ret (he := he.h)⟩
theorem qs_set {X : Cx} {i : Nat} {x : Str} {e : Expr} {te : TE} {pos' : Pos} (hN : X.N.Nodup) (hi : X.N[i]? = some x) (hx : Loc X.env.scope x) (he : QE X e te) (hs : swapsWith e (some (.Name x pos')) pos.line X.env = pure false := by rfl) (hf : X.fn x = true ∨ X.env.scope.names.lookup x = some .local := by first | exact .inl rfl | exact .inr rfl | assumption) :
    QS X (.Assign [.Name x pos'] e pos) (tAsg te (gName i)) := ⟨ps_set (hN := hN) (hi := hi) (hx := hx) (he := he.h) (hs := hs) (hf := hf)⟩
theorem qs_try {X : Cx} (hm : X.mg x = some (.ref Dc)) (cD : XCl X.K Dc) (hN : X.N.Nodup) (hi : X.N[i]? = some n) (hl : X.env.scope.names.lookup n = some .local) (hst : X.stack = X.env :: X.outer) (hf : X.env.frame = some X.env.locals)
    (hb : ∀ (E : XS) (pn : List (Addr × Obj)) (xe : Value → Shared → Prop), PassesOwn (model X.prog X.w) X.A X.env xe → Thr (X.tryIn pn xe) E → QSs (X.tryIn pn xe) body (tb E))
    (hh : ∀ pn ea, QSs (X.exIn pn ea) (b₀ :: suite) th) (hg : Gl X x := by rfl) (hdb : (x == ("__debug__" : Str)) = false := by decide) :
    QS X (.Try body [.ExceptHandler (some (.Name x np)) (some n) (b₀ :: suite) hpos] [] [] pos) (tTry X.K Dc i tb th) := ⟨ps_try (hm := hm) (cD := cD) (hN := hN) (hi := hi) (hl := hl) (hst := hst) (hf := hf) (hb := fun E pn xe a b => (hb E pn xe a b).h) (hh := fun pn ea => (hh pn ea).h) (hg := hg) (hdb := hdb)⟩
theorem qss_cons {X : Cx} {rest : List Stmt} {st : Stmt} (h1 : QS X st t) (h2 : QSs X rest u) : QSs X (st :: rest) (tSeq t u) := ⟨pss_cons (h1 := h1.h) (h2 := h2.h)⟩
theorem qss_nil {X : Cx} : QSs X [] tNext := ⟨pss_nil ⟩
theorem qss_one {X : Cx} {st : Stmt} (h1 : QS X st t) : QSs X [st] t := ⟨pss_one (h1 := h1.h)⟩
theorem qt_cmpR {X : Cx} {op : CmpOp} {r : R2} (ho : OpR X (compareOp op) r) (ha : QE X a ta) (hb : QE X b tb) (hm : behindInMarks op b = false) : QT X (.Compare a [op] [b] pos) (tTest (tOp r ta tb)) := ⟨pt_cmpR (ho := ho) (ha := ha.h) (hb := hb.h) (hm := hm)⟩
theorem qt_not {X : Cx} (ha : QT X a tA) : QT X (.UnaryOp .Not a pos) (tNot tA) := ⟨pt_not (ha := ha.h)⟩
theorem qt_truthK {X : Cx} {K : Frag} (hK : X.K = K) (ha : QE X a ta) (he : ∀ whole, isTrue a X.env whole = (do let v ← whole; standAt a.pos; holding [v] (truthy v)) := by intro _; rfl) : QT X a (tTruK K ta) := ⟨pt_truthK (hK := hK) (ha := ha.h) (he := he)⟩
theorem qt_val {X : Cx} {e : Expr} {t : TE} (h : QE X e t) (he : ∀ whole, isTrue e X.env whole = (do let v ← whole; standAt e.pos; holding [v] (truthy v)) := by intro _; rfl) : QT X e (tB t) := ⟨pt_val (h := h.h) (he := he)⟩
theorem qts_nil {X : Cx} : QTs X [] tTrue := ⟨pts_nil ⟩
theorem qts_one {X : Cx} {c : Expr} {t : TT} (h : QT X c t) : QTs X [c] t := ⟨pts_one (h := h.h)⟩
theorem qv {X : Cx} (i : Nat) {x : Str} {pos : Pos} (hN : X.N[i]? = some x := by rfl) (hv : Vis X.env.scope x := by first | exact Or.inl rfl | exact Or.inr (Or.inl rfl) | exact Or.inr (Or.inr rfl)) (hd : (x == ("__debug__" : Str)) = false := by decide)
    (hcd : (x == ("__classdict__" : Str)) = false := by decide) : QE X (.Name x pos) (tVar i) := ⟨pv (i := i) (hN := hN) (hv := hv) (hd := hd) (hcd := hcd)⟩
theorem qw_and {X : Cx} {rest : List Expr} (ha : QT X a tA) (hb : QW X (.BoolOp .And (b :: rest) pos) tB') : QW X (.BoolOp .And (a :: b :: rest) pos) (tAnd tA tB') := ⟨pw_and (ha := ha.h) (hb := hb.h)⟩
theorem qw_and1 {X : Cx} (ha : QT X a tA) : QW X (.BoolOp .And [a] pos) tA := ⟨pw_and1 (ha := ha.h)⟩
theorem qw_or {X : Cx} {rest : List Expr} (ha : QT X a tA) (hb : QW X (.BoolOp .Or (b :: rest) pos) tB') : QW X (.BoolOp .Or (a :: b :: rest) pos) (tOr tA tB') := ⟨pw_or (ha := ha.h) (hb := hb.h)⟩
theorem qw_or1 {X : Cx} (ha : QT X a tA) : QW X (.BoolOp .Or [a] pos) tA := ⟨pw_or1 (ha := ha.h)⟩
theorem QW.qt {X : Cx} {e : Expr} {t : TT} (h : QW X e t) : QT X e t := ⟨h.h.pt⟩
end
end L2

set_option linter.all false
set_option autoImplicit false
namespace L2
open PySem PySem.Spec PySem.Calls PyProof.Rows PySem.W
section
variable {X : Cx} {pins : List (Addr × Obj)} {σ : St} {H : Hp} {s : Shared} {a b : Addr} {kvs more : List (Key × V)} {A : Around} {E : Value → Shared → Prop}

end
def tDUpd (td ty : TE) : TE := fun σ H Q => td σ H fun x H1 => ∃ a, x = .ref a ∧ IsD H1 a ∧ ty σ H1 fun y H2 => ∃ b kvs more, y = .ref b ∧ a ≠ b ∧ H2 a = some (.dK kvs) ∧ H2 b = some (.dK more) ∧ kvs.length + more.length ≤ sizeLine ∧ Q .non (upd H2 a (.dK (mergeK kvs more)))
section
variable {X : Cx} {o e : Expr} {apos cpos : Pos} {td ty : TE}
end
end L2

set_option Elab.async false
set_option linter.all false
set_option maxRecDepth 100000
namespace L2
open PySem PySem.Spec PyProof.Rows
section
variable {X : Cx} {tg : Expr}

def Itd (lo d : Int) (n : Nat) : It := ⟨fun i _ => i < n, fun i H x H' => H' = H ∧ x = .int (lo + i * d), fun i _ => n ≤ i⟩
def iRng3 (ta : TA) : TI := fun σ H R => ta σ H fun vs H1 => ∃ i j k : Int, vs = [.int i, .int j, .int k] ∧ (k ≠ 0 ∧ Builtin.Range.small i j k = true ∧ Builtin.divisionGoesByPylong (j - i) k = false) ∧ ∃ n : Nat, (n : Int) = Builtin.Range.rangeSize i j k ∧ R (Itd i k n) H1
end
end L2


set_option Elab.async false
set_option linter.all false
set_option maxRecDepth 100000
set_option maxHeartbeats 1000000
namespace L2
open PySem PySem.Spec PyProof.Rows

section
variable {X : Cx} {elt iter : Expr} {x : Str} {px pos : Pos} {ifs : List Expr} {scope : Scope} {wi : TI} {tt : TT} {te : TE}
end
end L2

set_option Elab.async false
set_option linter.all false
set_option maxRecDepth 100000
namespace L2
open PySem PySem.Spec PyProof.Rows
section
variable {X : Cx}

def rMulL : R2 := fun x y H Q => ∃ (a : Addr) (xs : List V) (n : Int), x = .ref a ∧ y = .int n ∧ H a = some (.lst xs) ∧ 0 ≤ n ∧ n ≤ 100000 ∧ xs.length * n.toNat ≤ 16777216 ∧ ∀ p, H p = none → Q (.ref p) (upd H p (.lst (List.replicate n.toNat xs).flatten))
theorem vals_app {xs ys : List V} {us vs : List Value} (h : Vals xs us) (k : Vals ys vs) : Vals (xs ++ ys) (us ++ vs) := by
  induction h with
  | nil => exact k
  | cons a _ ih => exact .cons a ih
theorem vals_rep {xs : List V} {us : List Value} (h : Vals xs us) : ∀ n, Vals (List.replicate n xs).flatten (List.replicate n us).flatten
  | 0 => .nil
  | n + 1 => by
    rw [List.replicate_succ, List.replicate_succ, List.flatten_cons, List.flatten_cons]
    exact vals_app h (vals_rep h n)
theorem rep_len {α : Type} (xs : List α) (n : Nat) : (List.replicate n xs).flatten.length = xs.length * n := by
  induction n with
  | zero => simp
  | succ n ih => rw [List.replicate_succ, List.flatten_cons, List.length_append, ih, Nat.mul_succ, Nat.add_comm]
theorem op_mulL : OpR X (binaryOp .Mult) rMulL := by
  intro pins s σ H x y v u Q I rx ry h
  obtain ⟨a, xs, n, rfl, rfl, ha, h0, h1, hz, q⟩ := h
  cases rx
  obtain ⟨t, rfl⟩ := ry
  obtain ⟨its, rv, p⟩ := lst_at I ha
  obtain ⟨⟨cls, dd, data, sl⟩, ho, hc, k, hd⟩ := id p
  simp only at hc hd
  subst hc hd
  have hlen := rv.length
  have hw : (List.foldl (fun x1 x2 => x1 ++ x2) #[] (List.replicate (if its.toArray.isEmpty = true then 0 else n.toNat) its.toArray)) = ((List.replicate n.toNat its).flatten).toArray := by
    rw [listMul_foldl]
    split
    · rename_i he
      have : its = [] := by simpa using he
      subst this
      simp
    · simp
  refine wpAny_binaryOp_repeat_ref (T := "list") (U := "int") (by decide) ⟨_, ho, rfl⟩ (fun s' => typeIs_int s' n t) noFill_list_mul F.fills_int_mul F.slot_int_rmul repeat_list F.slot_int_index.lookup
    (call_meets F.slot_int_rmul (typeIs_int s n t) F.entry_int_rmul (F.args_int_rmul_2 _ _) (lm_int_rmul_list_any n t a its.toArray k dd sl) ⟨ho, rfl, ⟨_, ho, rfl⟩,
      call_meets F.slot_list_mul ⟨_, ho, rfl⟩ F.entry_list_mul (F.args_list_mul_2 _ _) (lm_list_mul_any a its.toArray k dd sl n t ?_ ?_ ?_) ⟨ho, ?_⟩⟩)
  · show ¬ (!(decide (-(2 ^ 63 : Int) ≤ n) && decide (n < 2 ^ 63))) = true
    rw [decide_eq_true (by omega), decide_eq_true (by omega)]
    decide
  · have : its.toArray.size = xs.length := by simp [hlen]
    rw [this]
    omega
  · have : its.toArray.size = xs.length := by simp [hlen]
    rw [this]
    show ¬ decide (_ > sizeLine) = true
    rw [sizeLine_eq]
    simp
    omega
  · rw [hw]
    refine ⟨.ref s.heap.objs.size, _, I.laid (t' := s.toks) (o := .lst (List.replicate n.toNat xs).flatten) (fun b o e => Heap.get?_push_of_some _ e) (Nat.le_refl _) ⟨by rw [rep_len, sizeLine_eq]; omega, _, 0, vals_rep rv n.toNat, Heap.get?_push_size _ rfl⟩, rfl, q _ (I.hok.fresh (Nat.le_refl _))⟩

def rIsB : R2 := fun x y H Q => ∃ c, y = .bl c ∧ ((∃ b, x = .bl b ∧ Q (.bl (b == c)) H))
def rIsNotB : R2 := fun x y H Q => ∃ c, y = .bl c ∧ ((∃ b, x = .bl b ∧ Q (.bl (!(b == c))) H))
theorem same_bool (b c : Bool) : isSame (.bool b) (.bool c) = pure (b == c) := by cases b <;> cases c <;> rfl
theorem op_isnotB : OpR X (compareOp .IsNot) rIsNotB := by
  intro pins s σ H x y v u Q I rx ry h
  obtain ⟨c, rfl, b, rfl, q⟩ := h
  cases rx
  cases ry
  show wpAny _ _ (do let r ← isSame (.bool b) (.bool c); pure (Value.bool !r)) _ _ s
  rw [same_bool]
  exact wpAny_bind (wpAny_pure (wpAny_pure (fin_bl I q rfl)))

def rAllB : List V → Hp → VK → Prop := fun xs H Q => ∃ (p : Addr) (bs : List Bool), xs = [.ref p] ∧ H p = some (.lst (bs.map V.bl)) ∧ Q (.bl (bs.all id)) H
end
end L2
namespace L2
open PySem PySem.Spec PyProof.Rows
section
variable {X : Cx}

def rEqTS : R2 := fun x y H Q => (∃ (a : Addr) (xs : List V) (z : Str), x = .ref a ∧ y = .str z ∧ H a = some (.tup xs) ∧ Q (.bl false) H) ∨ ∃ l m : List Nat, x = .str (S l) ∧ y = .str (S m) ∧ Q (.bl (decide (l = m))) H
end
end L2

set_option Elab.async false
set_option linter.all false
set_option maxRecDepth 100000
namespace L2
open PySem PySem.Spec PyProof.Rows

def pdV : V → Option PyData
  | .non => some .none
  | .bl b => some (.bool b)
  | .int i => some (.int i)
  | .str x => some (.str x)
  | _ => none
def pdVs : List V → Option (List PyData)
  | [] => some []
  | v :: r => match pdV v, pdVs r with
    | some d, some ds => some (d :: ds)
    | _, _ => none
inductive PdA (H : Hp) : Addr → PyData → Prop
  | lst {a xs ds} : H a = some (.lst xs) → pdVs xs = some ds → PdA H a (.list ds)
  | tup {a xs ds} : H a = some (.tup xs) → pdVs xs = some ds → PdA H a (.tuple ds)
  | dct {a} {kvs : List (Key × V)} {ks vs : List PyData} : H a = some (.dK kvs) → pdVs (kvs.map fun e => kV e.1) = some ks → pdVs (kvs.map fun e => e.2) = some vs → PdA H a (.dict (ks.zip vs))
theorem PdA.mono {H H' : Hp} {a : Addr} {d : PyData} (h : PdA H a d) (g : Same H H') : PdA H' a d := by
  cases h with
  | lst h e => exact .lst (g _ _ h) e
  | tup h e => exact .tup (g _ _ h) e
  | dct h e k => exact .dct (g _ _ h) e k
def PdT (H : Hp) (x : V) (d : PyData) : Prop := pdV x = some d ∨ ∃ a, x = .ref a ∧ PdA H a d
theorem PdT.mono {H H' : Hp} {x : V} {d : PyData} (h : PdT H x d) (g : Same H H') : PdT H' x d := by
  rcases h with h | ⟨a, e, h⟩
  · exact .inl h
  · exact .inr ⟨a, e, h.mono g⟩
def rRepr : List V → Hp → VK → Prop := fun xs H Q => ∃ (x : V) (d : PyData), xs = [x] ∧ PdT H x d ∧ d.showable = true ∧ d.shown.length ≤ sizeLine ∧ Q (.str d.shown) H
section
variable {X : Cx} {a b c : Expr} {ta tb tc : TE} {pos : Pos}
end
end L2

set_option Elab.async false
set_option linter.all false
set_option maxRecDepth 100000
namespace L2
open PySem PySem.Spec PyProof.Rows
section
variable {X : Cx}

def rMulT : R2 := fun x y H Q => ∃ (a : Addr) (xs : List V) (n : Int), x = .ref a ∧ y = .int n ∧ H a = some (.tup xs) ∧ xs ≠ [] ∧ 2 ≤ n ∧ n ≤ 100000 ∧ xs.length * n.toNat ≤ 16777216 ∧ ∀ p, H p = none → Q (.ref p) (upd H p (.tup (List.replicate n.toNat xs).flatten))
end
end L2
namespace L2
open PySem PySem.Spec PyProof.Rows
def IsRevT (h : Heap) (a l : Addr) (i : Int) : Prop := ∃ o, h.get? a = some o ∧ o.cls = .type "reversed" ∧ o.data = .fields #[.ref l, rawInt i]
section
variable {prog : Program} {w : World} {A : Around} {E : Value → Shared → Prop} {s : Shared}
theorem IsRevT.typeIs {a l : Addr} {i : Int} (x : IsRevT s.heap a l i) : s.TypeIs (.ref a) "reversed" := let ⟨o, ho, hc, _⟩ := x; ⟨o, ho, hc⟩
theorem IsRevT.at {h h' : Heap} {a l : Addr} {i : Int} (x : IsRevT h a l i) (e : ∀ o, h.get? a = some o → h'.get? a = some o) : IsRevT h' a l i := let ⟨o, ho, r⟩ := x; ⟨o, e _ ho, r⟩
end
section
variable {X : Cx} {tg : Expr}

def ItRT (K : PySem.W.Frag) (a : Addr) (n : Nat) : It :=
  ⟨fun i H => ∃ xs x, SqT K H a xs ∧ xs.length = n ∧ xs.reverse[i]? = some x, fun i H x H' => H' = H ∧ ∀ xs, SqT K H a xs → xs.reverse[i]? = some x, fun i _ => i = n⟩
def ItRL (K : PySem.W.Frag) (a : Addr) (n : Nat) : It :=
  ⟨fun i H => ∃ xs x, SqL K H a xs ∧ xs.length = n ∧ xs.reverse[i]? = some x, fun i H x H' => H' = H ∧ ∀ xs, SqL K H a xs → xs.reverse[i]? = some x, fun i _ => i = n⟩
def iRevT (K : PySem.W.Frag) (ta : TA) : TI := fun σ H R => ta σ H fun vs H1 => ∃ l xs, vs = [.ref l] ∧ SqT K H1 l xs ∧ R (ItRT K l xs.length) H1
def iRevL (K : PySem.W.Frag) (ta : TA) : TI := fun σ H R => ta σ H fun vs H1 => ∃ l xs, vs = [.ref l] ∧ SqL K H1 l xs ∧ R (ItRL K l xs.length) H1
end
end L2

set_option Elab.async false
set_option linter.all false
set_option maxRecDepth 100000
namespace L2
open PySem PySem.Spec PyProof.Rows

def repN (c : Nat) (z : List Nat) : List Nat → List Nat
  | [] => []
  | k :: r => (if k = c then z else [k]) ++ repN c z r
section
variable {X : Cx}

variable {st : Stmt} {rest : List Stmt} {t u : TS}
def tRepl (c : Nat) (z : List Nat) (to : TE) : TE := fun σ H Q => to σ H fun x H1 => ∃ l, x = .str (S l) ∧ l.length ≤ 100000 ∧ Q (.str (S (repN c z l))) H1

end
end L2

set_option Elab.async false
set_option linter.all false
set_option maxRecDepth 100000
set_option maxHeartbeats 4000000
set_option pp.deepTerms true
set_option pp.maxSteps 200000
namespace My
open PySem L2 PySem.Spec PyProof.Rows
def top (i : Nat) : Stmt := PySem.Challenge.pw_sealpress_k45_whole_one_shape.main.body.getD i (.Pass ⟨0, 0, 0, 0⟩)
abbrev s_number_of : Stmt := top 9
abbrev N_number_of : List Str := ["sign"]
abbrev ps_number_of : List Str := ["sign"]
theorem sc_number_of : FnScope N_number_of ps_number_of (defScope s_number_of) := ⟨rfl, rfl, rfl, by decide +kernel, rfl, by decide +kernel, by decide +kernel⟩
abbrev s_sign_of : Stmt := top 10
abbrev N_sign_of : List Str := ["number"]
abbrev ps_sign_of : List Str := ["number"]
theorem sc_sign_of : FnScope N_sign_of ps_sign_of (defScope s_sign_of) := ⟨rfl, rfl, rfl, by decide +kernel, rfl, by decide +kernel, by decide +kernel⟩
abbrev s_figures_of : Stmt := top 11
abbrev N_figures_of : List Str := ["number"]
abbrev ps_figures_of : List Str := ["number"]
theorem sc_figures_of : FnScope N_figures_of ps_figures_of (defScope s_figures_of) := ⟨rfl, rfl, rfl, by decide +kernel, rfl, by decide +kernel, by decide +kernel⟩
abbrev s_sign_told : Stmt := top 12
abbrev N_sign_told : List Str := ["figures", "number"]
abbrev ps_sign_told : List Str := ["figures"]
theorem sc_sign_told : FnScope N_sign_told ps_sign_told (defScope s_sign_told) := ⟨rfl, rfl, rfl, by decide +kernel, rfl, by decide +kernel, by decide +kernel⟩
abbrev s_need_text : Stmt := top 13
abbrev N_need_text : List Str := ["thing", "at", "sign"]
abbrev ps_need_text : List Str := ["thing"]
theorem sc_need_text : FnScope N_need_text ps_need_text (defScope s_need_text) := ⟨rfl, rfl, rfl, by decide +kernel, rfl, by decide +kernel, by decide +kernel⟩
abbrev s_mark_of : Stmt := top 15
abbrev N_mark_of : List Str := ["sign"]
abbrev ps_mark_of : List Str := ["sign"]
theorem sc_mark_of : FnScope N_mark_of ps_mark_of (defScope s_mark_of) := ⟨rfl, rfl, rfl, by decide +kernel, rfl, by decide +kernel, by decide +kernel⟩
abbrev s_marked : Stmt := top 16
abbrev N_marked : List Str := ["text", "shut"]
abbrev ps_marked : List Str := ["text", "shut"]
theorem sc_marked : FnScope N_marked ps_marked (defScope s_marked) := ⟨rfl, rfl, rfl, by decide +kernel, rfl, by decide +kernel, by decide +kernel⟩
abbrev s_stroked : Stmt := top 18
abbrev N_stroked : List Str := ["text", "shut"]
abbrev ps_stroked : List Str := ["text", "shut"]
theorem sc_stroked : FnScope N_stroked ps_stroked (defScope s_stroked) := ⟨rfl, rfl, rfl, by decide +kernel, rfl, by decide +kernel, by decide +kernel⟩
abbrev s_code_of : Stmt := top 21
abbrev N_code_of : List Str := ["sign"]
abbrev ps_code_of : List Str := ["sign"]
theorem sc_code_of : FnScope N_code_of ps_code_of (defScope s_code_of) := ⟨rfl, rfl, rfl, by decide +kernel, rfl, by decide +kernel, by decide +kernel⟩
abbrev s_worded : Stmt := top 22
abbrev N_worded : List Str := ["text"]
abbrev ps_worded : List Str := ["text"]
theorem sc_worded : FnScope N_worded ps_worded (defScope s_worded) := ⟨rfl, rfl, rfl, by decide +kernel, rfl, by decide +kernel, by decide +kernel⟩
abbrev s_put : Stmt := top 24
abbrev N_put : List Str := ["place", "value", "text"]
abbrev ps_put : List Str := ["place", "value"]
theorem sc_put : FnScope N_put ps_put (defScope s_put) := ⟨rfl, rfl, rfl, by decide +kernel, rfl, by decide +kernel, by decide +kernel⟩
abbrev s_fed_between : Stmt := top 26
abbrev N_fed_between : List Str := ["sign"]
abbrev ps_fed_between : List Str := ["sign"]
theorem sc_fed_between : FnScope N_fed_between ps_fed_between (defScope s_fed_between) := ⟨rfl, rfl, rfl, by decide +kernel, rfl, by decide +kernel, by decide +kernel⟩
abbrev s_fed_word : Stmt := top 27
abbrev N_fed_word : List Str := ["sign"]
abbrev ps_fed_word : List Str := ["sign"]
theorem sc_fed_word : FnScope N_fed_word ps_fed_word (defScope s_fed_word) := ⟨rfl, rfl, rfl, by decide +kernel, rfl, by decide +kernel, by decide +kernel⟩
abbrev s_fed_said : Stmt := top 28
abbrev N_fed_said : List Str := ["sign"]
abbrev ps_fed_said : List Str := ["sign"]
theorem sc_fed_said : FnScope N_fed_said ps_fed_said (defScope s_fed_said) := ⟨rfl, rfl, rfl, by decide +kernel, rfl, by decide +kernel, by decide +kernel⟩
abbrev s_feed : Stmt := top 29
abbrev N_feed : List Str := ["talk", "sign"]
abbrev ps_feed : List Str := ["talk", "sign"]
theorem sc_feed : FnScope N_feed ps_feed (defScope s_feed) := ⟨rfl, rfl, rfl, by decide +kernel, rfl, by decide +kernel, by decide +kernel⟩
abbrev s_come_to : Stmt := top 33
abbrev N_come_to : List Str := ["mode", "opens", "events"]
abbrev ps_come_to : List Str := ["mode", "opens", "events"]
theorem sc_come_to : FnScope N_come_to ps_come_to (defScope s_come_to) := ⟨rfl, rfl, rfl, by decide +kernel, rfl, by decide +kernel, by decide +kernel⟩
abbrev s_told : Stmt := top 34
abbrev N_told : List Str := ["mode", "opens", "sign"]
abbrev ps_told : List Str := ["mode", "opens", "sign"]
theorem sc_told : FnScope N_told ps_told (defScope s_told) := ⟨rfl, rfl, rfl, by decide +kernel, rfl, by decide +kernel, by decide +kernel⟩
abbrev s_gathered : Stmt := top 35
abbrev N_gathered : List Str := ["mode", "word", "opens", "talk", "most"]
abbrev ps_gathered : List Str := ["mode", "word", "opens", "talk", "most"]
theorem sc_gathered : FnScope N_gathered ps_gathered (defScope s_gathered) := ⟨rfl, rfl, rfl, by decide +kernel, rfl, by decide +kernel, by decide +kernel⟩
abbrev s_box_shut : Stmt := top 36
abbrev N_box_shut : List Str := ["opens", "events"]
abbrev ps_box_shut : List Str := ["opens", "events"]
theorem sc_box_shut : FnScope N_box_shut ps_box_shut (defScope s_box_shut) := ⟨rfl, rfl, rfl, by decide +kernel, rfl, by decide +kernel, by decide +kernel⟩
abbrev s_into_box : Stmt := top 37
abbrev N_into_box : List Str := ["opens", "events", "mode"]
abbrev ps_into_box : List Str := ["opens", "events"]
theorem sc_into_box : FnScope N_into_box ps_into_box (defScope s_into_box) := ⟨rfl, rfl, rfl, by decide +kernel, rfl, by decide +kernel, by decide +kernel⟩
abbrev s_led_on : Stmt := top 38
abbrev N_led_on : List Str := ["opens", "sign", "events"]
abbrev ps_led_on : List Str := ["opens", "sign", "events"]
theorem sc_led_on : FnScope N_led_on ps_led_on (defScope s_led_on) := ⟨rfl, rfl, rfl, by decide +kernel, rfl, by decide +kernel, by decide +kernel⟩
abbrev s_fed : Stmt := top 39
abbrev N_fed : List Str := ["opens", "talk", "sign", "answer"]
abbrev ps_fed : List Str := ["opens", "talk", "sign"]
theorem sc_fed : FnScope N_fed ps_fed (defScope s_fed) := ⟨rfl, rfl, rfl, by decide +kernel, rfl, by decide +kernel, by decide +kernel⟩
abbrev s_mark_ended : Stmt := top 40
abbrev N_mark_ended : List Str := ["word", "sign"]
abbrev ps_mark_ended : List Str := ["word", "sign"]
theorem sc_mark_ended : FnScope N_mark_ended ps_mark_ended (defScope s_mark_ended) := ⟨rfl, rfl, rfl, by decide +kernel, rfl, by decide +kernel, by decide +kernel⟩
abbrev s_at_text : Stmt := top 41
abbrev N_at_text : List Str := ["word", "opens", "talk", "sign"]
abbrev ps_at_text : List Str := ["word", "opens", "talk", "sign"]
theorem sc_at_text : FnScope N_at_text ps_at_text (defScope s_at_text) := ⟨rfl, rfl, rfl, by decide +kernel, rfl, by decide +kernel, by decide +kernel⟩
abbrev s_at_mark : Stmt := top 42
abbrev N_at_mark : List Str := ["word", "opens", "talk", "sign"]
abbrev ps_at_mark : List Str := ["word", "opens", "talk", "sign"]
theorem sc_at_mark : FnScope N_at_mark ps_at_mark (defScope s_at_mark) := ⟨rfl, rfl, rfl, by decide +kernel, rfl, by decide +kernel, by decide +kernel⟩
abbrev s_at_open : Stmt := top 43
abbrev N_at_open : List Str := ["word", "opens", "talk", "sign"]
abbrev ps_at_open : List Str := ["word", "opens", "talk", "sign"]
theorem sc_at_open : FnScope N_at_open ps_at_open (defScope s_at_open) := ⟨rfl, rfl, rfl, by decide +kernel, rfl, by decide +kernel, by decide +kernel⟩
abbrev s_at_name : Stmt := top 44
abbrev N_at_name : List Str := ["word", "opens", "talk", "sign"]
abbrev ps_at_name : List Str := ["word", "opens", "talk", "sign"]
theorem sc_at_name : FnScope N_at_name ps_at_name (defScope s_at_name) := ⟨rfl, rfl, rfl, by decide +kernel, rfl, by decide +kernel, by decide +kernel⟩
abbrev s_at_slash : Stmt := top 45
abbrev N_at_slash : List Str := ["word", "opens", "talk", "sign"]
abbrev ps_at_slash : List Str := ["word", "opens", "talk", "sign"]
theorem sc_at_slash : FnScope N_at_slash ps_at_slash (defScope s_at_slash) := ⟨rfl, rfl, rfl, by decide +kernel, rfl, by decide +kernel, by decide +kernel⟩
abbrev s_at_shut : Stmt := top 46
abbrev N_at_shut : List Str := ["word", "opens", "talk", "sign"]
abbrev ps_at_shut : List Str := ["word", "opens", "talk", "sign"]
theorem sc_at_shut : FnScope N_at_shut ps_at_shut (defScope s_at_shut) := ⟨rfl, rfl, rfl, by decide +kernel, rfl, by decide +kernel, by decide +kernel⟩
abbrev s_at_gap : Stmt := top 47
abbrev N_at_gap : List Str := ["word", "opens", "talk", "sign"]
abbrev ps_at_gap : List Str := ["word", "opens", "talk", "sign"]
theorem sc_at_gap : FnScope N_at_gap ps_at_gap (defScope s_at_gap) := ⟨rfl, rfl, rfl, by decide +kernel, rfl, by decide +kernel, by decide +kernel⟩
abbrev s_at_attr : Stmt := top 48
abbrev N_at_attr : List Str := ["word", "opens", "talk", "sign"]
abbrev ps_at_attr : List Str := ["word", "opens", "talk", "sign"]
theorem sc_at_attr : FnScope N_at_attr ps_at_attr (defScope s_at_attr) := ⟨rfl, rfl, rfl, by decide +kernel, rfl, by decide +kernel, by decide +kernel⟩
abbrev s_at_is : Stmt := top 49
abbrev N_at_is : List Str := ["word", "opens", "talk", "sign"]
abbrev ps_at_is : List Str := ["word", "opens", "talk", "sign"]
theorem sc_at_is : FnScope N_at_is ps_at_is (defScope s_at_is) := ⟨rfl, rfl, rfl, by decide +kernel, rfl, by decide +kernel, by decide +kernel⟩
abbrev s_at_bang : Stmt := top 50
abbrev N_at_bang : List Str := ["word", "opens", "talk", "sign"]
abbrev ps_at_bang : List Str := ["word", "opens", "talk", "sign"]
theorem sc_at_bang : FnScope N_at_bang ps_at_bang (defScope s_at_bang) := ⟨rfl, rfl, rfl, by decide +kernel, rfl, by decide +kernel, by decide +kernel⟩
abbrev s_at_bare : Stmt := top 51
abbrev N_at_bare : List Str := ["word", "opens", "talk", "sign"]
abbrev ps_at_bare : List Str := ["word", "opens", "talk", "sign"]
theorem sc_at_bare : FnScope N_at_bare ps_at_bare (defScope s_at_bare) := ⟨rfl, rfl, rfl, by decide +kernel, rfl, by decide +kernel, by decide +kernel⟩
abbrev s_at_code : Stmt := top 52
abbrev N_at_code : List Str := ["word", "opens", "talk", "sign"]
abbrev ps_at_code : List Str := ["word", "opens", "talk", "sign"]
theorem sc_at_code : FnScope N_at_code ps_at_code (defScope s_at_code) := ⟨rfl, rfl, rfl, by decide +kernel, rfl, by decide +kernel, by decide +kernel⟩
abbrev s_at_row : Stmt := top 53
abbrev N_at_row : List Str := ["word", "opens", "talk", "sign"]
abbrev ps_at_row : List Str := ["word", "opens", "talk", "sign"]
theorem sc_at_row : FnScope N_at_row ps_at_row (defScope s_at_row) := ⟨rfl, rfl, rfl, by decide +kernel, rfl, by decide +kernel, by decide +kernel⟩
abbrev s_at_stroke : Stmt := top 54
abbrev N_at_stroke : List Str := ["word", "opens", "talk", "sign"]
abbrev ps_at_stroke : List Str := ["word", "opens", "talk", "sign"]
theorem sc_at_stroke : FnScope N_at_stroke ps_at_stroke (defScope s_at_stroke) := ⟨rfl, rfl, rfl, by decide +kernel, rfl, by decide +kernel, by decide +kernel⟩
abbrev s_at_quoted : Stmt := top 55
abbrev N_at_quoted : List Str := ["word", "opens", "talk", "sign"]
abbrev ps_at_quoted : List Str := ["word", "opens", "talk", "sign"]
theorem sc_at_quoted : FnScope N_at_quoted ps_at_quoted (defScope s_at_quoted) := ⟨rfl, rfl, rfl, by decide +kernel, rfl, by decide +kernel, by decide +kernel⟩
abbrev s_at_qmark : Stmt := top 56
abbrev N_at_qmark : List Str := ["word", "opens", "talk", "sign"]
abbrev ps_at_qmark : List Str := ["word", "opens", "talk", "sign"]
theorem sc_at_qmark : FnScope N_at_qmark ps_at_qmark (defScope s_at_qmark) := ⟨rfl, rfl, rfl, by decide +kernel, rfl, by decide +kernel, by decide +kernel⟩
abbrev s_at_done : Stmt := top 57
abbrev N_at_done : List Str := ["word", "opens", "talk", "sign"]
abbrev ps_at_done : List Str := ["word", "opens", "talk", "sign"]
theorem sc_at_done : FnScope N_at_done ps_at_done (defScope s_at_done) := ⟨rfl, rfl, rfl, by decide +kernel, rfl, by decide +kernel, by decide +kernel⟩
abbrev s_at_talk : Stmt := top 58
abbrev N_at_talk : List Str := ["word", "opens", "talk", "sign"]
abbrev ps_at_talk : List Str := ["word", "opens", "talk", "sign"]
theorem sc_at_talk : FnScope N_at_talk ps_at_talk (defScope s_at_talk) := ⟨rfl, rfl, rfl, by decide +kernel, rfl, by decide +kernel, by decide +kernel⟩
abbrev s_at_tmark : Stmt := top 59
abbrev N_at_tmark : List Str := ["word", "opens", "talk", "sign"]
abbrev ps_at_tmark : List Str := ["word", "opens", "talk", "sign"]
theorem sc_at_tmark : FnScope N_at_tmark ps_at_tmark (defScope s_at_tmark) := ⟨rfl, rfl, rfl, by decide +kernel, rfl, by decide +kernel, by decide +kernel⟩
abbrev s_at_asis : Stmt := top 60
abbrev N_at_asis : List Str := ["word", "opens", "talk", "sign", "grown", "events"]
abbrev ps_at_asis : List Str := ["word", "opens", "talk", "sign"]
theorem sc_at_asis : FnScope N_at_asis ps_at_asis (defScope s_at_asis) := ⟨rfl, rfl, rfl, by decide +kernel, rfl, by decide +kernel, by decide +kernel⟩
abbrev s_moved : Stmt := top 62
abbrev N_moved : List Str := ["state", "sign", "act"]
abbrev ps_moved : List Str := ["state", "sign"]
theorem sc_moved : FnScope N_moved ps_moved (defScope s_moved) := ⟨rfl, rfl, rfl, by decide +kernel, rfl, by decide +kernel, by decide +kernel⟩
abbrev s_begin : Stmt := top 64
abbrev N_begin : List Str := []
abbrev ps_begin : List Str := []
theorem sc_begin : FnScope N_begin ps_begin (defScope s_begin) := ⟨rfl, rfl, rfl, by decide +kernel, rfl, by decide +kernel, by decide +kernel⟩
abbrev s_step : Stmt := top 65
abbrev N_step : List Str := ["state", "sign"]
abbrev ps_step : List Str := ["state", "sign"]
theorem sc_step : FnScope N_step ps_step (defScope s_step) := ⟨rfl, rfl, rfl, by decide +kernel, rfl, by decide +kernel, by decide +kernel⟩
abbrev s_run : Stmt := top 66
abbrev N_run : List Str := ["state", "text", "now", "events", "at", "sign", "answer"]
abbrev ps_run : List Str := ["state", "text"]
theorem sc_run : FnScope N_run ps_run (defScope s_run) := ⟨rfl, rfl, rfl, by decide +kernel, rfl, by decide +kernel, by decide +kernel⟩
abbrev s_is_end : Stmt := top 67
abbrev N_is_end : List Str := ["state"]
abbrev ps_is_end : List Str := ["state"]
theorem sc_is_end : FnScope N_is_end ps_is_end (defScope s_is_end) := ⟨rfl, rfl, rfl, by decide +kernel, rfl, by decide +kernel, by decide +kernel⟩
abbrev s__law_cell : Stmt := top 69
abbrev N__law_cell : List Str := ["_law_script", "_law_k", "_law_number"]
abbrev ps__law_cell : List Str := ["_law_script", "_law_k"]
theorem sc__law_cell : FnScope N__law_cell ps__law_cell (defScope s__law_cell) := ⟨rfl, rfl, rfl, by decide +kernel, rfl, by decide +kernel, by decide +kernel⟩
abbrev s__law_mix : Stmt := top 70
abbrev N__law_mix : List Str := ["_law_cell_here", "_law_k", "_law_many", "_law_first", "_law_second", "_law_number"]
abbrev ps__law_mix : List Str := ["_law_cell_here", "_law_k", "_law_many"]
theorem sc__law_mix : FnScope N__law_mix ps__law_mix (defScope s__law_mix) := ⟨rfl, rfl, rfl, by decide +kernel, rfl, by decide +kernel, by decide +kernel⟩
abbrev s__law_signs : Stmt := top 71
abbrev N__law_signs : List Str := ["_law_some"]
abbrev ps__law_signs : List Str := []
theorem sc__law_signs : FnScope N__law_signs ps__law_signs (defScope s__law_signs) := ⟨rfl, rfl, rfl, by decide +kernel, rfl, by decide +kernel, by decide +kernel⟩
abbrev s__law_name : Stmt := top 72
abbrev N__law_name : List Str := ["_law_cell_here", "_law_some", "_law_word"]
abbrev ps__law_name : List Str := ["_law_cell_here"]
theorem sc__law_name : FnScope N__law_name ps__law_name (defScope s__law_name) := ⟨rfl, rfl, rfl, by decide +kernel, rfl, by decide +kernel, by decide +kernel⟩
abbrev s__law_value : Stmt := top 73
abbrev N__law_value : List Str := ["_law_cell_here", "_law_many", "_law_signs_here"]
abbrev ps__law_value : List Str := ["_law_cell_here", "_law_many"]
theorem sc__law_value : FnScope N__law_value ps__law_value (defScope s__law_value) := ⟨rfl, rfl, rfl, by decide +kernel, rfl, by decide +kernel, by decide +kernel⟩
abbrev s__law_parts : Stmt := top 74
abbrev N__law_parts : List Str := ["_law_cell_here", "_law_word", "_law_parts_here", "_law_k", "_law_way", "_law_kind", "_law_lead", "_law_close", "_law_events"]
abbrev ps__law_parts : List Str := ["_law_cell_here"]
theorem sc__law_parts : FnScope N__law_parts ps__law_parts (defScope s__law_parts) := ⟨rfl, rfl, rfl, by decide +kernel, rfl, by decide +kernel, by decide +kernel⟩
abbrev s__law_pressed : Stmt := top 75
abbrev N__law_pressed : List Str := ["_law_parts_here", "_law_values_here", "_law_made", "_law_events", "_law_text", "_law_place", "_law_told"]
abbrev ps__law_pressed : List Str := ["_law_parts_here", "_law_values_here"]
theorem sc__law_pressed : FnScope N__law_pressed ps__law_pressed (defScope s__law_pressed) := ⟨rfl, rfl, rfl, by decide +kernel, rfl, by decide +kernel, by decide +kernel⟩
abbrev s__law_values : Stmt := top 76
abbrev N__law_values : List Str := ["_law_cell_here", "_law_many"]
abbrev ps__law_values : List Str := ["_law_cell_here", "_law_many"]
theorem sc__law_values : FnScope N__law_values ps__law_values (defScope s__law_values) := ⟨rfl, rfl, rfl, by decide +kernel, rfl, by decide +kernel, by decide +kernel⟩
abbrev s__law_ran : Stmt := top 77
abbrev N__law_ran : List Str := ["_law_text", "_law_found", "e"]
abbrev ps__law_ran : List Str := ["_law_text"]
theorem sc__law_ran : FnScope N__law_ran ps__law_ran (defScope s__law_ran) := ⟨rfl, rfl, rfl, by decide +kernel, rfl, by decide +kernel, by decide +kernel⟩
abbrev s__law_shape : Stmt := top 78
abbrev N__law_shape : List Str := ["_law_events"]
abbrev ps__law_shape : List Str := ["_law_events"]
theorem sc__law_shape : FnScope N__law_shape ps__law_shape (defScope s__law_shape) := ⟨rfl, rfl, rfl, by decide +kernel, rfl, by decide +kernel, by decide +kernel⟩
abbrev s_law : Stmt := top 79
abbrev N_law : List Str := ["_law_script", "_law_k", "_law_cell_here", "_law_parts_here", "_law_many", "_law_shapes", "_law_values_here", "_law_text", "_law_events", "_law_found", "_law_due"]
abbrev ps_law : List Str := ["_law_script"]
theorem sc_law : FnScope N_law ps_law (defScope s_law) := ⟨rfl, rfl, rfl, by decide +kernel, rfl, by decide +kernel, by decide +kernel⟩
abbrev s_i_Unread : Stmt := inClass (top 3) 0
theorem sc_i_Unread : FnScope ["self", "at"] ["self", "at"] (defScope s_i_Unread) := ⟨rfl, rfl, rfl, by decide +kernel, rfl, by decide +kernel, by decide +kernel⟩
abbrev s_i_NoSign : Stmt := inClass (top 2) 0
theorem sc_i_NoSign : FnScope ["self", "at"] ["self", "at"] (defScope s_i_NoSign) := ⟨rfl, rfl, rfl, by decide +kernel, rfl, by decide +kernel, by decide +kernel⟩
theorem cxK {CX : CXT} {P : Program} {w : World} {K : PySem.W.Frag} {mg : Str → Option Value} {base : Heap} {N : List Str} {qual : Str} {scope : Scope} {f : Addr} {cd : Value} {A : Around} {outer : List Env} {s : Shared} {H : Hp} {E : XK} : (cxOf CX P w K mg base N qual scope f cd A outer s H E).nox.K = K := rfl
theorem cxK0 {CX : CXT} {P : Program} {w : World} {K : PySem.W.Frag} {mg : Str → Option Value} {base : Heap} {N : List Str} {qual : Str} {scope : Scope} {f : Addr} {cd : Value} {A : Around} {outer : List Env} {s : Shared} {H : Hp} {E : XK} : (cxOf CX P w K mg base N qual scope f cd A outer s H E).K = K := rfl
theorem nc0 : ((0 : Nat) : Int) = 0 := rfl
theorem nc1 : ((1 : Nat) : Int) = 1 := rfl
theorem nc2 : ((2 : Nat) : Int) = 2 := rfl
theorem nc3 : ((3 : Nat) : Int) = 3 := rfl
theorem nc94 : ((94 : Nat) : Int) = 94 := rfl
theorem blkK {X : Cx} {x : Str} {scope : Scope} {cl : List (Str × Addr)} {C : Addr} {s3 : Shared} {H3 : Hp} {fp : List Addr} : (blk X x scope cl C s3 H3 fp).K = X.K := rfl
theorem tyV_str {K : PySem.W.Frag} {x : Str} {H : Hp} : tyV K "str" (.str x) H = True := by simp [tyV]
theorem exV1 {p : V → Prop} {a : V} : (∃ v, some (some a) = some (some v) ∧ p v) = p a := by simp
theorem ite_t {A B : Prop} : (if true = true then A else B) = A := by simp
theorem ite_f {A B : Prop} : (if false = true then A else B) = B := by simp
theorem cxKh {CX : CXT} {P : Program} {w : World} {K : PySem.W.Frag} {mg : Str → Option Value} {base : Heap} {N : List Str} {qual : Str} {scope : Scope} {f : Addr} {cd : Value} {A : Around} {outer : List Env} {s : Shared} {H : Hp} {E : XK} : (cxOf CX P w K mg base N qual scope f cd A outer s H E).hot.nox.K = K := rfl
structure Ads where
  SealError : Addr
  NoSign : Addr
  Unread : Addr
  at_text : Addr
  at_mark : Addr
  at_open : Addr
  at_name : Addr
  at_slash : Addr
  at_shut : Addr
  at_gap : Addr
  at_attr : Addr
  at_is : Addr
  at_bang : Addr
  at_bare : Addr
  at_code : Addr
  at_row : Addr
  at_stroke : Addr
  at_quoted : Addr
  at_qmark : Addr
  at_done : Addr
  at_talk : Addr
  at_tmark : Addr
  at_asis : Addr

def tab2 (t : Ads) : List (Tx × AtF × Addr) := [(mText, aText, t.at_text), (mMark, aMark, t.at_mark), (mOpen, aOpen, t.at_open), (mName, aName, t.at_name), (mSlash, aSlash, t.at_slash), (mShut, aShut, t.at_shut), (mGap, aGap, t.at_gap), (mAttr, aAttr, t.at_attr), (mIs, aIs, t.at_is), (mBang, aBang, t.at_bang), (mBare, aBare, t.at_bare), (mCode, aCode, t.at_code), (mRow, aRow, t.at_row), (mStroke, aStroke, t.at_stroke), (mQuoted, aQuoted, t.at_quoted), (mQmark, aQmark, t.at_qmark), (mDone, aDone, t.at_done), (mTalk, aTalk, t.at_talk), (mTmark, aTmark, t.at_tmark), (mAsis, aAsis, t.at_asis)]
def mtab (t : Ads) : List (Key × V) := (tab2 t).map fun e => (.inr (S e.1), .ref e.2.2)
theorem atTab_eq (t : Ads) : atTab = (tab2 t).map fun e => (e.1, e.2.1) := rfl
theorem tab_find (m : Tx) : ∀ l : List (Tx × AtF × Addr), (∃ e ∈ l, valV (l.map fun e => ((.inr (S e.1) : Key), V.ref e.2.2)) (.inr (S m)) = some (.ref e.2.2) ∧ (l.map fun e => (e.1, e.2.1)).lookup m = some e.2.1) ∨
    (valV (l.map fun e => ((.inr (S e.1) : Key), V.ref e.2.2)) (.inr (S m)) = none ∧ (l.map fun e => (e.1, e.2.1)).lookup m = none)
  | [] => .inr ⟨rfl, rfl⟩
  | e :: l => by
    by_cases h : e.1 = m
    · refine .inl ⟨e, List.mem_cons_self, ?_, ?_⟩
      · rw [List.map_cons, valV_pos (by show (Sum.inr (S e.1) : Key) = Sum.inr (S m); rw [h])]
      · rw [List.map_cons, List.lookup_cons, h]
        simp
    · have e1 : valV ((e :: l).map fun e => ((.inr (S e.1) : Key), V.ref e.2.2)) (.inr (S m)) = valV (l.map fun e => ((.inr (S e.1) : Key), V.ref e.2.2)) (.inr (S m)) := by
        rw [List.map_cons, valV_neg (by intro z; exact h (S_inj.mp (Sum.inr.inj z)))]
      have e2 : ((e :: l).map fun e => (e.1, e.2.1)).lookup m = (l.map fun e => (e.1, e.2.1)).lookup m := by
        rw [List.map_cons, List.lookup_cons]
        have : (m == e.1) = false := beq_eq_false_iff_ne.mpr fun z => h z.symm
        simp [this]
      rw [e1, e2]
      rcases tab_find m l with ⟨e', h1, h2⟩ | h2
      · exact .inl ⟨e', List.mem_cons_of_mem _ h1, h2⟩
      · exact .inr h2
/-- what the top has left -/
structure Txt (w : World) (K : PySem.W.Frag) (mg : Str → Option Value) (t : Ads) : Prop where
  m_SealError : mg "SealError" = some (.ref t.SealError)
  m_NoSign : mg "NoSign" = some (.ref t.NoSign)
  m_Unread : mg "Unread" = some (.ref t.Unread)
  m_at_text : mg "at_text" = some (.ref t.at_text)
  m_at_mark : mg "at_mark" = some (.ref t.at_mark)
  m_at_open : mg "at_open" = some (.ref t.at_open)
  m_at_name : mg "at_name" = some (.ref t.at_name)
  m_at_slash : mg "at_slash" = some (.ref t.at_slash)
  m_at_shut : mg "at_shut" = some (.ref t.at_shut)
  m_at_gap : mg "at_gap" = some (.ref t.at_gap)
  m_at_attr : mg "at_attr" = some (.ref t.at_attr)
  m_at_is : mg "at_is" = some (.ref t.at_is)
  m_at_bang : mg "at_bang" = some (.ref t.at_bang)
  m_at_bare : mg "at_bare" = some (.ref t.at_bare)
  m_at_code : mg "at_code" = some (.ref t.at_code)
  m_at_row : mg "at_row" = some (.ref t.at_row)
  m_at_stroke : mg "at_stroke" = some (.ref t.at_stroke)
  m_at_quoted : mg "at_quoted" = some (.ref t.at_quoted)
  m_at_qmark : mg "at_qmark" = some (.ref t.at_qmark)
  m_at_done : mg "at_done" = some (.ref t.at_done)
  m_at_talk : mg "at_talk" = some (.ref t.at_talk)
  m_at_tmark : mg "at_tmark" = some (.ref t.at_tmark)
  m_at_asis : mg "at_asis" = some (.ref t.at_asis)
  c_SealError : XCl K t.SealError
  c_NoSign : XCl K t.NoSign
  c_Unread : XCl K t.Unread
  u_SealError : upIn K t.SealError = true
  k_NoSign : PySem.W.keepIn K (.ref t.NoSign) = true
  n_NoSign_at : PySem.W.findIn K (.ref t.NoSign) "at" = some none
  k_Unread : PySem.W.keepIn K (.ref t.Unread) = true
  n_Unread_at : PySem.W.findIn K (.ref t.Unread) "at" = some none
  kit_up_ur : PySem.W.mroIn K t.Unread (.ref t.Unread) = some true
  g_SIGNS : ∃ u, mg "SIGNS" = some u ∧ RelV (.str (S sg)) u
  g_FIGURES : ∃ u, mg "FIGURES" = some u ∧ RelV (.str (S fg)) u
  g_LETTERS : ∃ u, mg "LETTERS" = some u ∧ RelV (.str (S lt)) u
  g_LONGEST_NAME : ∃ u, mg "LONGEST_NAME" = some u ∧ RelV (.int 8) u
  g_WORDSIGNS : ∃ u, mg "WORDSIGNS" = some u ∧ RelV (.str (S ws)) u
  g_ASIS_END : ∃ u, mg "ASIS_END" = some u ∧ RelV (.str (S asisEnd)) u
  g_MARK_FIGURES : ∃ u, mg "MARK_FIGURES" = some u ∧ RelV (.int 2) u
  d_MODES : ∃ a, mg "MODES" = some (.ref a) ∧ KDict w K a (mtab t)
  z_len : mg "len" = none
  z_max : mg "max" = none
  z_min : mg "min" = none
  z_int : mg "int" = none
  z_str : mg "str" = none
  z_list : mg "list" = none
  z_tuple : mg "tuple" = none
  z_range : mg "range" = none
  z_enumerate : mg "enumerate" = none
  z_isinstance : mg "isinstance" = none
/-! the promises -/
theorem err_NoSign {P : Program} {w : World} {K : PySem.W.Frag} {mg : Str → Option Value} {base : Heap} {t : Ads} (T : Txt w K mg t) (D : Ini K t.NoSign "NoSign.__init__" s_i_NoSign ["self", "at"]) : Err P w K mg base "NoSign" t.NoSign "at" payT := by
  obtain ⟨fI, fd, oI, i1, i2, i3, F, b⟩ := D.ex
  refine ⟨T.m_NoSign, T.c_NoSign, T.k_NoSign, fI, fd, oI, _, i1, i2, i3, b, ?_⟩
  refine F.ok sc_i_NoSign (fun vs H Q E h => by obtain ⟨a, v, rfl, _⟩ := h; rfl) fun cdv A outer s H vs Q E hr h => ?_
  obtain ⟨a, v, rfl, ea, hp, q⟩ := h
  exact ⟨_, pss_cons (ps_expr (pe_init (C := t.NoSign) T.m_SealError T.u_SealError T.c_NoSign (pa_cons (pv 0) (pa_cons (pe_fs (pv 1)) pa_nil)))) (pss_one (ps_set0 T.c_NoSign T.n_NoSign_at (pv 0) (pv 1))), init_read ea hp q⟩

theorem err_Unread {P : Program} {w : World} {K : PySem.W.Frag} {mg : Str → Option Value} {base : Heap} {t : Ads} (T : Txt w K mg t) (D : Ini K t.Unread "Unread.__init__" s_i_Unread ["self", "at"]) : Err P w K mg base "Unread" t.Unread "at" payT := by
  obtain ⟨fI, fd, oI, i1, i2, i3, F, b⟩ := D.ex
  refine ⟨T.m_Unread, T.c_Unread, T.k_Unread, fI, fd, oI, _, i1, i2, i3, b, ?_⟩
  refine F.ok sc_i_Unread (fun vs H Q E h => by obtain ⟨a, v, rfl, _⟩ := h; rfl) fun cdv A outer s H vs Q E hr h => ?_
  obtain ⟨a, v, rfl, ea, hp, q⟩ := h
  exact ⟨_, pss_cons (ps_expr (pe_init (C := t.Unread) T.m_SealError T.u_SealError T.c_Unread (pa_cons (pv 0) (pa_cons (pe_fs (pv 1)) pa_nil)))) (pss_one (ps_set0 T.c_Unread T.n_Unread_at (pv 0) (pv 1))), init_read ea hp q⟩

def fb (l : List Nat) : Option Nat := l.findIdx? fun c => !decide (c ∈ sg)
/-- what a thing is refused with, if it is -/
def Res (K : PySem.W.Frag) (H : Hp) (x : V) (r : Option Nat) : Prop := (∃ l, x = .str (S l) ∧ l.length ≤ 100000 ∧ r = fb l) ∨ (NoT K H x ∧ r = some 0)
theorem Res.mono {K : PySem.W.Frag} {H H' : Hp} {x : V} {r : Option Nat} (h : Res K H x r) (g : Same H H') : Res K H' x r := by
  rcases h with h | ⟨h, e⟩
  · exact .inl h
  · exact .inr ⟨h.mono g, e⟩
abbrev pText : List Nat := [116, 101, 120, 116]
abbrev pBare : List Nat := [98, 97, 114, 101]
abbrev pRow : List Nat := [114, 111, 119]
abbrev pQuoted : List Nat := [113, 117, 111, 116, 101, 100]
abbrev pSaid : List Nat := [115, 97, 105, 100]
def IsPl (p : List Nat) : Prop := p = pText ∨ p = pBare ∨ p = pRow ∨ p = pQuoted ∨ p = pSaid
def putL (p v : List Nat) : List Nat := if p = pText then mkL v [60] else if p = pQuoted then mkL v [34] else if p = pBare then wdL v else if p = pRow then stL v [44, 41] else mkL (stL v [39]) [34]
theorem mkL_app (sh a b : List Nat) : mkL (a ++ b) sh = mkL a sh ++ mkL b sh := by simp [mkL]
theorem stL_app (sh a b : List Nat) : stL (a ++ b) sh = stL a sh ++ stL b sh := by simp [stL]
theorem wdL_app (a b : List Nat) : wdL (a ++ b) = wdL a ++ wdL b := by simp [wdL]
theorem putL_app (p a b : List Nat) : putL p (a ++ b) = putL p a ++ putL p b := by
  unfold putL
  split
  · exact mkL_app _ _ _
  split
  · exact mkL_app _ _ _
  split
  · exact wdL_app _ _
  split
  · exact stL_app _ _ _
  · rw [stL_app, mkL_app]
theorem putL_nil (p : List Nat) : putL p [] = [] := by
  unfold putL
  repeat' split
  all_goals rfl
theorem putL_len (p t : List Nat) : (putL p t).length ≤ 8 * t.length := by
  unfold putL
  have h1 := mkL_len [60] t
  have h2 := mkL_len [34] t
  have h3 := wdL_len t
  have h4 := stL_len [44, 41] t
  have h5 := mkL_len [34] (stL t [39])
  have h6 := stL_len [39] t
  repeat' split
  all_goals omega
theorem fb_none {l : List Nat} (h : fb l = none) : ∀ c ∈ l, c ∈ sg := by
  unfold fb at h
  rw [List.findIdx?_eq_none_iff] at h
  intro c hc
  have := h c hc
  simpa using this
theorem fb_sg {l : List Nat} (h : ∀ c ∈ l, c ∈ sg) : fb l = none := by
  unfold fb
  rw [List.findIdx?_eq_none_iff]
  intro c hc
  simp [h c hc]
theorem eqV_self {v : V} (h : flatV v = true) : eqV v v = true := by
  cases v <;> simp [eqV, flatV] at h ⊢
theorem eqS_self {xs : List V} (h : xs.all flatV = true) : eqS xs xs = true := by
  unfold eqS
  rw [Bool.and_eq_true, List.all_eq_true]
  refine ⟨fun j hj => ?_, by simp⟩
  rw [Nat.min_self, List.mem_range] at hj
  rw [List.getD_eq_getElem?_getD, List.getElem?_eq_getElem hj]
  exact eqV_self (List.all_eq_true.mp h _ (List.getElem_mem hj))
theorem drawn {ys : List V} {n : Nat} (hl : ys.length = n) (h : ∀ (i : Nat) v, ys[i]? = some v → ∃ c ∈ sg, v = V.str (S [c])) :
    ∃ t : List Nat, t.length = n ∧ (∀ c ∈ t, c ∈ sg) ∧ ys = (t.map fun c => [c]).map (fun l => V.str (S l)) := by
  induction ys generalizing n with
  | nil => exact ⟨[], hl, by simp, rfl⟩
  | cons y ys ih =>
    obtain ⟨c, hc, rfl⟩ := h 0 y rfl
    obtain ⟨t, e1, e2, e3⟩ := ih (n := ys.length) rfl fun i v e => h (i + 1) v (by simpa using e)
    refine ⟨c :: t, by rw [List.length_cons, e1, ← hl]; rfl, fun d hd => ?_, by rw [e3]; rfl⟩
    rcases List.mem_cons.mp hd with rfl | hd
    · exact hc
    · exact e2 d hd
theorem pool_turn {H1 : Hp} {R : VK} {pool : List Nat} (hp : 0 < pool.length) (hz : pool.length ≤ 1000) (hs : ∀ c ∈ pool, c ∈ sg) (r : ∀ v H2, (∃ c ∈ sg, v = V.str (S [c])) → Same H1 H2 → R v H2) :
    0 < (pool.length : Int) ∧ ∀ (v : Nat) (H' : Hp), (v : Int) < (pool.length : Int) → Same H1 H' → pool.length ≤ 16777216 ∧ ∃ x, pool[v]? = some x ∧ R (.str (S [x])) H' := by
  refine ⟨by omega, fun v H' hv g => ⟨by omega, ?_⟩⟩
  have hv' : v < pool.length := by omega
  exact ⟨pool[v], List.getElem?_eq_getElem hv', r _ H' ⟨_, hs _ (List.getElem_mem hv'), rfl⟩ g⟩
def sp_number_of : Sp := fun vs H Q _ => ∃ c, vs = [.str (S [c])] ∧ c ∈ sg ∧ ∀ H', Same H H' → Q (.int (ix c)) H'
def sp_figures_of : Sp := fun vs H Q _ => ∃ n : Nat, vs = [.int n] ∧ n < 94 ∧ ∀ H', Same H H' → Q (.str (S (dg2 n))) H'
def sp_need_text (K : PySem.W.Frag) (t : Ads) : Sp := fun vs H Q E => ∃ x r, vs = [x] ∧ Res K H x r ∧ (r = none → ∀ H', Same H H' → Q x H') ∧ (∀ b : Nat, r = some b → ∀ d H', Same H H' → H' d = some (.xd [("at", .int b)]) → E (.ref t.NoSign) (some d) H')
def sp_mark_of : Sp := fun vs H Q _ => ∃ c, vs = [.str (S [c])] ∧ c ∈ sg ∧ ∀ H', Same H H' → Q (.str (S (38 :: (dg2 (ix c) ++ [59])))) H'
def sp_marked : Sp := fun vs H Q _ => ∃ t sh, vs = [.str (S t), .str (S sh)] ∧ t.length ≤ 1000000 ∧ (∀ c ∈ t, c ∈ sg) ∧ ∀ H', Same H H' → Q (.str (S (mkL t sh))) H'
def sp_stroked : Sp := fun vs H Q _ => ∃ t sh, vs = [.str (S t), .str (S sh)] ∧ t.length ≤ 1000000 ∧ ∀ H', Same H H' → Q (.str (S (stL t sh))) H'
def sp_code_of : Sp := fun vs H Q _ => ∃ c, vs = [.str (S [c])] ∧ c ∈ sg ∧ ∀ H', Same H H' → Q (.str (S (126 :: dg2 (ix c)))) H'
def sp_worded : Sp := fun vs H Q _ => ∃ t, vs = [.str (S t)] ∧ t.length ≤ 1000000 ∧ (∀ c ∈ t, c ∈ sg) ∧ ∀ H', Same H H' → Q (.str (S (wdL t))) H'
def sp_put (K : PySem.W.Frag) (t : Ads) : Sp := fun vs H Q E => ∃ p x r, vs = [.str (S p), x] ∧ IsPl p ∧ Res K H x r ∧ (r = none → ∀ l, x = .str (S l) → ∀ H', Same H H' → Q (.str (S (putL p l))) H') ∧ (∀ b : Nat, r = some b → ∀ d H', Same H H' → H' d = some (.xd [("at", .int b)]) → E (.ref t.NoSign) (some d) H')
def spA (F : AtF) : Sp := fun vs H Q _ => ∃ (w : Tx) (oa : Addr) (op : List Tx) (t : Tx) (c : Nat), vs = [.str (S w), .ref oa, .str (S t), .str (S [c])] ∧ OpV H oa op ∧ w.length ≤ 1000 ∧ op.length ≤ 100000 ∧ ∀ v H', Same H H' → AnV (fun a => H a = none) H' v (F w op t c) → Q v H'
def sp_sign_of : Sp := fun vs H Q _ => ∃ n : Nat, vs = [.int n] ∧ n < 94 ∧ ∀ c H', sg[n]? = some c → Same H H' → Q (.str (S [c])) H'
def sp_sign_told : Sp := fun vs H Q _ => ∃ l, vs = [.str (S l)] ∧ l.length ≤ 2000 ∧ ∀ H', Same H H' → Q (oV (L2.told l)) H'
def sp_fed_between : Sp := fun vs H Q _ => ∃ c : Nat, vs = [.str (S [c])] ∧ ∀ v H', Same H H' → TkV (fun a => H a = none) H' v (fedB c) → Q v H'
def sp_fed_word : Sp := fun vs H Q _ => ∃ c : Nat, vs = [.str (S [c])] ∧ ∀ v H', Same H H' → TkV (fun a => H a = none) H' v (fedW c) → Q v H'
def sp_fed_said : Sp := fun vs H Q _ => ∃ c : Nat, vs = [.str (S [c])] ∧ ∀ v H', Same H H' → TkV (fun a => H a = none) H' v (fedS c) → Q v H'
def sp_feed : Sp := fun vs H Q _ => ∃ (t : Tx) (c : Nat), vs = [.str (S t), .str (S [c])] ∧ ∀ v H', Same H H' → TkV (fun a => H a = none) H' v (feedM t c) → Q v H'
def sp_come_to : Sp := fun vs H Q _ => ∃ (m : Tx) (oa : Addr) (op : List Tx) (ea : Addr) (es : List Ev), vs = [.str (S m), .ref oa, .ref ea] ∧ OpV H oa op ∧ EvL H ea es ∧ ∀ v H', Same H H' → AnV (fun a => a = ea) H' v (comeTo m op es) → Q v H'
def sp_told : Sp := fun vs H Q _ => ∃ (m : Tx) (oa : Addr) (op : List Tx) (o : Option Nat), vs = [.str (S m), .ref oa, oV o] ∧ OpV H oa op ∧ ∀ v H', Same H H' → AnV (fun a => H a = none) H' v (toldM m op o) → Q v H'
def sp_gathered : Sp := fun vs H Q _ => ∃ (m w : Tx) (oa : Addr) (op : List Tx) (t : Tx) (n : Nat), vs = [.str (S m), .str (S w), .ref oa, .str (S t), .int n] ∧ OpV H oa op ∧ w.length ≤ 2000 ∧ ∀ v H', Same H H' → AnV (fun a => H a = none) H' v (gath m w op t n) → Q v H'
def sp_box_shut : Sp := fun vs H Q _ => ∃ (oa : Addr) (op : List Tx) (ea : Addr) (es : List Ev), vs = [.ref oa, .ref ea] ∧ OpV H oa op ∧ EvL H ea es ∧ es.length ≤ 1000 ∧ ∀ v H', Same H H' → AnV (fun a => H a = none) H' v (boxShut op es) → Q v H'
def sp_into_box : Sp := fun vs H Q _ => ∃ (oa : Addr) (op : List Tx) (ea : Addr) (es : List Ev), vs = [.ref oa, .ref ea] ∧ OpV H oa op ∧ EvL H ea es ∧ es.length ≤ 1000 ∧ ∀ v H', Same H H' → AnV (fun a => H a = none) H' v (intoBox op es) → Q v H'
def sp_led_on : Sp := fun vs H Q _ => ∃ (oa : Addr) (op : List Tx) (c : Nat) (ea : Addr) (es : List Ev), vs = [.ref oa, .str (S [c]), .ref ea] ∧ OpV H oa op ∧ EvL H ea es ∧ es.length ≤ 1000 ∧ ∀ v H', Same H H' → AnV (fun a => H a = none ∨ a = ea) H' v (ledOn op c es) → Q v H'
def sp_fed : Sp := fun vs H Q _ => ∃ (oa : Addr) (op : List Tx) (t : Tx) (o : Option Nat), vs = [.ref oa, .str (S t), oV o] ∧ OpV H oa op ∧ ∀ v H', Same H H' → AnV (fun a => H a = none) H' v (fedM op t o) → Q v H'
def sp_mark_ended : Sp := fun vs H Q _ => ∃ (w : Tx) (c : Nat), vs = [.str (S w), .str (S [c])] ∧ w.length ≤ 1000 ∧ ∀ H', Same H H' → Q (oV (mkEnd w c)) H'
def sp_at_text : Sp := spA aText
def sp_at_mark : Sp := spA aMark
def sp_at_open : Sp := spA aOpen
def sp_at_name : Sp := spA aName
def sp_at_slash : Sp := spA aSlash
def sp_at_shut : Sp := spA aShut
def sp_at_gap : Sp := spA aGap
def sp_at_attr : Sp := spA aAttr
def sp_at_is : Sp := spA aIs
def sp_at_bang : Sp := spA aBang
def sp_at_bare : Sp := spA aBare
def sp_at_code : Sp := spA aCode
def sp_at_row : Sp := spA aRow
def sp_at_stroke : Sp := spA aStroke
def sp_at_quoted : Sp := spA aQuoted
def sp_at_qmark : Sp := spA aQmark
def sp_at_done : Sp := spA aDone
def sp_at_talk : Sp := spA aTalk
def sp_at_tmark : Sp := spA aTmark
def sp_at_asis : Sp := spA aAsis
def sp_moved : Sp := fun vs H Q _ => ∃ (x : V) (s : MS) (c : Nat), vs = [x, .str (S [c])] ∧ StV H x s ∧ s.word.length ≤ 1000 ∧ s.opens.length ≤ 100000 ∧ ∀ v H', Same H H' → AnV (fun a => H a = none) H' v (stepM s c) → Q v H'
def sp_begin : Sp := fun vs H Q _ => vs = [] ∧ ∀ v H', Same H H' → StV H' v ⟨mText, [], [], []⟩ → Q v H'
def sp_step : Sp := sp_moved
def sp_floored : Sp := fun vs H Q _ => ∃ (x : V) (s : MS), vs = [x] ∧ StV H x s ∧ ∀ v H', Same H H' → StV H' v { s with opens := [] } → Q v H'
def RnV (G : Addr → Prop) (H : Hp) (v : V) (s : MS) (es : List Ev) : Prop := ∃ p sa ea, v = .ref p ∧ H p = some (.tup [sa, .ref ea]) ∧ StV H sa s ∧ EvL H ea es ∧ G ea
def sp_run (t : Ads) : Sp := fun vs H Q E => ∃ (x : V) (s : MS) (l : List Nat), vs = [x, .str (S l)] ∧ StV H x s ∧ s.word.length ≤ 8 ∧ s.opens.length + l.length ≤ 100000 ∧ (∀ s' es, runM s l = .ok (s', es) → ∀ v H', Same H H' → RnV (fun a => H a = none) H' v s' es → Q v H') ∧ (∀ b : Nat, runM s l = .error b → ∀ d H', Same H H' → H' d = some (.xd [("at", .int b)]) → E (.ref t.Unread) (some d) H')
def placeM (s : MS) : Option Tx := if s.mode ∈ [mText, mBare, mRow, mQuoted] then some s.mode else if s.mode = mTalk ∧ s.talk = tSaid then some tSaid else none
def plV : Option Tx → V
  | none => .non
  | some x => .str (S x)
def sp_place_of : Sp := fun vs H Q _ => ∃ (x : V) (s : MS), vs = [x] ∧ StV H x s ∧ ∀ H', Same H H' → Q (plV (placeM s)) H'
def sp__law_cell (K : PySem.W.Frag) : Sp := fun vs H Q _ => ∃ (a : Addr) (ns : List Int) (k : Nat), vs = [.ref a, .int k] ∧ SqL K H a (ns.map V.int) ∧ ns.length ≤ 63 ∧ k ≤ 100 ∧ ∀ v H', Same H H' → Q (.int v) H'
def sp__law_mix : Sp := fun vs H Q _ => ∃ c k m : Int, vs = [.int c, .int k, .int m] ∧ 0 ≤ k ∧ k ≤ 1000 ∧ 0 < m ∧ ∀ (v : Nat) H', (v : Int) < m → Same H H' → Q (.int ((v : Nat) : Int)) H'
def sp__law_signs : Sp := fun vs H Q _ => vs = [] ∧ ∀ H', Same H H' → Q (.str (S sg)) H'
theorem upd_free {H : Hp} {a l : Addr} {o : HO} (h : upd H a o l = none) : H l = none := by
  unfold upd at h
  split at h
  · cases h
  · exact h
def NmOk (l : Tx) : Prop := 0 < l.length ∧ l.length ≤ 8 ∧ (∀ c ∈ l, c ∈ lt)
def sp__law_name : Sp := fun vs H Q _ => ∃ c : Int, vs = [.int c] ∧ ∀ l H', NmOk l → l ≠ mAsis → Same H H' → Q (.str (S l)) H'
theorem eqDs_ft : ∀ l m : List Tx, eqDs (l.map ft) (m.map ft) = true → l = m
  | [], [], _ => rfl
  | [], _ :: _, h => by simp [eqDs] at h
  | _ :: _, [], h => by simp [eqDs] at h
  | a :: l, b :: m, h => by
    simp only [List.map_cons, eqDs, eqD, Bool.and_eq_true] at h
    have h1 : (S a == S b) = true := h.1
    rw [beq_S] at h1
    rw [of_decide_eq_true h1, eqDs_ft l m h.2]
theorem eqDs_E : ∀ l m : List Ev, eqDs (l.map dE) (m.map dE) = true → l = m
  | [], [], _ => rfl
  | [], _ :: _, h => by simp [eqDs] at h
  | _ :: _, [], h => by simp [eqDs] at h
  | a :: l, b :: m, h => by
    simp only [List.map_cons, eqDs, Bool.and_eq_true] at h
    have h1 : eqDs (a.map ft) (b.map ft) = true := h.1
    rw [eqDs_ft a b h1, eqDs_E l m h.2]
theorem ft_inj {a b : Tx} (h : eqD (ft a) (ft b) = true) : a = b := by
  have h1 : (S a == S b) = true := h
  rw [beq_S] at h1
  exact of_decide_eq_true h1
theorem dS_inj {a b : MS} (h : eqD (dS a) (dS b) = true) : a = b := by
  obtain ⟨m, w, o, t⟩ := a
  obtain ⟨m', w', o', t'⟩ := b
  simp only [dS, eqD, eqDs, Bool.and_eq_true] at h
  obtain ⟨h1, h2, h3, h4, _⟩ := h
  rw [ft_inj h1, ft_inj h2, eqDs_ft _ _ h3, ft_inj h4]
/-! more loops -/
theorem lc_listG {K : PySem.W.Frag} {a : Addr} {xs : List V} {te : TE} {σ : L2.St} {H : Hp} {Q : VK} (G : V → V → Hp → Prop) (hG : ∀ c v H1 H2, G c v H1 → Same H1 H2 → G c v H2) (hU : ∀ c v H1 D xs ys, G c v H1 → H1 D = some (.lst xs) → G c v (upd H1 D (.lst ys))) (hl : xs.length ≤ sizeLine)
    (ha : H a = some (.lst xs))
    (he : ∀ c ∈ xs, ∀ H1, Same H H1 → ∀ R : VK, (∀ v H2, Same H1 H2 → G c v H2 → R v H2) → te (some c :: σ) H1 R)
    (hq : ∀ D H2 ys, H D = none → Same H H2 → ys.length = xs.length → (∀ (i : Nat) c v, xs[i]? = some c → ys[i]? = some v → G c v H2) → H2 D = some (.lst ys) → Q (.ref D) H2) : lcBody (Itl K a) tTrue te σ H Q := by
  intro D hD
  refine ⟨fun i m ys H' => m = xs.length - i ∧ i ≤ xs.length ∧ ys.length = i ∧ (∀ (j : Nat) c v, xs[j]? = some c → ys[j]? = some v → G c v H') ∧ Same H H' ∧ H' D = some (.lst ys), ⟨xs.length, by simp, Nat.zero_le _, rfl, by simp, same_upd hD, upd_same⟩, ?_⟩
  rintro i m ys H' ⟨rfl, hi, hy, hg, sm, hDl⟩
  refine ⟨hDl, ?_⟩
  have sq : SqL K H' a xs := SqL.of (sm _ _ ha)
  by_cases hlt : i < xs.length
  · refine .inr ⟨⟨xs, xs[i], sq, by simp [hlt]⟩, fun v H2 y => ?_⟩
    obtain ⟨rfl, y⟩ := y
    have hc := y xs sq
    have hm : v ∈ xs := List.mem_of_getElem? hc
    simp only [tTrue, ↓reduceIte]
    refine he v hm H2 sm _ fun u H4 s4 gv => ?_
    have hD4 := s4 D _ hDl
    refine ⟨hD4, by omega, xs.length - (i + 1), by omega, rfl, hlt, by simp [hy], fun j c' u' e1 e2 => ?_, ?_, upd_same⟩
    · refine hU _ _ _ _ _ _ ?_ hD4
      by_cases hj : j < ys.length
      · rw [List.getElem?_append_left hj] at e2
        exact hG _ _ _ _ (hg j c' u' e1 e2) s4
      · rw [List.getElem?_append_right (by omega)] at e2
        have hj' : j - ys.length = 0 := by
          by_cases hz : j - ys.length = 0
          · exact hz
          · rw [List.getElem?_eq_none_iff.mpr (by simp; omega)] at e2; cases e2
        have ej : j = i := by omega
        subst ej
        rw [hj'] at e2
        simp at e2
        subst e2
        rw [hc] at e1
        cases e1
        exact gv
    · intro b o e
      rw [upd_ne (ne_of_none e hD)]
      exact s4 b o (sm b o e)
  · have e : i = xs.length := by omega
    subst e
    exact .inl ⟨⟨xs, sq, Nat.le_refl _⟩, hq D H' ys hD sm hy hg hDl⟩
theorem fb_rangeL {lo : Int} {n : Nat} {g : TG} {tb : TS} {D : Ends} {σ : L2.St} {H : Hp} (Pv : Nat → L2.St → Hp → Prop) (h0 : Pv 0 σ H)
    (hs : ∀ i σ H, i < n → Pv i σ H → g (.int (lo + (i : Int))) σ H fun σ2 H2 => tb { D with nx := Pv (i + 1), ct := Pv (i + 1), bk := D.nx } σ2 H2) (hd : ∀ σ H, Pv n σ H → D.nx σ H) : forBody (Itr lo n) g tb D σ H := by
  refine ⟨fun i m σ H => m = n - i ∧ i ≤ n ∧ Pv i σ H, ⟨n, by simp, Nat.zero_le _, h0⟩, ?_⟩
  rintro i m σ H ⟨rfl, hi, p⟩
  by_cases hlt : i < n
  · refine .inr ⟨hlt, Pv (i + 1), fun σ' H' p' => ⟨n - (i + 1), by omega, rfl, hlt, p'⟩, fun x H' y => ?_⟩
    obtain ⟨rfl, rfl⟩ := y
    exact hs i σ _ hlt p
  · have e : i = n := by omega
    subst e
    exact .inl ⟨Nat.le_refl _, hd σ H p⟩
/-! runs of codes -/
theorem runM_app {s s1 s2 : MS} {e1 e2 : List Ev} : ∀ {a b : List Nat}, runM s a = .ok (s1, e1) → runM s1 b = .ok (s2, e2) → runM s (a ++ b) = .ok (s2, e1 ++ e2) := by
  intro a
  induction a generalizing s e1 with
  | nil =>
    intro b h1 h2
    simp only [runM, Except.ok.injEq, Prod.mk.injEq] at h1
    obtain ⟨rfl, rfl⟩ := h1
    simpa using h2
  | cons c r ih =>
    intro b h1 h2
    simp only [runM] at h1
    cases hq : stepM s c with
    | none => rw [hq] at h1; cases h1
    | some x =>
      obtain ⟨s', es⟩ := x
      rw [hq] at h1
      simp only at h1
      cases hr : runM s' r with
      | error n => rw [hr] at h1; cases h1
      | ok y =>
        obtain ⟨s'', fs⟩ := y
        rw [hr] at h1
        simp only [Except.ok.injEq, Prod.mk.injEq] at h1
        obtain ⟨rfl, rfl⟩ := h1
        have := ih hr h2
        simp only [List.cons_append, runM, hq, this, List.append_assoc]
theorem runM_one {s s' : MS} {c : Nat} {es : List Ev} (h : stepM s c = some (s', es)) : runM s [c] = .ok (s', es) := by
  simp only [runM, h, List.append_nil]
theorem runM_cons {s s1 s2 : MS} {c : Nat} {e1 e2 : List Ev} {r : List Nat} (h : stepM s c = some (s1, e1)) (h2 : runM s1 r = .ok (s2, e2)) : runM s (c :: r) = .ok (s2, e1 ++ e2) := runM_app (a := [c]) (runM_one h) h2
theorem fig_in {k : Nat} (h : k < 10) : 48 + k ∈ fg := by
  have : ∀ i : Fin 10, 48 + i.1 ∈ fg := by decide
  exact this ⟨k, h⟩
theorem ix100 {c : Nat} (h : c ∈ sg) : ix c / 10 < 10 ∧ ix c % 10 < 10 := by
  have := ix_lt h
  omega
abbrev mkS (c : Nat) : Tx := 38 :: (dg2 (ix c) ++ [59])
/-- a mark, read from a mode that gathers figures -/
theorem run_figs {M : Tx} {op : List Tx} {t : Tx} {c : Nat} {r : Ans} (hc : c ∈ sg) (hg : ∀ w k, k ∈ fg → w.length < 2 → stepM ⟨M, w, op, t⟩ k = some (⟨M, w ++ [k], op, t⟩, [])) (he : stepM ⟨M, dg2 (ix c), op, t⟩ 59 = r) {s' : MS} {es : List Ev} (hr : r = some (s', es)) :
    runM ⟨M, [], op, t⟩ (dg2 (ix c) ++ [59]) = .ok (s', es) := by
  obtain ⟨h1, h2⟩ := ix100 hc
  have a1 := hg [] _ (fig_in h1) (by decide)
  have a2 := hg [48 + ix c / 10] _ (fig_in h2) (by show 1 < 2; decide)
  subst hr
  exact runM_cons a1 (runM_cons a2 (runM_one he))
theorem gath_ok {M w : Tx} {op : List Tx} {t : Tx} {k : Nat} (hw : w.length < 2) : gath M (w ++ [k]) op t 2 = some (⟨M, w ++ [k], op, t⟩, []) := by
  unfold gath
  rw [if_neg (by rw [List.length_append, List.length_singleton]; omega)]
theorem run_mark_text {op : List Tx} {c : Nat} (hc : c ∈ sg) : runM ⟨mText, [], op, []⟩ (mkS c) = .ok (⟨mText, [], op, []⟩, [[eSign, [c]]]) := by
  refine runM_cons (s1 := ⟨mMark, [], op, []⟩) (e1 := []) rfl ?_
  refine run_figs hc (fun w k hk hw => ?_) rfl ?_
  · show aMark w op [] k = _
    unfold aMark; rw [if_pos hk, gath_ok hw]
  · show aMark (dg2 (ix c)) op [] 59 = _
    unfold aMark; rw [if_neg (by decide)]; unfold mkEnd; rw [if_pos rfl, told_dg2 hc]; rfl
theorem run_mark_quoted {op : List Tx} {c : Nat} (hc : c ∈ sg) : runM ⟨mQuoted, [], op, []⟩ (mkS c) = .ok (⟨mQuoted, [], op, []⟩, [[eSign, [c]]]) := by
  refine runM_cons (s1 := ⟨mQmark, [], op, []⟩) (e1 := []) rfl ?_
  refine run_figs hc (fun w k hk hw => ?_) rfl ?_
  · show aQmark w op [] k = _
    unfold aQmark; rw [if_pos hk, gath_ok hw]
  · show aQmark (dg2 (ix c)) op [] 59 = _
    unfold aQmark; rw [if_neg (by decide)]; unfold mkEnd; rw [if_pos rfl, told_dg2 hc]; rfl
theorem run_mark_talk {op : List Tx} {t : Tx} {c : Nat} (hc : c ∈ sg) {s' : MS} {es : List Ev} (hr : fedM op t (some c) = some (s', es)) : runM ⟨mTalk, [], op, t⟩ (mkS c) = .ok (s', es) := by
  refine runM_cons (s1 := ⟨mTmark, [], op, t⟩) (e1 := []) rfl ?_
  refine run_figs hc (fun w k hk hw => ?_) rfl ?_
  · show aTmark w op t k = _
    unfold aTmark; rw [if_pos hk, gath_ok hw]
  · show aTmark (dg2 (ix c)) op t 59 = _
    unfold aTmark; rw [if_neg (by decide)]; unfold mkEnd; rw [if_pos rfl, told_dg2 hc]; exact hr
theorem run_code_bare {op : List Tx} {c : Nat} (hc : c ∈ sg) : runM ⟨mBare, [], op, []⟩ (126 :: dg2 (ix c)) = .ok (⟨mBare, [], op, []⟩, [[eSign, [c]]]) := by
  obtain ⟨h1, h2⟩ := ix100 hc
  refine runM_cons (s1 := ⟨mCode, [], op, []⟩) (e1 := []) rfl ?_
  refine runM_cons (s1 := ⟨mCode, [48 + ix c / 10], op, []⟩) (e1 := []) ?_ (runM_one ?_)
  · show aCode [] op [] _ = _
    unfold aCode; rw [if_pos rfl, if_pos (fig_in h1)]
  · show aCode [48 + ix c / 10] op [] _ = _
    unfold aCode; rw [if_neg (by simp)]
    rw [show [48 + ix c / 10] ++ [48 + ix c % 10] = dg2 (ix c) from rfl, told_dg2 hc]; rfl
theorem run_text {op : List Tx} {c : Nat} (h1 : c ≠ 60) (h2 : c ≠ 38) : runM ⟨mText, [], op, []⟩ [c] = .ok (⟨mText, [], op, []⟩, [[eSign, [c]]]) := runM_one (by
  show aText [] op [] c = _
  unfold aText; rw [if_neg h1, if_neg h2]; rfl)
theorem run_quoted {op : List Tx} {c : Nat} (h1 : c ≠ 34) (h2 : c ≠ 38) : runM ⟨mQuoted, [], op, []⟩ [c] = .ok (⟨mQuoted, [], op, []⟩, [[eSign, [c]]]) := runM_one (by
  show aQuoted [] op [] c = _
  unfold aQuoted; rw [if_neg h1, if_neg h2]; rfl)
theorem run_bare {op : List Tx} {c : Nat} (h1 : c ∈ ws) : runM ⟨mBare, [], op, []⟩ [c] = .ok (⟨mBare, [], op, []⟩, [[eSign, [c]]]) := runM_one (by
  show aBare [] op [] c = _
  unfold aBare; rw [if_pos h1]; rfl)
theorem run_row {op : List Tx} {c : Nat} (h1 : c ≠ 92) (h2 : c ≠ 44) (h3 : c ≠ 41) : runM ⟨mRow, [], op, []⟩ [c] = .ok (⟨mRow, [], op, []⟩, [[eSign, [c]]]) := runM_one (by
  show aRow [] op [] c = _
  unfold aRow; rw [if_neg h1, if_neg h2, if_neg h3]; rfl)
theorem run_row_stroke {op : List Tx} {c : Nat} : runM ⟨mRow, [], op, []⟩ [92, c] = .ok (⟨mRow, [], op, []⟩, [[eSign, [c]]]) :=
  runM_cons (s1 := ⟨mStroke, [], op, []⟩) (e1 := []) rfl (runM_one rfl)
theorem run_talk {op : List Tx} {t : Tx} {c : Nat} (h1 : c ≠ 38) (h2 : c ≠ 34) {s' : MS} {es : List Ev} (hr : fedM op t (some c) = some (s', es)) : runM ⟨mTalk, [], op, t⟩ [c] = .ok (s', es) := runM_one (by
  show aTalk [] op t c = _
  unfold aTalk; rw [if_neg h1, if_neg h2]; exact hr)
theorem fed_stroke {op : List Tx} {c : Nat} : fedM op tStroke (some c) = some (⟨mTalk, [], op, tSaid⟩, [[eSign, [c]]]) := rfl
theorem fed_said {op : List Tx} {c : Nat} (h1 : c ≠ 39) (h2 : c ≠ 92) : fedM op tSaid (some c) = some (⟨mTalk, [], op, tSaid⟩, [[eSign, [c]]]) := by
  have : feedM tSaid c = some (tSaid, [[eSign, [c]]]) := by
    show fedS c = _
    unfold fedS
    rw [if_neg h1, if_neg h2]
  simp only [fedM, this]
theorem run_stroke92 {op : List Tx} : runM ⟨mTalk, [], op, tSaid⟩ [92] = .ok (⟨mTalk, [], op, tStroke⟩, []) := rfl
theorem run_stroke59 {op : List Tx} : runM ⟨mTalk, [], op, tSaid⟩ [38, 53, 57, 59] = .ok (⟨mTalk, [], op, tStroke⟩, []) := rfl
/-! at a place nothing is left over -/
def Calm (s : MS) : Prop := (s.mode ∈ [mText, mBare, mRow, mQuoted] → s.word = [] ∧ s.talk = []) ∧ (s.mode = mTalk → s.word = [])
theorem calmN {m w : Tx} {op : List Tx} {t : Tx} (h1 : m ∉ [mText, mBare, mRow, mQuoted]) (h2 : m ≠ mTalk) : Calm ⟨m, w, op, t⟩ := ⟨fun z => absurd z h1, fun z => absurd z h2⟩
theorem calmT {op : List Tx} {t : Tx} : Calm ⟨mTalk, [], op, t⟩ := ⟨fun z => absurd (show mTalk ∈ [mText, mBare, mRow, mQuoted] from z) (by decide), fun _ => rfl⟩
theorem at_calm : ∀ e ∈ atTab, ∀ (w : Tx) (op : List Tx) (t : Tx) (c : Nat) (s' : MS) (es : List Ev), e.2 w op t c = some (s', es) → Calm s' := by
  have comeK : ∀ m op, Calm ⟨m, [], op, []⟩ := fun m op => ⟨fun _ => ⟨rfl, rfl⟩, fun _ => rfl⟩
  have led : ∀ op c es s' es', ledOn op c es = some (s', es') → Calm s' := by
    intro op c es s' es' h
    simp only [ledOn, comeTo, intoBox] at h
    repeat' split at h
    all_goals (first | cases h | skip)
    all_goals exact comeK _ _
  have shut : ∀ op es s' es', boxShut op es = some (s', es') → Calm s' := by
    intro op es s' es' h
    simp only [boxShut, comeTo] at h
    split at h
    · cases h
    · cases h
      exact comeK _ _
  have toldK : ∀ m op o s' es', toldM m op o = some (s', es') → Calm s' := by
    intro m op o s' es' h
    cases o with
    | none => cases h
    | some c => cases h; exact comeK _ _
  have gathK : ∀ m w op t n s' es', m ∉ [mText, mBare, mRow, mQuoted] → m ≠ mTalk → gath m w op t n = some (s', es') → Calm s' := by
    intro m w op t n s' es' h1 h2 h
    simp only [gath] at h
    split at h
    · cases h
    · cases h
      exact ⟨fun z => absurd z h1, fun z => absurd z h2⟩
  have fedK : ∀ op t o s' es', fedM op t o = some (s', es') → Calm s' := by
    intro op t o s' es' h
    cases o with
    | none => cases h
    | some c =>
      simp only [fedM] at h
      cases hf : feedM t c with
      | none => rw [hf] at h; cases h
      | some r =>
        obtain ⟨t', fs⟩ := r
        rw [hf] at h
        cases h
        exact calmT
  intro e he w op t c s' es h
  simp only [atTab, List.mem_cons, List.not_mem_nil, or_false] at he
  rcases he with rfl | rfl | rfl | rfl | rfl | rfl | rfl | rfl | rfl | rfl | rfl | rfl | rfl | rfl | rfl | rfl | rfl | rfl | rfl | rfl
  all_goals simp only [aText, aMark, aOpen, aName, aSlash, aShut, aGap, aAttr, aIs, aBang, aBare, aCode, aRow, aStroke, aQuoted, aQmark, aDone, aTalk, aTmark, aAsis] at h
  all_goals repeat' split at h
  all_goals first
    | exact toldK _ _ _ _ _ h
    | exact gathK _ _ _ _ _ _ _ (by decide) (by decide) h
    | exact fedK _ _ _ _ _ h
    | exact led _ _ _ _ _ h
    | exact shut _ _ _ _ h
    | (cases h; exact comeK _ _)
    | (cases h; exact calmN (by decide) (by decide))
    | (cases h; exact calmT)
    | cases h
theorem look_mem {m : Tx} {f : AtF} : ∀ (l : List (Tx × AtF)), l.lookup m = some f → (m, f) ∈ l
  | [], h => by cases h
  | e :: l, h => by
    rw [List.lookup_cons] at h
    by_cases hm : m = e.1
    · subst hm
      simp at h
      rw [← h]
      exact List.mem_cons_self
    · have : (m == e.1) = false := beq_eq_false_iff_ne.mpr hm
      rw [this] at h
      exact List.mem_cons_of_mem _ (look_mem l h)
theorem step_calm {s s' : MS} {c : Nat} {es : List Ev} (h : stepM s c = some (s', es)) : Calm s' := by
  unfold stepM at h
  cases hl : atTab.lookup s.mode with
  | none => rw [hl] at h; cases h
  | some f =>
    rw [hl] at h
    exact at_calm _ (look_mem _ hl) _ _ _ _ _ _ h
theorem runM_split {s s2 : MS} {es : List Ev} : ∀ {a b : List Nat}, runM s (a ++ b) = .ok (s2, es) → ∃ s1 e1 e2, runM s a = .ok (s1, e1) ∧ runM s1 b = .ok (s2, e2) ∧ es = e1 ++ e2 := by
  intro a
  induction a generalizing s es with
  | nil => intro b h; exact ⟨s, [], es, rfl, h, rfl⟩
  | cons c r ih =>
    intro b h
    simp only [List.cons_append, runM] at h
    cases hq : stepM s c with
    | none => rw [hq] at h; cases h
    | some x =>
      obtain ⟨s', fs⟩ := x
      rw [hq] at h
      simp only at h
      cases hr : runM s' (r ++ b) with
      | error n => rw [hr] at h; cases h
      | ok y =>
        obtain ⟨s'', gs⟩ := y
        rw [hr] at h
        simp only [Except.ok.injEq, Prod.mk.injEq] at h
        obtain ⟨rfl, rfl⟩ := h
        obtain ⟨s1, e1, e2, h1, h2, rfl⟩ := ih hr
        exact ⟨s1, fs ++ e1, e2, by simp only [runM, hq, h1], h2, by rw [List.append_assoc]⟩
theorem run_calm {s s' : MS} {es : List Ev} : ∀ {l : List Nat}, runM s l = .ok (s', es) → Calm s → Calm s' := by
  intro l
  induction l generalizing s es with
  | nil => intro h k; simp only [runM, Except.ok.injEq, Prod.mk.injEq] at h; obtain ⟨rfl, rfl⟩ := h; exact k
  | cons c r ih =>
    intro h k
    obtain ⟨s1, e1, e2, h1, h2, _⟩ := runM_split (a := [c]) h
    refine ih h2 ?_
    simp only [runM] at h1
    cases hq : stepM s c with
    | none => rw [hq] at h1; cases h1
    | some x =>
      obtain ⟨s2, fs⟩ := x
      rw [hq] at h1
      simp only [Except.ok.injEq, Prod.mk.injEq] at h1
      obtain ⟨rfl, _⟩ := h1
      exact step_calm hq
theorem calm0 : Calm ⟨mText, [], [], []⟩ := ⟨fun _ => ⟨rfl, rfl⟩, fun _ => rfl⟩
theorem run_len {s s' : MS} {es : List Ev} : ∀ {l : List Nat}, runM s l = .ok (s', es) → s.word.length ≤ 8 → s'.word.length ≤ 8 ∧ s'.opens.length ≤ s.opens.length + l.length ∧ es.length ≤ 10 * l.length := by
  intro l
  induction l generalizing s es with
  | nil => intro h k; simp only [runM, Except.ok.injEq, Prod.mk.injEq] at h; obtain ⟨rfl, rfl⟩ := h; exact ⟨k, by simp, by simp⟩
  | cons c r ih =>
    intro h k
    simp only [runM] at h
    cases hq : stepM s c with
    | none => rw [hq] at h; cases h
    | some x =>
      obtain ⟨s1, fs⟩ := x
      rw [hq] at h
      simp only at h
      cases hr : runM s1 r with
      | error n => rw [hr] at h; cases h
      | ok y =>
        obtain ⟨s2, gs⟩ := y
        rw [hr] at h
        simp only [Except.ok.injEq, Prod.mk.injEq] at h
        obtain ⟨rfl, rfl⟩ := h
        obtain ⟨b1, b2, b3⟩ := step_ok s c s1 fs hq k
        obtain ⟨c1, c2, c3⟩ := ih hr b1
        refine ⟨c1, ?_, ?_⟩
        · rw [List.length_cons]; omega
        · rw [List.length_append, List.length_cons]; omega
/-- what is put at a place is read as its signs -/
theorem put_one {p : Tx} {c : Nat} {s : MS} (hc : c ∈ sg) (hp : placeM s = some p) (hk : Calm s) : runM s (putL p [c]) = .ok (s, [[eSign, [c]]]) := by
  obtain ⟨m, w, op, t⟩ := s
  unfold placeM at hp
  split at hp
  · rename_i hm
    obtain ⟨h1, h2⟩ := hk.1 hm
    cases hp
    cases h1
    cases h2
    simp only [List.mem_cons, List.not_mem_nil, or_false] at hm
    rcases hm with rfl | rfl | rfl | rfl
    · rw [show putL mText [c] = mk1 [60] c ++ [] from rfl, List.append_nil]
      unfold mk1
      split
      · exact run_mark_text hc
      · rename_i h
        exact run_text (fun z => h (.inr (by rw [z]; decide))) (fun z => h (.inl z))
    · rw [show putL mBare [c] = wd1 c ++ [] from rfl, List.append_nil]
      unfold wd1
      split
      · rename_i h
        exact run_bare h
      · exact run_code_bare hc
    · rw [show putL mRow [c] = st1 [44, 41] c ++ [] from rfl, List.append_nil]
      unfold st1
      split
      · exact run_row_stroke
      · rename_i h
        exact run_row (fun z => h (.inl z)) (fun z => h (.inr (by rw [z]; decide))) (fun z => h (.inr (by rw [z]; decide)))
    · rw [show putL mQuoted [c] = mk1 [34] c ++ [] from rfl, List.append_nil]
      unfold mk1
      split
      · exact run_mark_quoted hc
      · rename_i h
        exact run_quoted (fun z => h (.inr (by rw [z]; decide))) (fun z => h (.inl z))
  · split at hp
    · rename_i _ hm
      cases hp
      obtain ⟨hm, ht⟩ := hm
      have h1 := hk.2 hm
      cases hm
      cases ht
      cases h1
      rw [show putL tSaid [c] = mkL (st1 [39] c ++ []) [34] from rfl, List.append_nil]
      have one : ∀ d ∈ sg, ∀ tk s' es, fedM op tk (some d) = some (s', es) → runM ⟨mTalk, [], op, tk⟩ (mkL [d] [34]) = .ok (s', es) := by
        intro d hd tk s' es hr
        rw [show mkL [d] [34] = mk1 [34] d ++ [] from rfl, List.append_nil]
        unfold mk1
        split
        · exact run_mark_talk hd hr
        · rename_i h
          exact run_talk (fun z => h (.inl z)) (fun z => h (.inr (by rw [z]; decide))) hr
      unfold st1
      split
      · rw [show mkL [92, c] [34] = [92] ++ mkL [c] [34] from rfl]
        exact runM_app run_stroke92 (one c hc _ _ _ fed_stroke)
      · rename_i h
        exact one c hc _ _ _ (fed_said (fun z => h (.inr (by rw [z]; decide))) (fun z => h (.inl z)))
    · cases hp
def sgE (l : List Nat) : List Ev := l.map fun c => [eSign, [c]]
theorem put_run {p : Tx} {s : MS} (hp : placeM s = some p) (hk : Calm s) : ∀ {l : List Nat}, (∀ c ∈ l, c ∈ sg) → runM s (putL p l) = .ok (s, sgE l)
  | [], _ => by rw [putL_nil]; rfl
  | c :: l, h => by
    rw [show c :: l = [c] ++ l from rfl, putL_app]
    exact runM_app (put_one (h c List.mem_cons_self) hp hk) (put_run hp hk fun d hd => h d (List.mem_cons_of_mem _ hd))
theorem place_pl {s : MS} {p : Tx} (hp : placeM s = some p) : IsPl p := by
  unfold placeM at hp
  split at hp
  · rename_i hm
    cases hp
    simp only [List.mem_cons, List.not_mem_nil, or_false] at hm
    rcases hm with h | h | h | h
    · exact .inl h
    · exact .inr (.inl h)
    · exact .inr (.inr (.inl h))
    · exact .inr (.inr (.inr (.inl h)))
  · split at hp
    · cases hp
      exact .inr (.inr (.inr (.inr rfl)))
    · cases hp
def NmL (x : Tx) : Prop := x.length ≤ 8 ∧ ∀ c ∈ x, c ∈ lt
def shL (n : Tx) : Tx := [60, 47] ++ n ++ [62]
def shutsL (op : List Tx) : Tx := (op.reverse.map shL).flatten
theorem run_letters {op : List Tx} : ∀ {n u : Tx}, (∀ c ∈ n, c ∈ lt) → u.length + n.length ≤ 8 → runM ⟨mShut, u, op, []⟩ n = .ok (⟨mShut, u ++ n, op, []⟩, [])
  | [], u, _, _ => by rw [List.append_nil]; rfl
  | c :: n, u, h, hl => by
    have hc := h c List.mem_cons_self
    rw [List.length_cons] at hl
    have e : stepM ⟨mShut, u, op, []⟩ c = some (⟨mShut, u ++ [c], op, []⟩, []) := by
      show aShut u op [] c = _
      unfold aShut gath
      rw [if_pos hc, if_neg (by rw [List.length_append, List.length_singleton]; omega)]
    have r := run_letters (op := op) (n := n) (u := u ++ [c]) (fun d hd => h d (List.mem_cons_of_mem _ hd)) (by rw [List.length_append, List.length_singleton]; omega)
    rw [List.append_assoc, List.singleton_append] at r
    exact runM_cons (e1 := []) (e2 := []) e r
theorem run_shut {op : List Tx} {n : Tx} (h : NmL n) : runM ⟨mText, [], op ++ [n], []⟩ (shL n) = .ok (⟨mText, [], op, []⟩, [[eOut]]) := by
  unfold shL
  have a1 : runM ⟨mText, [], op ++ [n], []⟩ [60, 47] = .ok (⟨mShut, [], op ++ [n], []⟩, []) := rfl
  have a2 := run_letters (op := op ++ [n]) (n := n) (u := []) h.2 (by simpa using h.1)
  have a3 : runM ⟨mShut, [] ++ n, op ++ [n], []⟩ [62] = .ok (⟨mText, [], op, []⟩, [[eOut]]) := by
    refine runM_one ?_
    show aShut ([] ++ n) (op ++ [n]) [] 62 = _
    unfold aShut boxShut
    rw [if_neg (by decide), if_pos ⟨rfl, by simp⟩, if_neg (by simp), List.dropLast_concat]
    rfl
  exact runM_app (runM_app a1 a2) a3
def sp__law_value : Sp := fun vs H Q _ => ∃ c m : Int, vs = [.int c, .int m] ∧ 0 < m ∧ m ≤ 100 ∧ ∀ v H', (∀ c ∈ v, c ∈ sg) → (v.length : Int) < m → Same H H' → Q (.str (S v)) H'
/-! the law's own defs -/
abbrev s00 : MS := ⟨mText, [], [], []⟩
def sp_is_end : Sp := fun vs H Q _ => ∃ (x : V) (s : MS), vs = [x] ∧ StV H x s ∧ ∀ H' b, Same H H' → (b = true ↔ s = s00) → Q (.bl b) H'
abbrev Part := Tx × Option Tx × List Ev
def plO : Option Tx → V
  | none => .non
  | some p => .str (S p)
def PtV (G : Addr → Prop) (H : Hp) (v : V) (q : Part) : Prop := ∃ p ea, v = .ref p ∧ H p = some (.tup [tx q.1, plO q.2.1, .ref ea]) ∧ EvL H ea q.2.2 ∧ G ea
inductive PtA (G : Addr → Prop) (H : Hp) : List V → List Part → Prop
  | nil : PtA G H [] []
  | cons {v : V} {q : Part} {vs : List V} {qs : List Part} : PtV G H v q → PtA G H vs qs → PtA G H (v :: vs) (q :: qs)
theorem PtV.mono {G G' : Addr → Prop} {H H' : Hp} {v : V} {q : Part} (h : PtV G H v q) (g : Same H H') (k : ∀ a, G a → G' a) : PtV G' H' v q := by
  obtain ⟨p, ea, e, h1, h2, h3⟩ := h
  exact ⟨p, ea, e, g _ _ h1, h2.mono g, k _ h3⟩
theorem PtA.mono {G G' : Addr → Prop} {H H' : Hp} {vs : List V} {qs : List Part} (h : PtA G H vs qs) (g : Same H H') (k : ∀ a, G a → G' a) : PtA G' H' vs qs := by
  induction h with
  | nil => exact .nil
  | cons h _ ih => exact .cons (h.mono g k) ih
theorem PtA.app {G : Addr → Prop} {H : Hp} {vs us : List V} {qs rs : List Part} (h : PtA G H vs qs) (k : PtA G H us rs) : PtA G H (vs ++ us) (qs ++ rs) := by
  induction h with
  | nil => exact k
  | cons h _ ih => exact .cons h ih
theorem PtA.len {G : Addr → Prop} {H : Hp} {vs : List V} {qs : List Part} (h : PtA G H vs qs) : vs.length = qs.length := by
  induction h with
  | nil => rfl
  | cons _ _ ih => simp [ih]
theorem PtA.get {G : Addr → Prop} {H : Hp} {vs : List V} {qs : List Part} {i : Nat} {v : V} (h : PtA G H vs qs) (e : vs[i]? = some v) : ∃ q, qs[i]? = some q ∧ PtV G H v q := by
  induction h generalizing i with
  | nil => simp at e
  | cons h _ ih =>
    cases i with
    | zero => simp at e; subst e; exact ⟨_, rfl, h⟩
    | succ i => exact ih (by simpa using e)
theorem PtV.updD {H : Hp} {D : Addr} {xs ys : List V} {v : V} {q : Part} (h : PtV (· ≠ D) H v q) (hD : H D = some (.lst xs)) : PtV (· ≠ D) (upd H D (.lst ys)) v q := by
  obtain ⟨p, ea, e, h1, ⟨vs, h2, h4⟩, h3⟩ := h
  exact ⟨p, ea, e, by rw [upd_ne (ne_of h1 hD (by intro z; cases z))]; exact h1, ⟨vs, by rw [upd_ne h3]; exact h2, h4.updL hD⟩, h3⟩
theorem PtA.updD {H : Hp} {D : Addr} {xs ys : List V} {vs : List V} {qs : List Part} (h : PtA (· ≠ D) H vs qs) (hD : H D = some (.lst xs)) : PtA (· ≠ D) (upd H D (.lst ys)) vs qs := by
  induction h with
  | nil => exact .nil
  | cons h _ ih => exact .cons (h.updD hD) ih
def PtL (H : Hp) (a : Addr) (qs : List Part) : Prop := ∃ vs, H a = some (.lst vs) ∧ PtA (fun _ => True) H vs qs
theorem PtL.mono {H H' : Hp} {a : Addr} {qs : List Part} (h : PtL H a qs) (g : Same H H') : PtL H' a qs := by
  obtain ⟨vs, h1, h2⟩ := h
  exact ⟨vs, g _ _ h1, h2.mono g fun _ h => h⟩
inductive Chain : MS → List Ev → List Part → MS → List Ev → Prop
  | nil {s : MS} {P : List Ev} : Chain s P [] s P
  | cons {s s1 s2 : MS} {P P1 P2 em es : List Ev} {t : Tx} {pl : Option Tx} {ps : List Part} (h : runM s t = .ok (s1, em)) (e : P ++ es = em ++ P1) (hp : ∀ p, pl = some p → placeM s1 = some p ∧ P1 = []) (r : Chain s1 P1 ps s2 P2) : Chain s P ((t, pl, es) :: ps) s2 P2
theorem Chain.app {s s1 s2 : MS} {P P1 P2 : List Ev} {ps qs : List Part} (h : Chain s P ps s1 P1) (k : Chain s1 P1 qs s2 P2) : Chain s P (ps ++ qs) s2 P2 := by
  induction h with
  | nil => exact k
  | cons h e hp _ ih => exact .cons h e hp (ih k)
theorem Chain.one {s s1 : MS} {P P1 em es : List Ev} {t : Tx} {pl : Option Tx} (h : runM s t = .ok (s1, em)) (e : P ++ es = em ++ P1) (hp : ∀ p, pl = some p → placeM s1 = some p ∧ P1 = []) : Chain s P [(t, pl, es)] s1 P1 := .cons h e hp .nil
def pressT : List Part → List Tx → Tx
  | [], _ => []
  | (t, none, _) :: ps, vs => t ++ pressT ps vs
  | (t, some p, _) :: ps, v :: vs => t ++ putL p v ++ pressT ps vs
  | (t, some _, _) :: ps, [] => t ++ pressT ps []
def pressE : List Part → List Tx → List Ev
  | [], _ => []
  | (_, none, es) :: ps, vs => es ++ pressE ps vs
  | (_, some _, es) :: ps, v :: vs => es ++ sgE v ++ pressE ps vs
  | (_, some _, es) :: ps, [] => es ++ pressE ps []
def holes (ps : List Part) : Nat := (ps.filter fun q => q.2.1.isSome).length
theorem holes_none {t : Tx} {es : List Ev} {ps : List Part} : holes ((t, none, es) :: ps) = holes ps := rfl
theorem holes_some {t p : Tx} {es : List Ev} {ps : List Part} : holes ((t, some p, es) :: ps) = holes ps + 1 := rfl
theorem press_run {s s' : MS} {P P' : List Ev} {ps : List Part} (h : Chain s P ps s' P') : ∀ {vs : List Tx}, Calm s → holes ps ≤ vs.length → (∀ v ∈ vs, ∀ c ∈ v, c ∈ sg) → ∃ em, runM s (pressT ps vs) = .ok (s', em) ∧ P ++ pressE ps vs = em ++ P' := by
  induction h with
  | nil => intro vs _ _ _; exact ⟨[], rfl, by simp [pressE]⟩
  | @cons s s1 s2 P P1 P2 em es t pl ps h e hp r ih =>
    intro vs hk hh hv
    have hk1 := run_calm h hk
    cases pl with
    | none =>
      obtain ⟨em2, r2, e2⟩ := ih hk1 (by rw [holes_none] at hh; exact hh) hv
      refine ⟨em ++ em2, by simp only [pressT]; exact runM_app h r2, ?_⟩
      simp only [pressE]
      rw [← List.append_assoc, e, List.append_assoc, e2, List.append_assoc]
    | some p =>
      obtain ⟨hp1, rfl⟩ := hp p rfl
      rw [holes_some] at hh
      cases vs with
      | nil => simp at hh
      | cons v vs =>
        obtain ⟨em2, r2, e2⟩ := ih (vs := vs) hk1 (by rw [List.length_cons] at hh; omega) (fun x hx => hv x (List.mem_cons_of_mem _ hx))
        refine ⟨em ++ sgE v ++ em2, by simp only [pressT]; exact runM_app (runM_app h (put_run hp1 hk1 (hv v List.mem_cons_self))) r2, ?_⟩
        simp only [pressE]
        rw [List.nil_append] at e2
        rw [List.append_nil] at e
        rw [e2, ← e]
        simp only [List.append_assoc]
def ns (e : Ev) : Bool := !decide (e.head? = some eSign)
theorem sgE_ns (l : List Nat) : (sgE l).filter ns = [] := by
  induction l with
  | nil => rfl
  | cons c l ih =>
    show (([eSign, [c]] : Ev) :: sgE l).filter ns = []
    rw [List.filter_cons_of_neg (by simp [ns]), ih]
theorem press_shape : ∀ {ps : List Part} {vs : List Tx}, (pressE ps vs).filter ns = ((ps.map fun q => q.2.2).flatten).filter ns
  | [], _ => rfl
  | (t, none, es) :: ps, vs => by simp only [pressE, List.map_cons, List.flatten_cons, List.filter_append, press_shape (ps := ps)]
  | (t, some p, es) :: ps, v :: vs => by simp only [pressE, List.map_cons, List.flatten_cons, List.filter_append, press_shape (ps := ps), sgE_ns, List.append_nil]
  | (t, some p, es) :: ps, [] => by simp only [pressE, List.map_cons, List.flatten_cons, List.filter_append, press_shape (ps := ps)]
def Small (ps : List Part) : Prop := ∀ q ∈ ps, q.1.length ≤ 20 ∧ q.2.2.length ≤ 10 ∧ (∀ e ∈ q.2.2, e ≠ []) ∧ ∀ p, q.2.1 = some p → IsPl p
theorem small_app {a b : List Part} (h : Small a) (k : Small b) : Small (a ++ b) := fun q hq => by
  rcases List.mem_append.mp hq with z | z
  · exact h q z
  · exact k q z
def VOk (vs : List Tx) : Prop := ∀ v ∈ vs, v.length ≤ 94 ∧ ∀ c ∈ v, c ∈ sg
theorem press_len : ∀ {ps : List Part} {vs : List Tx}, Small ps → VOk vs → (pressT ps vs).length ≤ 2000 * ps.length ∧ (pressE ps vs).length ≤ 200 * ps.length ∧ ∀ e ∈ pressE ps vs, e ≠ []
  | [], _, _, _ => by simp [pressT, pressE]
  | (t, none, es) :: ps, vs, h, k => by
    obtain ⟨h1, h2, h3, h4⟩ := h _ List.mem_cons_self
    obtain ⟨i1, i2, i3⟩ := press_len (ps := ps) (vs := vs) (fun q hq => h q (List.mem_cons_of_mem _ hq)) k
    simp only [pressT, pressE, List.length_append, List.length_cons] at *
    refine ⟨by omega, by omega, fun e he => ?_⟩
    rcases List.mem_append.mp he with z | z
    · exact h3 e z
    · exact i3 e z
  | (t, some p, es) :: ps, [], h, k => by
    obtain ⟨h1, h2, h3, h4⟩ := h _ List.mem_cons_self
    obtain ⟨i1, i2, i3⟩ := press_len (ps := ps) (vs := []) (fun q hq => h q (List.mem_cons_of_mem _ hq)) k
    simp only [pressT, pressE, List.length_append, List.length_cons] at *
    refine ⟨by omega, by omega, fun e he => ?_⟩
    rcases List.mem_append.mp he with z | z
    · exact h3 e z
    · exact i3 e z
  | (t, some p, es) :: ps, v :: vs, h, k => by
    obtain ⟨h1, h2, h3, h4⟩ := h _ List.mem_cons_self
    obtain ⟨i1, i2, i3⟩ := press_len (ps := ps) (vs := vs) (fun q hq => h q (List.mem_cons_of_mem _ hq)) (fun x hx => k x (List.mem_cons_of_mem _ hx))
    have kv := (k v List.mem_cons_self).1
    have hpl := putL_len p v
    have sl : (sgE v).length = v.length := List.length_map _
    simp only [pressT, pressE, List.length_append, List.length_cons] at *
    refine ⟨by omega, by omega, fun e he => ?_⟩
    rcases List.mem_append.mp he with z | z
    · rcases List.mem_append.mp z with z | z
      · exact h3 e z
      · obtain ⟨c, _, rfl⟩ := List.mem_map.mp z
        simp
    · exact i3 e z
/-! the parts that the law makes -/
theorem run_nm {op : List Tx} : ∀ {n u : Tx}, (∀ c ∈ n, c ∈ lt) → u.length + n.length ≤ 8 → runM ⟨mName, u, op, []⟩ n = .ok (⟨mName, u ++ n, op, []⟩, [])
  | [], u, _, _ => by simp [runM]
  | c :: n, u, h, hl => by
    have hc := h c List.mem_cons_self
    have e : stepM ⟨mName, u, op, []⟩ c = some (⟨mName, u ++ [c], op, []⟩, []) := by
      show aName u op [] c = _
      unfold aName gath
      rw [if_pos hc, if_neg (by rw [List.length_append, List.length_singleton]; rw [List.length_cons] at hl; omega)]
    have := runM_cons e (run_nm (n := n) (u := u ++ [c]) (fun d hd => h d (List.mem_cons_of_mem _ hd)) (by rw [List.length_append, List.length_singleton]; rw [List.length_cons] at hl; omega))
    rw [List.append_assoc] at this
    exact this
theorem run_open {wd : Tx} (h : NmOk wd) : runM s00 ([120, 32, 60] ++ wd) = .ok (⟨mName, wd, [], []⟩, [[eSign, [120]], [eSign, [32]]]) := by
  obtain ⟨h1, h2, h3⟩ := h
  cases wd with
  | nil => cases h1
  | cons c n =>
    have hc := h3 c List.mem_cons_self
    have e : stepM ⟨mOpen, [], [], []⟩ c = some (⟨mName, [c], [], []⟩, []) := by
      show aOpen [] [] [] c = _
      unfold aOpen gath
      rw [if_neg (by rintro rfl; exact absurd hc (by decide)), if_pos hc, if_neg (by simp)]
    have := runM_app (show runM s00 [120, 32, 60] = .ok (⟨mOpen, [], [], []⟩, [[eSign, [120]], [eSign, [32]]]) from rfl) (runM_cons e (run_nm (op := []) (n := n) (u := [c]) (fun d hd => h3 d (List.mem_cons_of_mem _ hd)) (by rw [List.length_cons] at h2; rw [List.length_singleton]; omega)))
    exact this
def Amid (wd : Tx) (s : MS) (P : List Ev) : Prop := (s = ⟨mName, wd, [], []⟩ ∧ P = [[eBox, wd]]) ∨ (P = [] ∧ (s = ⟨mBare, [], [wd], []⟩ ∨ s = ⟨mDone, [], [wd], []⟩))
theorem amid_gap {wd : Tx} {s : MS} {P : List Ev} (h : Amid wd s P) : stepM s 32 = some (⟨mGap, [], [wd], []⟩, P) := by
  rcases h with ⟨rfl, rfl⟩ | ⟨rfl, rfl | rfl⟩
  · rfl
  · rfl
  · rfl
theorem amid_in {wd : Tx} {s : MS} {P : List Ev} (hw : wd ≠ mAsis) (h : Amid wd s P) : stepM s 62 = some (⟨mText, [], [wd], []⟩, P ++ [[eIn]]) := by
  have i : ∀ P, intoBox [wd] P = some (⟨mText, [], [wd], []⟩, P ++ [[eIn]]) := fun P => by
    unfold intoBox
    rw [if_neg (by simp), if_neg (by simpa using hw)]
    rfl
  rcases h with ⟨rfl, rfl⟩ | ⟨rfl, rfl | rfl⟩
  · exact i [[eBox, wd]]
  · exact i []
  · exact i []
def wKind : Nat → Tx
  | 0 => mBare
  | 1 => mQuoted
  | 2 => mRow
  | _ => mTalk
def wPl : Nat → Tx
  | 0 => mBare
  | 1 => mQuoted
  | 2 => mRow
  | _ => tSaid
def wLead : Nat → Tx
  | 0 => [32, 97, 58, 120]
  | 1 => [32, 97, 61, 34, 120]
  | 2 => [32, 97, 40, 121, 44, 120]
  | _ => [32, 97, 33, 34, 121, 32, 39, 120]
def wClose : Nat → Tx
  | 0 => [120]
  | 1 => [120, 34]
  | 2 => [120, 41]
  | _ => [120, 39, 34]
def wEv : Nat → List Ev
  | 0 => []
  | 1 => []
  | 2 => [[eSign, [121]], [eNext]]
  | _ => [[eWord], [eSign, [121]], [eSaid]]
def wSt (wd : Tx) : Nat → MS
  | 0 => ⟨mBare, [], [wd], []⟩
  | 1 => ⟨mQuoted, [], [wd], []⟩
  | 2 => ⟨mRow, [], [wd], []⟩
  | _ => ⟨mTalk, [], [wd], tSaid⟩
def wEnd (wd : Tx) : Nat → MS
  | 0 => ⟨mBare, [], [wd], []⟩
  | _ => ⟨mDone, [], [wd], []⟩
def leadP (i : Nat) : Part := (wLead i, some (wPl i), [[eAttr, [97], wKind i]] ++ wEv i ++ [[eSign, [120]]])
def closeP (i : Nat) : Part := (wClose i, none, [[eSign, [120]]])
theorem lead_chain {wd : Tx} {s : MS} {P : List Ev} (h : Amid wd s P) : ∀ i, Chain s P [leadP i] (wSt wd i) [] := by
  have g := amid_gap h
  intro i
  match i with
  | 0 => exact .one (runM_cons g (show runM ⟨mGap, [], [wd], []⟩ [97, 58, 120] = .ok (wSt wd 0, [[eAttr, [97], mBare], [eSign, [120]]]) from rfl)) (by rw [List.append_nil]; rfl) (fun p e => by cases e; exact ⟨rfl, rfl⟩)
  | 1 => exact .one (runM_cons g (show runM ⟨mGap, [], [wd], []⟩ [97, 61, 34, 120] = .ok (wSt wd 1, [[eAttr, [97], mQuoted], [eSign, [120]]]) from rfl)) (by rw [List.append_nil]; rfl) (fun p e => by cases e; exact ⟨rfl, rfl⟩)
  | 2 => exact .one (runM_cons g (show runM ⟨mGap, [], [wd], []⟩ [97, 40, 121, 44, 120] = .ok (wSt wd 2, [[eAttr, [97], mRow], [eSign, [121]], [eNext], [eSign, [120]]]) from rfl)) (by rw [List.append_nil]; rfl) (fun p e => by cases e; exact ⟨rfl, rfl⟩)
  | n + 3 => exact .one (runM_cons g (show runM ⟨mGap, [], [wd], []⟩ [97, 33, 34, 121, 32, 39, 120] = .ok (wSt wd 3, [[eAttr, [97], mTalk], [eWord], [eSign, [121]], [eSaid], [eSign, [120]]]) from rfl)) (by rw [List.append_nil]; rfl) (fun p e => by cases e; exact ⟨rfl, rfl⟩)
theorem close_chain (wd : Tx) : ∀ i, Chain (wSt wd i) [] [closeP i] (wEnd wd i) [] := by
  intro i
  match i with
  | 0 => exact .one rfl rfl (fun p e => by cases e)
  | 1 => exact .one rfl rfl (fun p e => by cases e)
  | 2 => exact .one rfl rfl (fun p e => by cases e)
  | n + 3 => exact .one rfl rfl (fun p e => by cases e)
theorem end_amid (wd : Tx) : ∀ i, Amid wd (wEnd wd i) [] := by
  intro i
  match i with
  | 0 => exact .inr ⟨rfl, .inl rfl⟩
  | n + 1 => exact .inr ⟨rfl, .inr rfl⟩
theorem way_small (i : Nat) : Small [leadP i, closeP i] := by
  intro q hq
  have pl : IsPl (wPl i) := by
    match i with
    | 0 => exact .inr (.inl rfl)
    | 1 => exact .inr (.inr (.inr (.inl rfl)))
    | 2 => exact .inr (.inr (.inl rfl))
    | n + 3 => exact .inr (.inr (.inr (.inr rfl)))
  simp only [List.mem_cons, List.not_mem_nil, or_false] at hq
  rcases hq with rfl | rfl
  · refine ⟨?_, ?_, ?_, fun p e => by cases e; exact pl⟩
    · match i with
      | 0 => decide
      | 1 => decide
      | 2 => decide
      | n + 3 => exact (by decide : 8 ≤ 20)
    · match i with
      | 0 => decide
      | 1 => decide
      | 2 => decide
      | n + 3 => exact (by decide : 5 ≤ 10)
    · match i with
      | 0 => exact by simp [leadP, wEv]
      | 1 => exact by simp [leadP, wEv]
      | 2 => exact by simp [leadP, wEv]
      | n + 3 => exact by simp [leadP, wEv]
  · refine ⟨?_, by simp [closeP], by simp [closeP], fun p e => by cases e⟩
    match i with
    | 0 => decide
    | 1 => decide
    | 2 => decide
    | n + 3 => exact (by decide : 3 ≤ 20)
def inP : Part := ([62, 120], some mText, [[eIn], [eSign, [120]]])
def boxP : Part := ([120, 60, 98, 47, 62], some mText, [[eSign, [120]], [eBox, [98]], [eIn], [eOut]])
def outP (wd : Tx) : Part := ([120] ++ shL wd, some mText, [[eSign, [120]], [eOut]])
theorem in_chain {wd : Tx} {s : MS} {P : List Ev} (hw : wd ≠ mAsis) (h : Amid wd s P) : Chain s P [inP] ⟨mText, [], [wd], []⟩ [] :=
  .one (runM_cons (amid_in hw h) (show runM ⟨mText, [], [wd], []⟩ [120] = .ok (⟨mText, [], [wd], []⟩, [[eSign, [120]]]) from rfl)) (by rw [List.append_nil, List.append_assoc]; rfl) (fun p e => by cases e; exact ⟨rfl, rfl⟩)
theorem box_chain {wd : Tx} : Chain ⟨mText, [], [wd], []⟩ [] [boxP] ⟨mText, [], [wd], []⟩ [] := .one rfl rfl (fun p e => by cases e; exact ⟨rfl, rfl⟩)
theorem out_chain {wd : Tx} (h : NmL wd) : Chain ⟨mText, [], [wd], []⟩ [] [outP wd] s00 [] :=
  .one (runM_app (show runM ⟨mText, [], [wd], []⟩ [120] = .ok (⟨mText, [], [] ++ [wd], []⟩, [[eSign, [120]]]) from rfl) (run_shut h)) rfl (fun p e => by cases e; exact ⟨rfl, rfl⟩)
/-- [x for x in list if ..] -/
theorem lc_listF {K : PySem.W.Frag} {a : Addr} {xs : List V} {α : Type} {ms : List α} {tt : TT} {σ : L2.St} {H : Hp} {Q : VK} (f : α → Bool) (hl : xs.length ≤ sizeLine) (hm : xs.length = ms.length)
    (ha : H a = some (.lst xs))
    (ht : ∀ (i : Nat) v m, xs[i]? = some v → ms[i]? = some m → ∀ H1, Same H H1 → ∀ R : Bool → Hp → Prop, R (f m) H1 → tt (some v :: σ) H1 R)
    (hq : ∀ D H2, H D = none → Same H H2 → H2 D = some (.lst (((xs.zip ms).filter fun z => f z.2).map fun z => z.1)) → Q (.ref D) H2) : lcBody (Itl K a) tt (tVar 0) σ H Q := by
  intro D hD
  refine ⟨fun i m ys H' => m = xs.length - i ∧ i ≤ xs.length ∧ ys = ((((xs.zip ms).take i).filter fun z => f z.2).map fun z => z.1) ∧ Same H H' ∧ H' D = some (.lst ys), ⟨xs.length, by simp, Nat.zero_le _, by simp, same_upd hD, upd_same⟩, ?_⟩
  rintro i m ys H' ⟨rfl, hi, hy, sm, hDl⟩
  refine ⟨hDl, ?_⟩
  have sq : SqL K H' a xs := SqL.of (sm _ _ ha)
  by_cases hlt : i < xs.length
  · refine .inr ⟨⟨xs, xs[i], sq, by simp [hlt]⟩, fun v H2 y => ?_⟩
    obtain ⟨rfl, y⟩ := y
    have hc := y xs sq
    have hlm : i < ms.length := by omega
    have hz : (xs.zip ms)[i]? = some (v, ms[i]) := by
      rw [List.getElem?_zip_eq_some]
      exact ⟨hc, List.getElem?_eq_getElem hlm⟩
    have hyl : ys.length ≤ i := by
      rw [hy, List.length_map]
      refine Nat.le_trans (List.length_filter_le _ _) ?_
      rw [List.length_take]
      exact Nat.min_le_left _ _
    have htk : (xs.zip ms).take (i + 1) = (xs.zip ms).take i ++ [(v, ms[i])] := by
      rw [List.take_add_one, hz]
      rfl
    refine ht i v ms[i] hc (List.getElem?_eq_getElem hlm) H2 sm _ ?_
    cases hf : f ms[i] with
    | true =>
      rw [if_pos rfl]
      refine ⟨_, rfl, hDl, by omega, xs.length - (i + 1), by omega, rfl, hlt, ?_, ?_, upd_same⟩
      · rw [htk, List.filter_append, List.map_append, ← hy]
        simp [hf]
      · intro b o e
        rw [upd_ne (ne_of_none e hD)]
        exact sm b o e
    | false =>
      rw [if_neg (by decide)]
      refine ⟨xs.length - (i + 1), by omega, rfl, hlt, ?_, sm, hDl⟩
      rw [htk, List.filter_append, List.map_append, ← hy]
      simp [hf]
  · have e : i = xs.length := by omega
    subst e
    refine .inl ⟨⟨xs, sq, Nat.le_refl _⟩, hq D H' hD sm ?_⟩
    rw [hDl, hy, List.take_of_length_le (by rw [List.length_zip]; omega)]
theorem evA_filter {H : Hp} {f : Ev → Bool} : ∀ {xs : List V} {es : List Ev}, EvA H xs es → EvA H (((xs.zip es).filter fun z => f z.2).map fun z => z.1) (es.filter f)
  | _, _, .nil => .nil
  | v :: xs, e :: es, .cons h r => by
    rw [List.zip_cons_cons]
    cases hf : f e with
    | true => rw [List.filter_cons_of_pos (by exact hf), List.filter_cons_of_pos (by exact hf), List.map_cons]; exact .cons h (evA_filter r)
    | false => rw [List.filter_cons_of_neg (by simp [hf]), List.filter_cons_of_neg (by simp [hf])]; exact evA_filter r
theorem zip_count {α : Type} {f : α → Bool} : ∀ {xs : List V} {ms : List α}, xs.length = ms.length → (((xs.zip ms).filter fun z => f z.2).map fun z => z.1).length = (ms.filter f).length
  | [], [], _ => rfl
  | [], _ :: _, h => by cases h
  | _ :: _, [], h => by cases h
  | v :: xs, m :: ms, h => by
    have ih := zip_count (f := f) (xs := xs) (ms := ms) (by simpa using h)
    rw [List.zip_cons_cons]
    cases hf : f m with
    | true => rw [List.filter_cons_of_pos (by exact hf), List.filter_cons_of_pos (by exact hf), List.map_cons, List.length_cons, List.length_cons, ih]
    | false => rw [List.filter_cons_of_neg (by simp [hf]), List.filter_cons_of_neg (by simp [hf]), ih]
theorem at0 {x : V} {xs : List V} : atI (x :: xs) 0 = some x := by rw [show (0 : Int) = ((0 : Nat) : Int) from rfl, atI_z]; rfl
theorem same_out {H H' : Hp} {D : Addr} {ys : List V} (hD : H D = none) (g : Same H H') : Same H (upd H' D (.lst ys)) := fun b o hb => by rw [upd_ne (ne_of_none hb hD)]; exact g _ _ hb
theorem rep_tx (v : Tx) : ∀ n, (List.replicate n [V.str (S v)]).flatten = (List.replicate n v).map tx
  | 0 => rfl
  | n + 1 => by rw [List.replicate_succ, List.replicate_succ, List.flatten_cons, rep_tx v n]; rfl
theorem dep_Es (es : List Ev) : depD (dEs es) ≤ 2 := by
  unfold dEs
  simp only [depD]
  have : depDs (es.map dE) ≤ 1 := by
    induction es with
    | nil => simp [depDs]
    | cons e es ih => simp only [List.map_cons, depDs, dep_E]; omega
  omega
theorem ev_upd {H : Hp} {b sh : Addr} {es : List Ev} {xs ys : List V} (hne : b ≠ sh) (hs : H sh = some (.lst xs)) (h : EvL H b es) : EvL (upd H sh (.lst ys)) b es := by
  obtain ⟨vs, h1, h2⟩ := h
  exact ⟨vs, by rw [upd_ne hne]; exact h1, h2.updL hs⟩
def sp__law_parts : Sp := fun vs H Q _ => ∃ c : Int, vs = [.int c] ∧ ∀ p (ps : List Part) H', PtL H' p ps → Chain s00 [] ps s00 [] → Small ps → ps.length ≤ 12 → Same H H' → Q (.ref p) H'
def sp__law_pressed : Sp := fun vs H Q _ => ∃ (pa va : Addr) (ps : List Part) (ts : List Tx), vs = [.ref pa, .ref va] ∧ PtL H pa ps ∧ H va = some (.lst (ts.map tx)) ∧ Small ps ∧ VOk ts ∧ ps.length ≤ 24 ∧ holes ps ≤ ts.length ∧ ts.length ≤ 100 ∧ ∀ r ea H', Same H H' → H' r = some (.tup [tx (pressT ps ts), .ref ea]) → EvL H' ea (pressE ps ts) → Q (.ref r) H'
def sp__law_values : Sp := fun vs H Q _ => ∃ (c : Int) (n : Nat), vs = [.int c, .int n] ∧ n ≤ 100 ∧ ∀ p (ts : List Tx) H', H p = none → Same H H' → H' p = some (.lst (ts.map tx)) → ts.length = n → VOk ts → Q (.ref p) H'
def sp__law_ran : Sp := fun vs H Q _ => ∃ (l : List Nat) (s' : MS) (es : List Ev), vs = [.str (S l)] ∧ l.length ≤ 100000 ∧ runM s00 l = .ok (s', es) ∧ ∀ v H', Same H H' → RnV (fun _ => True) H' v s' es → Q v H'
def sp__law_shape : Sp := fun vs H Q _ => ∃ (a : Addr) (es : List Ev), vs = [.ref a] ∧ EvL H a es ∧ es.length ≤ 100000 ∧ (∀ e ∈ es, e ≠ []) ∧ ∀ D H', H D = none → Same H H' → EvL H' D (es.filter ns) → Q (.ref D) H'
def sp_law (K : PySem.W.Frag) : Sp := fun vs H Q _ => ∃ (a : Addr) (ns : List Int), vs = [.ref a] ∧ SqL K H a (ns.map V.int) ∧ ns.length ≤ 63 ∧ ∀ H', Q (.bl true) H'

theorem q_number_of : @sp_number_of = @sp_number_of := by have := @sp_number_of.eq_1; rfl
theorem q_sign_of : @sp_sign_of = @sp_sign_of := by have := @sp_sign_of.eq_1; rfl
theorem q_figures_of : @sp_figures_of = @sp_figures_of := by have := @sp_figures_of.eq_1; rfl
theorem q_sign_told : @sp_sign_told = @sp_sign_told := by have := @sp_sign_told.eq_1; rfl
theorem q_need_text : @sp_need_text = @sp_need_text := by have := @sp_need_text.eq_1; rfl
theorem q_mark_of : @sp_mark_of = @sp_mark_of := by have := @sp_mark_of.eq_1; rfl
theorem q_marked : @sp_marked = @sp_marked := by have := @sp_marked.eq_1; rfl
theorem q_stroked : @sp_stroked = @sp_stroked := by have := @sp_stroked.eq_1; rfl
theorem q_code_of : @sp_code_of = @sp_code_of := by have := @sp_code_of.eq_1; rfl
theorem q_worded : @sp_worded = @sp_worded := by have := @sp_worded.eq_1; rfl
theorem q_put : @sp_put = @sp_put := by have := @sp_put.eq_1; rfl
theorem q_fed_between : @sp_fed_between = @sp_fed_between := by have := @sp_fed_between.eq_1; rfl
theorem q_fed_word : @sp_fed_word = @sp_fed_word := by have := @sp_fed_word.eq_1; rfl
theorem q_fed_said : @sp_fed_said = @sp_fed_said := by have := @sp_fed_said.eq_1; rfl
theorem q_feed : @sp_feed = @sp_feed := by have := @sp_feed.eq_1; rfl
theorem q_come_to : @sp_come_to = @sp_come_to := by have := @sp_come_to.eq_1; rfl
theorem q_told : @sp_told = @sp_told := by have := @sp_told.eq_1; rfl
theorem q_gathered : @sp_gathered = @sp_gathered := by have := @sp_gathered.eq_1; rfl
theorem q_box_shut : @sp_box_shut = @sp_box_shut := by have := @sp_box_shut.eq_1; rfl
theorem q_into_box : @sp_into_box = @sp_into_box := by have := @sp_into_box.eq_1; rfl
theorem q_led_on : @sp_led_on = @sp_led_on := by have := @sp_led_on.eq_1; rfl
theorem q_fed : @sp_fed = @sp_fed := by have := @sp_fed.eq_1; rfl
theorem q_mark_ended : @sp_mark_ended = @sp_mark_ended := by have := @sp_mark_ended.eq_1; rfl
theorem q_at_text : @sp_at_text = @sp_at_text := by have := @sp_at_text.eq_1; rfl
theorem q_at_mark : @sp_at_mark = @sp_at_mark := by have := @sp_at_mark.eq_1; rfl
theorem q_at_open : @sp_at_open = @sp_at_open := by have := @sp_at_open.eq_1; rfl
theorem q_at_name : @sp_at_name = @sp_at_name := by have := @sp_at_name.eq_1; rfl
theorem q_at_slash : @sp_at_slash = @sp_at_slash := by have := @sp_at_slash.eq_1; rfl
theorem q_at_shut : @sp_at_shut = @sp_at_shut := by have := @sp_at_shut.eq_1; rfl
theorem q_at_gap : @sp_at_gap = @sp_at_gap := by have := @sp_at_gap.eq_1; rfl
theorem q_at_attr : @sp_at_attr = @sp_at_attr := by have := @sp_at_attr.eq_1; rfl
theorem q_at_is : @sp_at_is = @sp_at_is := by have := @sp_at_is.eq_1; rfl
theorem q_at_bang : @sp_at_bang = @sp_at_bang := by have := @sp_at_bang.eq_1; rfl
theorem q_at_bare : @sp_at_bare = @sp_at_bare := by have := @sp_at_bare.eq_1; rfl
theorem q_at_code : @sp_at_code = @sp_at_code := by have := @sp_at_code.eq_1; rfl
theorem q_at_row : @sp_at_row = @sp_at_row := by have := @sp_at_row.eq_1; rfl
theorem q_at_stroke : @sp_at_stroke = @sp_at_stroke := by have := @sp_at_stroke.eq_1; rfl
theorem q_at_quoted : @sp_at_quoted = @sp_at_quoted := by have := @sp_at_quoted.eq_1; rfl
theorem q_at_qmark : @sp_at_qmark = @sp_at_qmark := by have := @sp_at_qmark.eq_1; rfl
theorem q_at_done : @sp_at_done = @sp_at_done := by have := @sp_at_done.eq_1; rfl
theorem q_at_talk : @sp_at_talk = @sp_at_talk := by have := @sp_at_talk.eq_1; rfl
theorem q_at_tmark : @sp_at_tmark = @sp_at_tmark := by have := @sp_at_tmark.eq_1; rfl
theorem q_at_asis : @sp_at_asis = @sp_at_asis := by have := @sp_at_asis.eq_1; rfl
theorem q_moved : @sp_moved = @sp_moved := by have := @sp_moved.eq_1; rfl
theorem q_begin : @sp_begin = @sp_begin := by have := @sp_begin.eq_1; rfl
theorem q_step : @sp_step = @sp_step := by have := @sp_step.eq_1; rfl
theorem q_run : @sp_run = @sp_run := by have := @sp_run.eq_1; rfl
theorem q_is_end : @sp_is_end = @sp_is_end := by have := @sp_is_end.eq_1; rfl
theorem q__law_cell : @sp__law_cell = @sp__law_cell := by have := @sp__law_cell.eq_1; rfl
theorem q__law_mix : @sp__law_mix = @sp__law_mix := by have := @sp__law_mix.eq_1; rfl
theorem q__law_signs : @sp__law_signs = @sp__law_signs := by have := @sp__law_signs.eq_1; rfl
theorem q__law_name : @sp__law_name = @sp__law_name := by have := @sp__law_name.eq_1; rfl
theorem q__law_value : @sp__law_value = @sp__law_value := by have := @sp__law_value.eq_1; rfl
theorem q__law_parts : @sp__law_parts = @sp__law_parts := by have := @sp__law_parts.eq_1; rfl
theorem q__law_pressed : @sp__law_pressed = @sp__law_pressed := by have := @sp__law_pressed.eq_1; rfl
theorem q__law_values : @sp__law_values = @sp__law_values := by have := @sp__law_values.eq_1; rfl
theorem q__law_ran : @sp__law_ran = @sp__law_ran := by have := @sp__law_ran.eq_1; rfl
theorem q__law_shape : @sp__law_shape = @sp__law_shape := by have := @sp__law_shape.eq_1; rfl
theorem q_law : @sp_law = @sp_law := by have := @sp_law.eq_1; rfl
end My

set_option Elab.async false
set_option linter.all false
set_option maxRecDepth 100000
set_option maxHeartbeats 4000000
set_option pp.deepTerms true
set_option pp.maxSteps 200000
namespace My
open PySem L2 PySem.Spec PyProof.Rows
local macro_rules | `(tactic| walk_at "rd") => `(tactic| simp only [L2.start, N_number_of, N_sign_of, N_figures_of, N_sign_told, N_need_text, N_mark_of, N_marked, N_stroked, N_code_of, N_worded, N_put, N_fed_between, N_fed_word, N_fed_said, N_feed, N_come_to, N_told, N_gathered, N_box_shut, N_into_box, N_led_on, N_fed, N_mark_ended, N_at_text, N_at_mark, N_at_open, N_at_name, N_at_slash, N_at_shut, N_at_gap, N_at_attr, N_at_is, N_at_bang, N_at_bare, N_at_code, N_at_row, N_at_stroke, N_at_quoted, N_at_qmark, N_at_done, N_at_talk, N_at_tmark, N_at_asis, N_moved, N_begin, N_step, N_run, N_is_end, N__law_cell, N__law_mix, N__law_signs, N__law_name, N__law_value, N__law_parts, N__law_pressed, N__law_values, N__law_ran, N__law_shape, N_law, sp_number_of, sp_sign_of, sp_figures_of, sp_sign_told, sp_need_text, sp_mark_of, sp_marked, sp_stroked, sp_code_of, sp_worded, sp_put, sp_fed_between, sp_fed_word, sp_fed_said, sp_feed, sp_come_to, sp_told, sp_gathered, sp_box_shut, sp_into_box, sp_led_on, sp_fed, sp_mark_ended, sp_at_text, sp_at_mark, sp_at_open, sp_at_name, sp_at_slash, sp_at_shut, sp_at_gap, sp_at_attr, sp_at_is, sp_at_bang, sp_at_bare, sp_at_code, sp_at_row, sp_at_stroke, sp_at_quoted, sp_at_qmark, sp_at_done, sp_at_talk, sp_at_tmark, sp_at_asis, sp_moved, sp_begin, sp_step, sp_run, sp_is_end, sp__law_cell, sp__law_mix, sp__law_signs, sp__law_name, sp__law_value, sp__law_parts, sp__law_pressed, sp__law_values, sp__law_ran, sp__law_shape, sp_law, tLC, iStr, iRng1, iRng2, iList, tFor_eq, tWhile_eq, tTrue, PySem.sizeLine_eq, atI_0, atI_1, Int.natCast_inj, atI_z, tSeq, tIfS, tRet, tRetN, tAsg, gName, tDrop, tNext, tNever, tOp, tUn, tVar, tC, tTest, tB, tAnd, tOr, tNot, tAndV, tOrV, tNotV, tIf, tCons, tNil, tCB, tCall, tLst, tCallX, tRaise, tTry, tAtX, rIsX, rIsXT, rIsInt, rIsBool, rIsStr, tTup, tBM, tBM0, tSl, tPart, tNoPart, tAug, ipI, rI, rI0, rU, rEq, rNe, scal, rIndex, rZfill, rJoin, rAppend, rIxL, rIxT, rIxSS, rLenL, rSlL, rMulS,iEnumS, cxKh, iEnumL, tLC2_eq, Nat.reduceEqDiff, tCallV, tKGet, tTruK, rIsA, rTupL, rCatU, rSlU, rStarts, rEqD, rNeD, iZip, rIntB, rClear, rExtend, tDGet, tDisp, tPairs, iRng3, rMulL, rIsB, rIsNotB, rEqTS, rAllB, rRepr, tChain, rMulT, iRevT, iRevL, tRepl, tDUpd, iTup, rIn, rListS, rIsStrA, tD0, rEqS, rNeS, rInsert, rCat, gTup, gCons, gNil, tyV_str, cxK, cxK0, blkK, nc0, nc1, nc2, nc3, nc94, sg_len, List.map_cons, List.map_nil, List.length_cons, List.length_nil, List.replicate, List.cons_append, List.nil_append, List.append_nil, List.getElem?_cons_zero, List.getElem?_cons_succ, List.set_cons_zero, List.set_cons_succ, Option.some.injEq, List.cons.injEq, V.int.injEq, V.str.injEq, V.bl.injEq, V.ref.injEq, V.ty.injEq, S_inj, V_inj, and_true, true_and, eq_self, and_assoc, exists_eq_left, exists_eq_left', exists_eq_right, exists_eq, exists_eq', exists_and_left, exists_and_right, exists_const, reduceCtorEq, false_and, and_false, or_false, false_or, exists_false, Nat.reduceAdd, Nat.reduceSub, Int.reduceLT, Int.reduceLE, Nat.reduceLeDiff, Nat.reduceLT, Int.reduceEq, Nat.sub_self, decide_eq_true_eq, decide_true, decide_false, ite_t, ite_f, if_true, if_false, Bool.not_true, Bool.not_false, Bool.false_eq_true, ↓reduceIte])
section
variable {P : Program} {w : World} {K : PySem.W.Frag} {mg : Str → Option Value} {base : Heap} {t : Ads}
theorem ok_sign_of (T : Txt w K mg t) (D : Df K mg "sign_of" s_sign_of ps_sign_of) : OkF P w K mg base 1 "sign_of" ps_sign_of sp_sign_of := by
  refine D.ok sc_sign_of (fun vs H Q E h => ?_) (fun f cdv A outer s H vs Q E hr h => ?_)
  · obtain ⟨_, rfl, _⟩ := h; rfl
  · obtain ⟨n, rfl, hn, k⟩ := h
    refine ⟨_, ((qss_one (qs_ret (qe_ix ix_S (qe_gl T.g_SIGNS) (qv 0) (fun _ _ => (by rfl)))))).h, ?_⟩
    walk_at "rd"
    have hn' : n < sg.length := by rw [sg_len]; exact hn
    have e : sg[n]? = some sg[n] := List.getElem?_eq_getElem hn'
    exact ⟨_, e, k _ H e (Same.refl H)⟩
theorem ok_sign_told (T : Txt w K mg t) (D : Df K mg "sign_told" s_sign_told ps_sign_told) (F_sign_of : OkF P w K mg base 1 "sign_of" ps_sign_of sp_sign_of) : OkF P w K mg base 2 "sign_told" ps_sign_told sp_sign_told := by
  refine D.ok sc_sign_told (fun vs H Q E h => ?_) (fun f cdv A outer s H vs Q E hr h => ?_)
  · obtain ⟨_, rfl, _⟩ := h; rfl
  · obtain ⟨l, rfl, hl, k⟩ := h
    refine ⟨_, ((qss_cons (qs_if (QW.qt (qw_or (qt_cmpR op_ne (qe_callB call_lenS (by rfl) T.z_len bb_len (qa_cons (qv 0) qa_nil)) qe_int (nomark _)) (qw_or (qt_cmpR op_notinS (qe_ix ix_S (qv 0) qe_int (fun _ _ => (by rfl))) (qe_gl T.g_FIGURES) (by rfl)) (qw_or1 (qt_cmpR op_notinS (qe_ix ix_S (qv 0) qe_int (fun _ _ => (by rfl))) (qe_gl T.g_FIGURES) (by rfl)))))) (qss_one (qs_ret qe_non)) qss_nil)
      (qss_cons (qs_set (i := 1) sc_sign_told.nd (by rfl) (Or.inl (by rfl)) (qe_callTy call_intS (by rfl) T.z_int bb_int (qa_cons (qv 0) qa_nil)))
      (qss_one (qs_ret (qe_ifExp (qt_cmpR op_lt (qv 1) (qe_callB call_lenS (by rfl) T.z_len bb_len (qa_cons (qe_gl T.g_SIGNS) qa_nil)) (nomark _)) (qe_callF F_sign_of hr (by decide) (qa_cons (qv 1) qa_nil)) qe_non)))))).h, ?_⟩
    walk_at "rd"
    refine ⟨by omega, ?_⟩
    by_cases hl2 : l.length = 2
    · obtain ⟨c, d, rfl⟩ : ∃ c d, l = [c, d] := by
        match l, hl2 with
        | [c, d], _ => exact ⟨c, d, rfl⟩
      walk_at "rd"
      by_cases h1 : c ∈ fg
      · rw [if_neg (by simp [h1])]
        by_cases h2 : d ∈ fg
        · rw [if_neg (by simp [h2])]
          have f1 := (fg_iff c).mp h1
          have f2 := (fg_iff d).mp h2
          refine ⟨f1, f2, ?_⟩
          have et : L2.told [c, d] = sg[(c - 48) * 10 + (d - 48)]? := by
            show (if isFig c = true ∧ isFig d = true then _ else _) = _
            rw [if_pos ⟨f1, f2⟩]
          by_cases h3 : (c - 48) * 10 + (d - 48) < 94
          · rw [if_pos (by omega)]
            refine ⟨h3, fun x H' e g => ?_⟩
            rw [et, e] at k
            exact k H' g
          · rw [if_neg (by omega)]
            rw [et, List.getElem?_eq_none_iff.mpr (by rw [sg_len]; omega)] at k
            exact k H (Same.refl H)
        · rw [if_pos (by simp [h2])]
          have e : L2.told [c, d] = none := by
            show (if isFig c = true ∧ isFig d = true then _ else _) = _
            rw [if_neg (by rintro ⟨_, z⟩; exact h2 ((fg_iff d).mpr z))]
          rw [e] at k
          exact k H (Same.refl H)
      · rw [if_pos (by simp [h1])]
        have e : L2.told [c, d] = none := by
          show (if isFig c = true ∧ isFig d = true then _ else _) = _
          rw [if_neg (by rintro ⟨z, _⟩; exact h1 ((fg_iff c).mpr z))]
        rw [e] at k
        exact k H (Same.refl H)
    · rw [told_ne hl2] at k
      rw [if_pos (by simp; omega)]
      exact k H (Same.refl H)
theorem ok_fed_between (T : Txt w K mg t) (D : Df K mg "fed_between" s_fed_between ps_fed_between) : OkF P w K mg base 1 "fed_between" ps_fed_between sp_fed_between := by
  refine D.ok sc_fed_between (fun vs H Q E h => ?_) (fun f cdv A outer s H vs Q E hr h => ?_)
  · obtain ⟨_, rfl, _⟩ := h; rfl
  · obtain ⟨c, rfl, k⟩ := h
    refine ⟨_, ((qss_cons (qs_if (qt_cmpR op_eq (qv 0) (qe_S (l := [32]) (by decide +kernel)) (nomark _)) (qss_one (qs_ret (qe_tup (qa_cons (qe_S (l := [98, 101, 116, 119, 101, 101, 110]) (by decide +kernel)) (qa_cons (qe_lst qa_nil) qa_nil))))) qss_nil)
      (qss_cons (qs_if (qt_cmpR op_eq (qv 0) (qe_S (l := [39]) (by decide +kernel)) (nomark _)) (qss_one (qs_ret (qe_tup (qa_cons (qe_S (l := [115, 97, 105, 100]) (by decide +kernel)) (qa_cons (qe_lst (qa_cons (qe_tup (qa_cons (qe_S (l := [115, 97, 105, 100]) (by decide +kernel)) qa_nil)) qa_nil)) qa_nil))))) qss_nil)
      (qss_cons (qs_if (qt_cmpR op_inS (qv 0) (qe_gl T.g_WORDSIGNS) (by rfl)) (qss_one (qs_ret (qe_tup (qa_cons (qe_S (l := [119, 111, 114, 100]) (by decide +kernel)) (qa_cons (qe_lst (qa_cons (qe_tup (qa_cons (qe_S (l := [119, 111, 114, 100]) (by decide +kernel)) qa_nil)) (qa_cons (qe_tup (qa_cons (qe_S (l := [115, 105, 103, 110]) (by decide +kernel)) (qa_cons (qv 0) qa_nil))) qa_nil))) qa_nil))))) qss_nil)
      (qss_one (qs_ret qe_non)))))).h, ?_⟩
    walk_at "rd"
    unfold fedB at k
    by_cases h1 : c = 32
    · rw [if_pos h1] at k ⊢
      intro p hp p1 hp1
      have a := tk_of (G := fun a => H a = none) (t := tBetween) hp1 (evl0 (H := H) (q := p)) hp
      exact k _ _ ((same_upd hp).trans a.1) a.2
    rw [if_neg h1] at k ⊢
    by_cases h2 : c = 39
    · rw [if_pos h2] at k ⊢
      intro p hp p1 hp1 p2 hp2
      have a := tk_of (G := fun a => H a = none) (t := tSaid) hp2 (evl1 (e := [eSaid]) hp1) (none_of_upd hp1)
      exact k _ _ ((same_upd hp).trans ((same_upd hp1).trans a.1)) a.2
    rw [if_neg h2] at k ⊢
    by_cases h3 : c ∈ ws
    · rw [if_pos h3] at k ⊢
      intro p hp p1 hp1 p2 hp2 p3 hp3
      have he : EvL (upd (upd (upd H p (.tup [.str (S eWord)])) p1 (.tup [.str (S eSign), .str (S [c])])) p2 (.lst [.ref p, .ref p1])) p2 [[eWord], [eSign, [c]]] :=
        ⟨_, upd_same, .cons ⟨p, rfl, same_upd hp2 _ _ (same_upd hp1 _ _ upd_same)⟩ (.cons ⟨p1, rfl, same_upd hp2 _ _ upd_same⟩ .nil)⟩
      have a := tk_of (G := fun a => H a = none) (t := tWord) hp3 he (none_of_upd (none_of_upd hp2))
      exact k _ _ ((same_upd hp).trans ((same_upd hp1).trans ((same_upd hp2).trans a.1))) a.2
    · rw [if_neg h3] at k ⊢
      exact k _ _ (Same.refl H) rfl
theorem ok_fed_word (T : Txt w K mg t) (D : Df K mg "fed_word" s_fed_word ps_fed_word) (F_fed_between : OkF P w K mg base 1 "fed_between" ps_fed_between sp_fed_between) : OkF P w K mg base 2 "fed_word" ps_fed_word sp_fed_word := by
  refine D.ok sc_fed_word (fun vs H Q E h => ?_) (fun f cdv A outer s H vs Q E hr h => ?_)
  · obtain ⟨_, rfl, _⟩ := h; rfl
  · obtain ⟨c, rfl, k⟩ := h
    refine ⟨_, ((qss_cons (qs_if (qt_cmpR op_inS (qv 0) (qe_gl T.g_WORDSIGNS) (by rfl)) (qss_one (qs_ret (qe_tup (qa_cons (qe_S (l := [119, 111, 114, 100]) (by decide +kernel)) (qa_cons (qe_lst (qa_cons (qe_tup (qa_cons (qe_S (l := [115, 105, 103, 110]) (by decide +kernel)) (qa_cons (qv 0) qa_nil))) qa_nil)) qa_nil))))) qss_nil)
      (qss_one (qs_ret (qe_callF F_fed_between hr (by decide) (qa_cons (qv 0) qa_nil)))))).h, ?_⟩
    walk_at "rd"
    unfold fedW at k
    by_cases h3 : c ∈ ws
    · rw [if_pos h3] at k ⊢
      intro p hp p1 hp1 p2 hp2
      have a := tk_of (G := fun a => H a = none) (t := tWord) hp2 (evl1 (e := [eSign, [c]]) hp1) (none_of_upd hp1)
      exact k _ _ ((same_upd hp).trans ((same_upd hp1).trans a.1)) a.2
    · rw [if_neg h3] at k ⊢
      exact k
theorem ok_fed_said (T : Txt w K mg t) (D : Df K mg "fed_said" s_fed_said ps_fed_said) : OkF P w K mg base 1 "fed_said" ps_fed_said sp_fed_said := by
  refine D.ok sc_fed_said (fun vs H Q E h => ?_) (fun f cdv A outer s H vs Q E hr h => ?_)
  · obtain ⟨_, rfl, _⟩ := h; rfl
  · obtain ⟨c, rfl, k⟩ := h
    refine ⟨_, ((qss_cons (qs_if (qt_cmpR op_eq (qv 0) (qe_S (l := [39]) (by decide +kernel)) (nomark _)) (qss_one (qs_ret (qe_tup (qa_cons (qe_S (l := [98, 101, 116, 119, 101, 101, 110]) (by decide +kernel)) (qa_cons (qe_lst qa_nil) qa_nil))))) qss_nil)
      (qss_cons (qs_if (qt_cmpR op_eq (qv 0) (qe_S (l := [92]) (by decide +kernel)) (nomark _)) (qss_one (qs_ret (qe_tup (qa_cons (qe_S (l := [115, 116, 114, 111, 107, 101]) (by decide +kernel)) (qa_cons (qe_lst qa_nil) qa_nil))))) qss_nil)
      (qss_one (qs_ret (qe_tup (qa_cons (qe_S (l := [115, 97, 105, 100]) (by decide +kernel)) (qa_cons (qe_lst (qa_cons (qe_tup (qa_cons (qe_S (l := [115, 105, 103, 110]) (by decide +kernel)) (qa_cons (qv 0) qa_nil))) qa_nil)) qa_nil)))))))).h, ?_⟩
    walk_at "rd"
    unfold fedS at k
    by_cases h1 : c = 39
    · rw [if_pos h1] at k ⊢
      intro p hp p1 hp1
      have a := tk_of (G := fun a => H a = none) (t := tBetween) hp1 (evl0 (H := H) (q := p)) hp
      exact k _ _ ((same_upd hp).trans a.1) a.2
    rw [if_neg h1] at k ⊢
    by_cases h2 : c = 92
    · rw [if_pos h2] at k ⊢
      intro p hp p1 hp1
      have a := tk_of (G := fun a => H a = none) (t := tStroke) hp1 (evl0 (H := H) (q := p)) hp
      exact k _ _ ((same_upd hp).trans a.1) a.2
    rw [if_neg h2] at k ⊢
    intro p hp p1 hp1 p2 hp2
    have a := tk_of (G := fun a => H a = none) (t := tSaid) hp2 (evl1 (e := [eSign, [c]]) hp1) (none_of_upd hp1)
    exact k _ _ ((same_upd hp).trans ((same_upd hp1).trans a.1)) a.2
theorem ok_feed (T : Txt w K mg t) (D : Df K mg "feed" s_feed ps_feed) (F_fed_between : OkF P w K mg base 1 "fed_between" ps_fed_between sp_fed_between) (F_fed_word : OkF P w K mg base 2 "fed_word" ps_fed_word sp_fed_word) (F_fed_said : OkF P w K mg base 1 "fed_said" ps_fed_said sp_fed_said) : OkF P w K mg base 3 "feed" ps_feed sp_feed := by
  refine D.ok sc_feed (fun vs H Q E h => ?_) (fun f cdv A outer s H vs Q E hr h => ?_)
  · obtain ⟨_, _, rfl, _⟩ := h; rfl
  · obtain ⟨tk, c, rfl, k⟩ := h
    refine ⟨_, ((qss_cons (qs_if (qt_cmpR op_eq (qv 0) (qe_S (l := [98, 101, 116, 119, 101, 101, 110]) (by decide +kernel)) (nomark _)) (qss_one (qs_ret (qe_callF F_fed_between hr (by decide) (qa_cons (qv 1) qa_nil)))) qss_nil)
      (qss_cons (qs_if (qt_cmpR op_eq (qv 0) (qe_S (l := [119, 111, 114, 100]) (by decide +kernel)) (nomark _)) (qss_one (qs_ret (qe_callF F_fed_word hr (by decide) (qa_cons (qv 1) qa_nil)))) qss_nil)
      (qss_cons (qs_if (qt_cmpR op_eq (qv 0) (qe_S (l := [115, 97, 105, 100]) (by decide +kernel)) (nomark _)) (qss_one (qs_ret (qe_callF F_fed_said hr (by decide) (qa_cons (qv 1) qa_nil)))) qss_nil)
      (qss_cons (qs_if (qt_cmpR op_eq (qv 0) (qe_S (l := [115, 116, 114, 111, 107, 101]) (by decide +kernel)) (nomark _)) (qss_one (qs_ret (qe_tup (qa_cons (qe_S (l := [115, 97, 105, 100]) (by decide +kernel)) (qa_cons (qe_lst (qa_cons (qe_tup (qa_cons (qe_S (l := [115, 105, 103, 110]) (by decide +kernel)) (qa_cons (qv 1) qa_nil))) qa_nil)) qa_nil))))) qss_nil)
      (qss_one (qs_ret qe_non))))))).h, ?_⟩
    walk_at "rd"
    unfold feedM at k
    by_cases h1 : tk = tBetween
    · rw [if_pos h1] at k ⊢
      exact k
    rw [if_neg h1] at k ⊢
    by_cases h2 : tk = tWord
    · rw [if_pos h2] at k ⊢
      exact k
    rw [if_neg h2] at k ⊢
    by_cases h3 : tk = tSaid
    · rw [if_pos h3] at k ⊢
      exact k
    rw [if_neg h3] at k ⊢
    by_cases h4 : tk = tStroke
    · rw [if_pos h4] at k ⊢
      intro p hp p1 hp1 p2 hp2
      have a := tk_of (G := fun a => H a = none) (t := tSaid) hp2 (evl1 (e := [eSign, [c]]) hp1) (none_of_upd hp1)
      exact k _ _ ((same_upd hp).trans ((same_upd hp1).trans a.1)) a.2
    rw [if_neg h4] at k ⊢
    exact k _ _ (Same.refl H) rfl

end

section
variable {P : Program} {w : World} {K : PySem.W.Frag} {mg : Str → Option Value} {base : Heap} {t : Ads}
theorem ok_come_to (T : Txt w K mg t) (D : Df K mg "come_to" s_come_to ps_come_to) : OkF P w K mg base 1 "come_to" ps_come_to sp_come_to := by
  refine D.ok sc_come_to (fun vs H Q E h => ?_) (fun f cdv A outer s H vs Q E hr h => ?_)
  · obtain ⟨_, _, _, _, _, rfl, _⟩ := h; rfl
  · obtain ⟨m, oa, op, ea, es, rfl, ho, he, k⟩ := h
    refine ⟨_, ((qss_one (qs_ret (qe_tup (qa_cons (qe_tup (qa_cons (qv 0) (qa_cons (qe_S (l := []) (by decide +kernel)) (qa_cons (qv 1) (qa_cons (qe_S (l := []) (by decide +kernel)) qa_nil))))) (qa_cons (qv 2) qa_nil)))))).h, ?_⟩
    walk_at "rd"
    intro p hp p1 hp1
    have a := an_of (G := fun a => a = ea) (m := m) (w := []) (t := []) hp hp1 ho he rfl
    exact k _ _ a.1 a.2
theorem ok_told (T : Txt w K mg t) (D : Df K mg "told" s_told ps_told) (F_come_to : OkF P w K mg base 1 "come_to" ps_come_to sp_come_to) : OkF P w K mg base 2 "told" ps_told sp_told := by
  refine D.ok sc_told (fun vs H Q E h => ?_) (fun f cdv A outer s H vs Q E hr h => ?_)
  · obtain ⟨_, _, _, _, rfl, _⟩ := h; rfl
  · obtain ⟨m, oa, op, o, rfl, ho, k⟩ := h
    refine ⟨_, ((qss_cons (qs_if (qt_cmpR op_isN (qv 2) qe_non (nomark _)) (qss_one (qs_ret qe_non)) qss_nil)
      (qss_one (qs_ret (qe_callF F_come_to hr (by decide) (qa_cons (qv 0) (qa_cons (qv 1) (qa_cons (qe_lst (qa_cons (qe_tup (qa_cons (qe_S (l := [115, 105, 103, 110]) (by decide +kernel)) (qa_cons (qv 2) qa_nil))) qa_nil)) qa_nil)))))))).h, ?_⟩
    walk_at "rd"
    cases o with
    | none =>
      rw [if_pos (show oV none = V.non from rfl)]
      exact k _ _ (Same.refl H) rfl
    | some c =>
      rw [if_neg (by intro z; cases z)]
      intro p hp p1 hp1
      exact ⟨op, ho.mono ((same_upd hp).trans (same_upd hp1)), [[eSign, [c]]], evl1 (e := [eSign, [c]]) hp1, fun v H' g a => k v H' (((same_upd hp).trans (same_upd hp1)).trans g) (a.imp fun x e => by subst e; exact none_of_upd hp1)⟩
theorem ok_gathered (T : Txt w K mg t) (D : Df K mg "gathered" s_gathered ps_gathered) : OkF P w K mg base 1 "gathered" ps_gathered sp_gathered := by
  refine D.ok sc_gathered (fun vs H Q E h => ?_) (fun f cdv A outer s H vs Q E hr h => ?_)
  · obtain ⟨_, _, _, _, _, _, rfl, _⟩ := h; rfl
  · obtain ⟨m, wd, oa, op, tk, n, rfl, ho, hl, k⟩ := h
    refine ⟨_, ((qss_cons (qs_if (qt_cmpR op_gt (qe_callB call_lenS (by rfl) T.z_len bb_len (qa_cons (qv 1) qa_nil)) (qv 4) (nomark _)) (qss_one (qs_ret qe_non)) qss_nil)
      (qss_one (qs_ret (qe_tup (qa_cons (qe_tup (qa_cons (qv 0) (qa_cons (qv 1) (qa_cons (qv 2) (qa_cons (qv 3) qa_nil))))) (qa_cons (qe_lst qa_nil) qa_nil))))))).h, ?_⟩
    walk_at "rd"
    refine ⟨by omega, ?_⟩
    unfold gath at k
    by_cases h : n < wd.length
    · rw [if_pos h] at k
      rw [if_pos (by omega)]
      exact k _ _ (Same.refl H) rfl
    · rw [if_neg h] at k
      rw [if_neg (by omega)]
      intro p hp p1 hp1 p2 hp2
      have g := (same_upd (o := .tup [.str (S m), .str (S wd), .ref oa, .str (S tk)]) hp).trans (same_upd (o := .lst []) hp1)
      exact k _ _ (g.trans (same_upd hp2)) (an_up (same_upd hp1 _ _ upd_same) (ho.mono g) evl0 (none_of_upd hp1) hp2)
theorem ok_box_shut (T : Txt w K mg t) (D : Df K mg "box_shut" s_box_shut ps_box_shut) (F_come_to : OkF P w K mg base 1 "come_to" ps_come_to sp_come_to) : OkF P w K mg base 2 "box_shut" ps_box_shut sp_box_shut := by
  refine D.ok sc_box_shut (fun vs H Q E h => ?_) (fun f cdv A outer s H vs Q E hr h => ?_)
  · obtain ⟨_, _, _, _, rfl, _⟩ := h; rfl
  · obtain ⟨oa, op, ea, es, rfl, ho, he, hl, k⟩ := h
    refine ⟨_, ((qss_cons (qs_if (qt_not (qt_truthK (K := K) (by rfl) (qv 0))) (qss_one (qs_ret qe_non)) qss_nil)
      (qss_one (qs_ret (qe_callF F_come_to hr (by decide) (qa_cons (qe_S (l := [116, 101, 120, 116]) (by decide +kernel)) (qa_cons (qe_slice sl_tupU (qv 0) qo_none (qo_some (qe_un un_neg qe_int))) (qa_cons (qe_op op_cat (qv 1) (qe_lst (qa_cons (qe_tup (qa_cons (qe_S (l := [111, 117, 116]) (by decide +kernel)) qa_nil)) qa_nil))) qa_nil)))))))).h, ?_⟩
    walk_at "rd"
    refine ⟨_, tru_tup ho, ?_⟩
    unfold boxShut at k
    by_cases h : op = []
    · subst h
      rw [if_pos rfl] at k
      rw [if_pos (show (!!(List.map tx ([] : List Tx)).isEmpty) = true from rfl)]
      exact k _ _ (Same.refl H) rfl
    · rw [if_neg h] at k
      rw [if_neg (by cases op with | nil => exact absurd rfl h | cons => simp)]
      obtain ⟨vs, e1, e2⟩ := he
      refine ⟨_, ho, fun p H1 g1 hp p1 hp1 p2 hp2 => ?_⟩
      have g2 := (same_upd (o := .tup [.str (S eOut)]) hp1).trans (same_upd (o := .lst [.ref p1]) hp2)
      refine ⟨vs, g2 _ _ (g1 _ _ e1), _, upd_same, by rw [e2.len]; simp; omega, fun p3 hp3 => ?_⟩
      have g3 := g2.trans (same_upd (o := .lst (vs ++ [.ref p1])) hp3)
      refine ⟨op.dropLast, ?_, es ++ [[eOut]], ⟨_, upd_same, (e2.mono (g1.trans g3)).app (.cons ⟨p1, rfl, same_upd hp3 _ _ (same_upd hp2 _ _ upd_same)⟩ .nil)⟩, fun v H' g a => k v H' (g1.trans (g3.trans g)) (a.imp fun x e => ?_)⟩
      · rw [cut_init, map_dropLast] at hp
        exact g3 _ _ hp
      · subst e
        exact none_of_same g1 (none_of_upd (none_of_upd hp3))
theorem ok_into_box (T : Txt w K mg t) (D : Df K mg "into_box" s_into_box ps_into_box) (F_come_to : OkF P w K mg base 1 "come_to" ps_come_to sp_come_to) : OkF P w K mg base 2 "into_box" ps_into_box sp_into_box := by
  refine D.ok sc_into_box (fun vs H Q E h => ?_) (fun f cdv A outer s H vs Q E hr h => ?_)
  · obtain ⟨_, _, _, _, rfl, _⟩ := h; rfl
  · obtain ⟨oa, op, ea, es, rfl, ho, he, hl, k⟩ := h
    refine ⟨_, ((qss_cons (qs_if (qt_not (qt_truthK (K := K) (by rfl) (qv 0))) (qss_one (qs_ret qe_non)) qss_nil)
      (qss_cons (qs_set (i := 2) sc_into_box.nd (by rfl) (Or.inl (by rfl)) (qe_ifExp (qt_cmpR op_eq (qe_ix (ix_tupK (K := K) (by rfl)) (qv 0) (qe_un un_neg qe_int) (fun _ _ => (by rfl))) (qe_S (l := [97, 115, 105, 115]) (by decide +kernel)) (nomark _)) (qe_S (l := [97, 115, 105, 115]) (by decide +kernel)) (qe_S (l := [116, 101, 120, 116]) (by decide +kernel))))
      (qss_one (qs_ret (qe_callF F_come_to hr (by decide) (qa_cons (qv 2) (qa_cons (qv 0) (qa_cons (qe_op op_cat (qv 1) (qe_lst (qa_cons (qe_tup (qa_cons (qe_S (l := [105, 110]) (by decide +kernel)) qa_nil)) qa_nil))) qa_nil))))))))).h, ?_⟩
    walk_at "rd"
    refine ⟨_, tru_tup ho, ?_⟩
    unfold intoBox at k
    by_cases h : op = []
    · subst h
      rw [if_pos rfl] at k
      rw [if_pos (show (!!(List.map tx ([] : List Tx)).isEmpty) = true from rfl)]
      exact k _ _ (Same.refl H) rfl
    · rw [if_neg h] at k
      rw [if_neg (by cases op with | nil => exact absurd rfl h | cons => simp)]
      obtain ⟨vs, e1, e2⟩ := he
      obtain ⟨l, hla⟩ : ∃ l, op.getLast? = some l := by
        cases op with
        | nil => exact absurd rfl h
        | cons a r => exact ⟨_, List.getLast?_eq_some_getLast (by simp)⟩
      refine ⟨_, SqT.of ho, V.str (S l), by rw [atI_last1, List.getLast?_map, hla]; rfl, rfl, ?_⟩
      rw [hla] at k
      by_cases h2 : l = mAsis
      · subst h2
        rw [if_pos rfl] at k ⊢
        intro p1 hp1 p2 hp2
        have g2 := (same_upd (o := .tup [.str (S eIn)]) hp1).trans (same_upd (o := .lst [.ref p1]) hp2)
        refine ⟨vs, g2 _ _ e1, _, upd_same, by rw [e2.len]; simp; omega, fun p3 hp3 => ?_⟩
        have g3 := g2.trans (same_upd (o := .lst (vs ++ [.ref p1])) hp3)
        exact ⟨op, ho.mono g3, es ++ [[eIn]], ⟨_, upd_same, (e2.mono g3).app (.cons ⟨p1, rfl, same_upd hp3 _ _ (same_upd hp2 _ _ upd_same)⟩ .nil)⟩, fun v H' g a => k v H' (g3.trans g) (a.imp fun x e => by subst e; exact none_of_upd (none_of_upd hp3))⟩
      · rw [if_neg (by intro z; exact h2 (Option.some.inj z))] at k
        rw [if_neg (by rw [V.str.injEq, S_inj]; exact h2)]
        intro p1 hp1 p2 hp2
        have g2 := (same_upd (o := .tup [.str (S eIn)]) hp1).trans (same_upd (o := .lst [.ref p1]) hp2)
        refine ⟨vs, g2 _ _ e1, _, upd_same, by rw [e2.len]; simp; omega, fun p3 hp3 => ?_⟩
        have g3 := g2.trans (same_upd (o := .lst (vs ++ [.ref p1])) hp3)
        exact ⟨op, ho.mono g3, es ++ [[eIn]], ⟨_, upd_same, (e2.mono g3).app (.cons ⟨p1, rfl, same_upd hp3 _ _ (same_upd hp2 _ _ upd_same)⟩ .nil)⟩, fun v H' g a => k v H' (g3.trans g) (a.imp fun x e => by subst e; exact none_of_upd (none_of_upd hp3))⟩
theorem ok_led_on (T : Txt w K mg t) (D : Df K mg "led_on" s_led_on ps_led_on) (F_come_to : OkF P w K mg base 1 "come_to" ps_come_to sp_come_to) (F_into_box : OkF P w K mg base 2 "into_box" ps_into_box sp_into_box) : OkF P w K mg base 3 "led_on" ps_led_on sp_led_on := by
  refine D.ok sc_led_on (fun vs H Q E h => ?_) (fun f cdv A outer s H vs Q E hr h => ?_)
  · obtain ⟨_, _, _, _, _, rfl, _⟩ := h; rfl
  · obtain ⟨oa, op, c, ea, es, rfl, ho, he, hl, k⟩ := h
    refine ⟨_, ((qss_cons (qs_if (qt_cmpR op_eq (qv 1) (qe_S (l := [32]) (by decide +kernel)) (nomark _)) (qss_one (qs_ret (qe_callF F_come_to hr (by decide) (qa_cons (qe_S (l := [103, 97, 112]) (by decide +kernel)) (qa_cons (qv 0) (qa_cons (qv 2) qa_nil)))))) qss_nil)
      (qss_cons (qs_if (qt_cmpR op_eq (qv 1) (qe_S (l := [47]) (by decide +kernel)) (nomark _)) (qss_one (qs_ret (qe_callF F_come_to hr (by decide) (qa_cons (qe_S (l := [115, 108, 97, 115, 104]) (by decide +kernel)) (qa_cons (qv 0) (qa_cons (qv 2) qa_nil)))))) qss_nil)
      (qss_cons (qs_if (qt_cmpR op_eq (qv 1) (qe_S (l := [62]) (by decide +kernel)) (nomark _)) (qss_one (qs_ret (qe_callF F_into_box hr (by decide) (qa_cons (qv 0) (qa_cons (qv 2) qa_nil))))) qss_nil)
      (qss_one (qs_ret qe_non)))))).h, ?_⟩
    walk_at "rd"
    unfold ledOn at k
    by_cases h1 : c = 32
    · rw [if_pos h1] at k ⊢
      exact ⟨op, ho, es, he, fun v H' g a => k v H' g (a.imp fun x e => .inr e)⟩
    rw [if_neg h1] at k ⊢
    by_cases h2 : c = 47
    · rw [if_pos h2] at k ⊢
      exact ⟨op, ho, es, he, fun v H' g a => k v H' g (a.imp fun x e => .inr e)⟩
    rw [if_neg h2] at k ⊢
    by_cases h3 : c = 62
    · rw [if_pos h3] at k ⊢
      exact ⟨op, ho, es, he, hl, fun v H' g a => k v H' g (a.imp fun x e => .inl e)⟩
    rw [if_neg h3] at k ⊢
    exact k _ _ (Same.refl H) rfl
theorem ok_fed (T : Txt w K mg t) (D : Df K mg "fed" s_fed ps_fed) (F_feed : OkF P w K mg base 3 "feed" ps_feed sp_feed) : OkF P w K mg base 4 "fed" ps_fed sp_fed := by
  refine D.ok sc_fed (fun vs H Q E h => ?_) (fun f cdv A outer s H vs Q E hr h => ?_)
  · obtain ⟨_, _, _, _, rfl, _⟩ := h; rfl
  · obtain ⟨oa, op, tk, o, rfl, ho, k⟩ := h
    refine ⟨_, ((qss_cons (qs_set (i := 3) sc_fed.nd (by rfl) (Or.inl (by rfl)) (qe_ifExp (qt_cmpR op_isN (qv 2) qe_non (nomark _)) qe_non (qe_callF F_feed hr (by decide) (qa_cons (qv 1) (qa_cons (qv 2) qa_nil)))))
      (qss_cons (qs_if (qt_cmpR op_isN (qv 3) qe_non (nomark _)) (qss_one (qs_ret qe_non)) qss_nil)
      (qss_one (qs_ret (qe_tup (qa_cons (qe_tup (qa_cons (qe_S (l := [116, 97, 108, 107]) (by decide +kernel)) (qa_cons (qe_S (l := []) (by decide +kernel)) (qa_cons (qv 0) (qa_cons (qe_ix (ix_tupK (K := K) (by rfl)) (qv 3) qe_int (fun _ _ => (by rfl))) qa_nil))))) (qa_cons (qe_ix (ix_tupK (K := K) (by rfl)) (qv 3) qe_int (fun _ _ => (by rfl))) qa_nil)))))))).h, ?_⟩
    walk_at "rd"
    cases o with
    | none =>
      rw [if_pos (show oV none = V.non from rfl)]
      exact k _ _ (Same.refl H) rfl
    | some c =>
      rw [if_neg (by intro z; cases z)]
      refine ⟨c, rfl, fun v H1 g1 a => ?_⟩
      unfold fedM at k
      cases hf : feedM tk c with
      | none =>
        rw [hf] at a
        simp only [hf] at k
        have a : v = .non := a
        subst a
        rw [if_pos rfl]
        exact k _ _ g1 rfl
      | some r =>
        obtain ⟨tk', es⟩ := r
        rw [hf] at a
        simp only [hf] at k
        obtain ⟨p, ea, rfl, hp, he, hg⟩ := a
        rw [if_neg (by intro z; cases z)]
        exact ⟨p, rfl, _, SqT.of hp, _, rfl, fun p1 hp1 => ⟨p, rfl, _, SqT.of (same_upd hp1 _ _ hp), _, rfl, fun p2 hp2 => k _ _ (g1.trans ((same_upd hp1).trans (same_upd hp2))) (an_up upd_same ((ho.mono g1).mono (same_upd hp1)) (he.mono (same_upd hp1)) hg hp2)⟩⟩
theorem ok_mark_ended (T : Txt w K mg t) (D : Df K mg "mark_ended" s_mark_ended ps_mark_ended) (F_sign_told : OkF P w K mg base 2 "sign_told" ps_sign_told sp_sign_told) : OkF P w K mg base 3 "mark_ended" ps_mark_ended sp_mark_ended := by
  refine D.ok sc_mark_ended (fun vs H Q E h => ?_) (fun f cdv A outer s H vs Q E hr h => ?_)
  · obtain ⟨_, _, rfl, _⟩ := h; rfl
  · obtain ⟨wd, c, rfl, hl, k⟩ := h
    refine ⟨_, ((qss_one (qs_ret (qe_ifExp (qt_cmpR op_eq (qv 1) (qe_S (l := [59]) (by decide +kernel)) (nomark _)) (qe_callF F_sign_told hr (by decide) (qa_cons (qv 0) qa_nil)) qe_non)))).h, ?_⟩
    walk_at "rd"
    unfold mkEnd at k
    by_cases h : c = 59
    · rw [if_pos h] at k ⊢
      exact ⟨by omega, k⟩
    · rw [if_neg h] at k ⊢
      exact k H (Same.refl H)

end

section
variable {P : Program} {w : World} {K : PySem.W.Frag} {mg : Str → Option Value} {base : Heap} {t : Ads}
theorem ok_at_text (T : Txt w K mg t) (D : Df K mg "at_text" s_at_text ps_at_text) (F_come_to : OkF P w K mg base 1 "come_to" ps_come_to sp_come_to) (F_told : OkF P w K mg base 2 "told" ps_told sp_told) : OkF P w K mg base 3 "at_text" ps_at_text sp_at_text := by
  refine D.ok sc_at_text (fun vs H Q E h => ?_) (fun f cdv A outer s H vs Q E hr h => ?_)
  · obtain ⟨_, _, _, _, _, rfl, _⟩ := h; rfl
  · obtain ⟨wd, oa, op, tk, c, rfl, ho, hw, hop, k⟩ := h
    refine ⟨_, ((qss_cons (qs_if (qt_cmpR op_eq (qv 3) (qe_S (l := [60]) (by decide +kernel)) (nomark _)) (qss_one (qs_ret (qe_callF F_come_to hr (by decide) (qa_cons (qe_S (l := [111, 112, 101, 110]) (by decide +kernel)) (qa_cons (qv 1) (qa_cons (qe_lst qa_nil) qa_nil)))))) qss_nil)
      (qss_cons (qs_if (qt_cmpR op_eq (qv 3) (qe_S (l := [38]) (by decide +kernel)) (nomark _)) (qss_one (qs_ret (qe_callF F_come_to hr (by decide) (qa_cons (qe_S (l := [109, 97, 114, 107]) (by decide +kernel)) (qa_cons (qv 1) (qa_cons (qe_lst qa_nil) qa_nil)))))) qss_nil)
      (qss_one (qs_ret (qe_callF F_told hr (by decide) (qa_cons (qe_S (l := [116, 101, 120, 116]) (by decide +kernel)) (qa_cons (qv 1) (qa_cons (qv 3) qa_nil))))))))).h, ?_⟩
    walk_at "rd"
    unfold aText at k
    by_cases h0 : c = 60
    · rw [if_pos h0] at k ⊢
      exact fun p hp => ⟨op, ho.mono (same_upd hp), [], evl0, fun v H' g a => k v H' ((same_upd hp).trans g) (a.imp fun x e => by subst e; exact hp)⟩
    rw [if_neg h0] at k ⊢
    by_cases h1 : c = 38
    · rw [if_pos h1] at k ⊢
      exact fun p hp => ⟨op, ho.mono (same_upd hp), [], evl0, fun v H' g a => k v H' ((same_upd hp).trans g) (a.imp fun x e => by subst e; exact hp)⟩
    rw [if_neg h1] at k ⊢
    exact ⟨op, some c, rfl, ho, fun v H' g a => k v H' g a⟩
theorem ok_at_mark (T : Txt w K mg t) (D : Df K mg "at_mark" s_at_mark ps_at_mark) (F_gathered : OkF P w K mg base 1 "gathered" ps_gathered sp_gathered) (F_mark_ended : OkF P w K mg base 3 "mark_ended" ps_mark_ended sp_mark_ended) (F_told : OkF P w K mg base 2 "told" ps_told sp_told) : OkF P w K mg base 4 "at_mark" ps_at_mark sp_at_mark := by
  refine D.ok sc_at_mark (fun vs H Q E h => ?_) (fun f cdv A outer s H vs Q E hr h => ?_)
  · obtain ⟨_, _, _, _, _, rfl, _⟩ := h; rfl
  · obtain ⟨wd, oa, op, tk, c, rfl, ho, hw, hop, k⟩ := h
    refine ⟨_, ((qss_cons (qs_if (qt_cmpR op_inS (qv 3) (qe_gl T.g_FIGURES) (by rfl)) (qss_one (qs_ret (qe_callF F_gathered hr (by decide) (qa_cons (qe_S (l := [109, 97, 114, 107]) (by decide +kernel)) (qa_cons (qe_op op_addS (qv 0) (qv 3)) (qa_cons (qv 1) (qa_cons (qe_S (l := []) (by decide +kernel)) (qa_cons (qe_gl T.g_MARK_FIGURES) qa_nil)))))))) qss_nil)
      (qss_one (qs_ret (qe_callF F_told hr (by decide) (qa_cons (qe_S (l := [116, 101, 120, 116]) (by decide +kernel)) (qa_cons (qv 1) (qa_cons (qe_callF F_mark_ended hr (by decide) (qa_cons (qv 0) (qa_cons (qv 3) qa_nil))) qa_nil)))))))).h, ?_⟩
    walk_at "rd"
    unfold aMark at k
    by_cases h0 : c ∈ fg
    · rw [if_pos h0] at k ⊢
      exact ⟨by omega, op, 2, rfl, ho, by rw [List.length_append]; simp; omega, fun v H' g a => k v H' g a⟩
    rw [if_neg h0] at k ⊢
    exact ⟨by omega, fun H1 g1 => ⟨op, mkEnd wd c, rfl, ho.mono g1, fun v H' g a => k v H' (g1.trans g) (a.imp fun x e => none_of_same g1 e)⟩⟩
theorem ok_at_open (T : Txt w K mg t) (D : Df K mg "at_open" s_at_open ps_at_open) (F_come_to : OkF P w K mg base 1 "come_to" ps_come_to sp_come_to) (F_gathered : OkF P w K mg base 1 "gathered" ps_gathered sp_gathered) : OkF P w K mg base 2 "at_open" ps_at_open sp_at_open := by
  refine D.ok sc_at_open (fun vs H Q E h => ?_) (fun f cdv A outer s H vs Q E hr h => ?_)
  · obtain ⟨_, _, _, _, _, rfl, _⟩ := h; rfl
  · obtain ⟨wd, oa, op, tk, c, rfl, ho, hw, hop, k⟩ := h
    refine ⟨_, ((qss_cons (qs_if (qt_cmpR op_eq (qv 3) (qe_S (l := [47]) (by decide +kernel)) (nomark _)) (qss_one (qs_ret (qe_callF F_come_to hr (by decide) (qa_cons (qe_S (l := [115, 104, 117, 116]) (by decide +kernel)) (qa_cons (qv 1) (qa_cons (qe_lst qa_nil) qa_nil)))))) qss_nil)
      (qss_cons (qs_if (qt_cmpR op_inS (qv 3) (qe_gl T.g_LETTERS) (by rfl)) (qss_one (qs_ret (qe_callF F_gathered hr (by decide) (qa_cons (qe_S (l := [110, 97, 109, 101]) (by decide +kernel)) (qa_cons (qv 3) (qa_cons (qv 1) (qa_cons (qe_S (l := []) (by decide +kernel)) (qa_cons (qe_gl T.g_LONGEST_NAME) qa_nil)))))))) qss_nil)
      (qss_one (qs_ret qe_non))))).h, ?_⟩
    walk_at "rd"
    unfold aOpen at k
    by_cases h0 : c = 47
    · rw [if_pos h0] at k ⊢
      exact fun p hp => ⟨op, ho.mono (same_upd hp), [], evl0, fun v H' g a => k v H' ((same_upd hp).trans g) (a.imp fun x e => by subst e; exact hp)⟩
    rw [if_neg h0] at k ⊢
    by_cases h1 : c ∈ lt
    · rw [if_pos h1] at k ⊢
      exact ⟨op, 8, rfl, ho, fun v H' g a => k v H' g a⟩
    rw [if_neg h1] at k ⊢
    exact k _ _ (Same.refl H) rfl
theorem ok_at_name (T : Txt w K mg t) (D : Df K mg "at_name" s_at_name ps_at_name) (F_gathered : OkF P w K mg base 1 "gathered" ps_gathered sp_gathered) (F_led_on : OkF P w K mg base 3 "led_on" ps_led_on sp_led_on) : OkF P w K mg base 4 "at_name" ps_at_name sp_at_name := by
  refine D.ok sc_at_name (fun vs H Q E h => ?_) (fun f cdv A outer s H vs Q E hr h => ?_)
  · obtain ⟨_, _, _, _, _, rfl, _⟩ := h; rfl
  · obtain ⟨wd, oa, op, tk, c, rfl, ho, hw, hop, k⟩ := h
    refine ⟨_, ((qss_cons (qs_if (qt_cmpR op_inS (qv 3) (qe_gl T.g_LETTERS) (by rfl)) (qss_one (qs_ret (qe_callF F_gathered hr (by decide) (qa_cons (qe_S (l := [110, 97, 109, 101]) (by decide +kernel)) (qa_cons (qe_op op_addS (qv 0) (qv 3)) (qa_cons (qv 1) (qa_cons (qe_S (l := []) (by decide +kernel)) (qa_cons (qe_gl T.g_LONGEST_NAME) qa_nil)))))))) qss_nil)
      (qss_one (qs_ret (qe_callF F_led_on hr (by decide) (qa_cons (qe_op op_catU (qv 1) (qe_tup (qa_cons (qv 0) qa_nil))) (qa_cons (qv 3) (qa_cons (qe_lst (qa_cons (qe_tup (qa_cons (qe_S (l := [98, 111, 120]) (by decide +kernel)) (qa_cons (qv 0) qa_nil))) qa_nil)) qa_nil)))))))).h, ?_⟩
    walk_at "rd"
    unfold aName at k
    by_cases h0 : c ∈ lt
    · rw [if_pos h0] at k ⊢
      exact ⟨by omega, op, 8, rfl, ho, by rw [List.length_append]; simp; omega, fun v H' g a => k v H' g a⟩
    rw [if_neg h0] at k ⊢
    intro p hp
    refine ⟨_, same_upd hp _ _ ho, _, upd_same, by simp; omega, fun p1 H1 g1 hp1 p2 hp2 p3 hp3 => ?_⟩
    have g0 := (same_upd (o := .tup [.str (S wd)]) hp).trans g1
    have g2 := (same_upd (o := .tup [.str (S eBox), .str (S wd)]) hp2).trans (same_upd (o := .lst [.ref p2]) hp3)
    have ho2 : OpV H1 p1 (op ++ [wd]) := by
      unfold OpV
      rw [hp1, List.map_append]
      rfl
    exact ⟨op ++ [wd], ho2.mono g2, [[eBox, wd]], evl1 (e := [eBox, wd]) hp3, by simp, fun v H' g a => k v H' (g0.trans (g2.trans g)) (a.imp fun x e => e.elim (fun e => none_of_same g0 (none_of_upd (none_of_upd e))) fun e => by subst e; exact none_of_same g0 (none_of_upd hp3))⟩
theorem ok_at_slash (T : Txt w K mg t) (D : Df K mg "at_slash" s_at_slash ps_at_slash) (F_box_shut : OkF P w K mg base 2 "box_shut" ps_box_shut sp_box_shut) : OkF P w K mg base 3 "at_slash" ps_at_slash sp_at_slash := by
  refine D.ok sc_at_slash (fun vs H Q E h => ?_) (fun f cdv A outer s H vs Q E hr h => ?_)
  · obtain ⟨_, _, _, _, _, rfl, _⟩ := h; rfl
  · obtain ⟨wd, oa, op, tk, c, rfl, ho, hw, hop, k⟩ := h
    refine ⟨_, ((qss_cons (qs_if (qt_cmpR op_eq (qv 3) (qe_S (l := [62]) (by decide +kernel)) (nomark _)) (qss_one (qs_ret (qe_callF F_box_shut hr (by decide) (qa_cons (qv 1) (qa_cons (qe_lst (qa_cons (qe_tup (qa_cons (qe_S (l := [105, 110]) (by decide +kernel)) qa_nil)) qa_nil)) qa_nil))))) qss_nil)
      (qss_one (qs_ret qe_non)))).h, ?_⟩
    walk_at "rd"
    unfold aSlash at k
    by_cases h0 : c = 62
    · rw [if_pos h0] at k ⊢
      exact fun p hp p1 hp1 => ⟨op, ho.mono ((same_upd hp).trans (same_upd hp1)), [[eIn]], evl1 (e := [eIn]) hp1, by simp, fun v H' g a => k v H' (((same_upd hp).trans (same_upd hp1)).trans g) (a.imp fun x e => none_of_upd (none_of_upd e))⟩
    rw [if_neg h0] at k ⊢
    exact k _ _ (Same.refl H) rfl
theorem ok_at_shut (T : Txt w K mg t) (D : Df K mg "at_shut" s_at_shut ps_at_shut) (F_gathered : OkF P w K mg base 1 "gathered" ps_gathered sp_gathered) (F_box_shut : OkF P w K mg base 2 "box_shut" ps_box_shut sp_box_shut) : OkF P w K mg base 3 "at_shut" ps_at_shut sp_at_shut := by
  refine D.ok sc_at_shut (fun vs H Q E h => ?_) (fun f cdv A outer s H vs Q E hr h => ?_)
  · obtain ⟨_, _, _, _, _, rfl, _⟩ := h; rfl
  · obtain ⟨wd, oa, op, tk, c, rfl, ho, hw, hop, k⟩ := h
    refine ⟨_, ((qss_cons (qs_if (qt_cmpR op_inS (qv 3) (qe_gl T.g_LETTERS) (by rfl)) (qss_one (qs_ret (qe_callF F_gathered hr (by decide) (qa_cons (qe_S (l := [115, 104, 117, 116]) (by decide +kernel)) (qa_cons (qe_op op_addS (qv 0) (qv 3)) (qa_cons (qv 1) (qa_cons (qe_S (l := []) (by decide +kernel)) (qa_cons (qe_gl T.g_LONGEST_NAME) qa_nil)))))))) qss_nil)
      (qss_cons (qs_if (QW.qt (qw_and (qt_cmpR op_eq (qv 3) (qe_S (l := [62]) (by decide +kernel)) (nomark _)) (qw_and1 (qt_cmpR (op_eqSK (K := K) (by rfl) (hu_lt hr)) (qe_slice sl_tupU (qv 1) (qo_some (qe_un un_neg qe_int)) qo_none) (qe_tup (qa_cons (qv 0) qa_nil)) (nomark _))))) (qss_one (qs_ret (qe_callF F_box_shut hr (by decide) (qa_cons (qv 1) (qa_cons (qe_lst qa_nil) qa_nil))))) qss_nil)
      (qss_one (qs_ret qe_non))))).h, ?_⟩
    walk_at "rd"
    unfold aShut at k
    by_cases h0 : c ∈ lt
    · rw [if_pos h0] at k ⊢
      exact ⟨by omega, op, 8, rfl, ho, by rw [List.length_append]; simp; omega, fun v H' g a => k v H' g a⟩
    rw [if_neg h0] at k ⊢
    by_cases h1 : c = 62
    · rw [if_pos h1]
      refine ⟨_, ho, fun p H1 g1 hp p1 hp1 => ⟨_, _, .inr ⟨SqT.of (same_upd hp1 _ _ hp), SqT.of upd_same⟩, by rw [cut_last]; exact flat_drop (flat_txs op), rfl, ?_⟩⟩
      rw [cut_last, eq_last]
      have g2 := g1.trans (same_upd (o := .tup [.str (S wd)]) hp1)
      by_cases h2 : op.getLast? = some wd
      · rw [if_pos (decide_eq_true h2)]
        rw [if_pos ⟨h1, h2⟩] at k
        exact fun p2 hp2 => ⟨op, (ho.mono g2).mono (same_upd hp2), [], evl0, by simp, fun v H' g a => k v H' (g2.trans ((same_upd hp2).trans g)) (a.imp fun x e => none_of_same g2 (none_of_upd e))⟩
      · rw [if_neg (by simp [h2])]
        rw [if_neg (by rintro ⟨_, z⟩; exact h2 z)] at k
        exact k _ _ g2 rfl
    · rw [if_neg h1]
      rw [if_neg (by rintro ⟨z, _⟩; exact h1 z)] at k
      exact k _ _ (Same.refl H) rfl
theorem ok_at_gap (T : Txt w K mg t) (D : Df K mg "at_gap" s_at_gap ps_at_gap) (F_gathered : OkF P w K mg base 1 "gathered" ps_gathered sp_gathered) : OkF P w K mg base 2 "at_gap" ps_at_gap sp_at_gap := by
  refine D.ok sc_at_gap (fun vs H Q E h => ?_) (fun f cdv A outer s H vs Q E hr h => ?_)
  · obtain ⟨_, _, _, _, _, rfl, _⟩ := h; rfl
  · obtain ⟨wd, oa, op, tk, c, rfl, ho, hw, hop, k⟩ := h
    refine ⟨_, ((qss_cons (qs_if (qt_cmpR op_inS (qv 3) (qe_gl T.g_LETTERS) (by rfl)) (qss_one (qs_ret (qe_callF F_gathered hr (by decide) (qa_cons (qe_S (l := [97, 116, 116, 114]) (by decide +kernel)) (qa_cons (qv 3) (qa_cons (qv 1) (qa_cons (qe_S (l := []) (by decide +kernel)) (qa_cons (qe_gl T.g_LONGEST_NAME) qa_nil)))))))) qss_nil)
      (qss_one (qs_ret qe_non)))).h, ?_⟩
    walk_at "rd"
    unfold aGap at k
    by_cases h0 : c ∈ lt
    · rw [if_pos h0] at k ⊢
      exact ⟨op, 8, rfl, ho, fun v H' g a => k v H' g a⟩
    rw [if_neg h0] at k ⊢
    exact k _ _ (Same.refl H) rfl

end

section
variable {P : Program} {w : World} {K : PySem.W.Frag} {mg : Str → Option Value} {base : Heap} {t : Ads}
theorem ok_at_attr (T : Txt w K mg t) (D : Df K mg "at_attr" s_at_attr ps_at_attr) (F_gathered : OkF P w K mg base 1 "gathered" ps_gathered sp_gathered) (F_come_to : OkF P w K mg base 1 "come_to" ps_come_to sp_come_to) : OkF P w K mg base 2 "at_attr" ps_at_attr sp_at_attr := by
  refine D.ok sc_at_attr (fun vs H Q E h => ?_) (fun f cdv A outer s H vs Q E hr h => ?_)
  · obtain ⟨_, _, _, _, _, rfl, _⟩ := h; rfl
  · obtain ⟨wd, oa, op, tk, c, rfl, ho, hw, hop, k⟩ := h
    refine ⟨_, ((qss_cons (qs_if (qt_cmpR op_inS (qv 3) (qe_gl T.g_LETTERS) (by rfl)) (qss_one (qs_ret (qe_callF F_gathered hr (by decide) (qa_cons (qe_S (l := [97, 116, 116, 114]) (by decide +kernel)) (qa_cons (qe_op op_addS (qv 0) (qv 3)) (qa_cons (qv 1) (qa_cons (qe_S (l := []) (by decide +kernel)) (qa_cons (qe_gl T.g_LONGEST_NAME) qa_nil)))))))) qss_nil)
      (qss_cons (qs_if (qt_cmpR op_eq (qv 3) (qe_S (l := [58]) (by decide +kernel)) (nomark _)) (qss_one (qs_ret (qe_callF F_come_to hr (by decide) (qa_cons (qe_S (l := [98, 97, 114, 101]) (by decide +kernel)) (qa_cons (qv 1) (qa_cons (qe_lst (qa_cons (qe_tup (qa_cons (qe_S (l := [97, 116, 116, 114]) (by decide +kernel)) (qa_cons (qv 0) (qa_cons (qe_S (l := [98, 97, 114, 101]) (by decide +kernel)) qa_nil)))) qa_nil)) qa_nil)))))) qss_nil)
      (qss_cons (qs_if (qt_cmpR op_eq (qv 3) (qe_S (l := [40]) (by decide +kernel)) (nomark _)) (qss_one (qs_ret (qe_callF F_come_to hr (by decide) (qa_cons (qe_S (l := [114, 111, 119]) (by decide +kernel)) (qa_cons (qv 1) (qa_cons (qe_lst (qa_cons (qe_tup (qa_cons (qe_S (l := [97, 116, 116, 114]) (by decide +kernel)) (qa_cons (qv 0) (qa_cons (qe_S (l := [114, 111, 119]) (by decide +kernel)) qa_nil)))) qa_nil)) qa_nil)))))) qss_nil)
      (qss_cons (qs_if (qt_cmpR op_eq (qv 3) (qe_S (l := [61]) (by decide +kernel)) (nomark _)) (qss_one (qs_ret (qe_tup (qa_cons (qe_tup (qa_cons (qe_S (l := [105, 115]) (by decide +kernel)) (qa_cons (qv 0) (qa_cons (qv 1) (qa_cons (qe_S (l := []) (by decide +kernel)) qa_nil))))) (qa_cons (qe_lst qa_nil) qa_nil))))) qss_nil)
      (qss_cons (qs_if (qt_cmpR op_eq (qv 3) (qe_S (l := [33]) (by decide +kernel)) (nomark _)) (qss_one (qs_ret (qe_tup (qa_cons (qe_tup (qa_cons (qe_S (l := [98, 97, 110, 103]) (by decide +kernel)) (qa_cons (qv 0) (qa_cons (qv 1) (qa_cons (qe_S (l := []) (by decide +kernel)) qa_nil))))) (qa_cons (qe_lst qa_nil) qa_nil))))) qss_nil)
      (qss_one (qs_ret qe_non)))))))).h, ?_⟩
    walk_at "rd"
    unfold aAttr at k
    by_cases h0 : c ∈ lt
    · rw [if_pos h0] at k ⊢
      exact ⟨by omega, op, 8, rfl, ho, by rw [List.length_append]; simp; omega, fun v H' g a => k v H' g a⟩
    rw [if_neg h0] at k ⊢
    by_cases h1 : c = 58
    · rw [if_pos h1] at k ⊢
      exact fun p hp p1 hp1 => ⟨op, ho.mono ((same_upd hp).trans (same_upd hp1)), [[eAttr, wd, mBare]], evl1 (e := [eAttr, wd, mBare]) hp1, fun v H' g a => k v H' (((same_upd hp).trans (same_upd hp1)).trans g) (a.imp fun x e => by subst e; exact none_of_upd hp1)⟩
    rw [if_neg h1] at k ⊢
    by_cases h2 : c = 40
    · rw [if_pos h2] at k ⊢
      exact fun p hp p1 hp1 => ⟨op, ho.mono ((same_upd hp).trans (same_upd hp1)), [[eAttr, wd, mRow]], evl1 (e := [eAttr, wd, mRow]) hp1, fun v H' g a => k v H' (((same_upd hp).trans (same_upd hp1)).trans g) (a.imp fun x e => by subst e; exact none_of_upd hp1)⟩
    rw [if_neg h2] at k ⊢
    by_cases h3 : c = 61
    · rw [if_pos h3] at k ⊢
      exact fun p hp p1 hp1 p2 hp2 => k _ _ ((same_upd hp).trans ((same_upd hp1).trans (same_upd hp2))) (an_up (same_upd hp1 _ _ upd_same) ((ho.mono (same_upd hp)).mono (same_upd hp1)) evl0 (none_of_upd hp1) hp2)
    rw [if_neg h3] at k ⊢
    by_cases h4 : c = 33
    · rw [if_pos h4] at k ⊢
      exact fun p hp p1 hp1 p2 hp2 => k _ _ ((same_upd hp).trans ((same_upd hp1).trans (same_upd hp2))) (an_up (same_upd hp1 _ _ upd_same) ((ho.mono (same_upd hp)).mono (same_upd hp1)) evl0 (none_of_upd hp1) hp2)
    rw [if_neg h4] at k ⊢
    exact k _ _ (Same.refl H) rfl
theorem ok_at_is (T : Txt w K mg t) (D : Df K mg "at_is" s_at_is ps_at_is) (F_come_to : OkF P w K mg base 1 "come_to" ps_come_to sp_come_to) : OkF P w K mg base 2 "at_is" ps_at_is sp_at_is := by
  refine D.ok sc_at_is (fun vs H Q E h => ?_) (fun f cdv A outer s H vs Q E hr h => ?_)
  · obtain ⟨_, _, _, _, _, rfl, _⟩ := h; rfl
  · obtain ⟨wd, oa, op, tk, c, rfl, ho, hw, hop, k⟩ := h
    refine ⟨_, ((qss_cons (qs_if (qt_cmpR op_eq (qv 3) (qe_S (l := [34]) (by decide +kernel)) (nomark _)) (qss_one (qs_ret (qe_callF F_come_to hr (by decide) (qa_cons (qe_S (l := [113, 117, 111, 116, 101, 100]) (by decide +kernel)) (qa_cons (qv 1) (qa_cons (qe_lst (qa_cons (qe_tup (qa_cons (qe_S (l := [97, 116, 116, 114]) (by decide +kernel)) (qa_cons (qv 0) (qa_cons (qe_S (l := [113, 117, 111, 116, 101, 100]) (by decide +kernel)) qa_nil)))) qa_nil)) qa_nil)))))) qss_nil)
      (qss_one (qs_ret qe_non)))).h, ?_⟩
    walk_at "rd"
    unfold aIs at k
    by_cases h0 : c = 34
    · rw [if_pos h0] at k ⊢
      exact fun p hp p1 hp1 => ⟨op, ho.mono ((same_upd hp).trans (same_upd hp1)), [[eAttr, wd, mQuoted]], evl1 (e := [eAttr, wd, mQuoted]) hp1, fun v H' g a => k v H' (((same_upd hp).trans (same_upd hp1)).trans g) (a.imp fun x e => by subst e; exact none_of_upd hp1)⟩
    rw [if_neg h0] at k ⊢
    exact k _ _ (Same.refl H) rfl
theorem ok_at_bang (T : Txt w K mg t) (D : Df K mg "at_bang" s_at_bang ps_at_bang) : OkF P w K mg base 1 "at_bang" ps_at_bang sp_at_bang := by
  refine D.ok sc_at_bang (fun vs H Q E h => ?_) (fun f cdv A outer s H vs Q E hr h => ?_)
  · obtain ⟨_, _, _, _, _, rfl, _⟩ := h; rfl
  · obtain ⟨wd, oa, op, tk, c, rfl, ho, hw, hop, k⟩ := h
    refine ⟨_, ((qss_cons (qs_if (qt_cmpR op_eq (qv 3) (qe_S (l := [34]) (by decide +kernel)) (nomark _)) (qss_one (qs_ret (qe_tup (qa_cons (qe_tup (qa_cons (qe_S (l := [116, 97, 108, 107]) (by decide +kernel)) (qa_cons (qe_S (l := []) (by decide +kernel)) (qa_cons (qv 1) (qa_cons (qe_S (l := [98, 101, 116, 119, 101, 101, 110]) (by decide +kernel)) qa_nil))))) (qa_cons (qe_lst (qa_cons (qe_tup (qa_cons (qe_S (l := [97, 116, 116, 114]) (by decide +kernel)) (qa_cons (qv 0) (qa_cons (qe_S (l := [116, 97, 108, 107]) (by decide +kernel)) qa_nil)))) qa_nil)) qa_nil))))) qss_nil)
      (qss_one (qs_ret qe_non)))).h, ?_⟩
    walk_at "rd"
    unfold aBang at k
    by_cases h0 : c = 34
    · rw [if_pos h0] at k ⊢
      exact fun p hp p1 hp1 p2 hp2 p3 hp3 => k _ _ ((same_upd hp).trans ((same_upd hp1).trans ((same_upd hp2).trans (same_upd hp3)))) (an_up (same_upd hp2 _ _ (same_upd hp1 _ _ upd_same)) (((ho.mono (same_upd hp)).mono (same_upd hp1)).mono (same_upd hp2)) (evl1 (e := [eAttr, wd, mTalk]) hp2) (none_of_upd (none_of_upd hp2)) hp3)
    rw [if_neg h0] at k ⊢
    exact k _ _ (Same.refl H) rfl
theorem ok_at_bare (T : Txt w K mg t) (D : Df K mg "at_bare" s_at_bare ps_at_bare) (F_told : OkF P w K mg base 2 "told" ps_told sp_told) (F_come_to : OkF P w K mg base 1 "come_to" ps_come_to sp_come_to) (F_led_on : OkF P w K mg base 3 "led_on" ps_led_on sp_led_on) : OkF P w K mg base 4 "at_bare" ps_at_bare sp_at_bare := by
  refine D.ok sc_at_bare (fun vs H Q E h => ?_) (fun f cdv A outer s H vs Q E hr h => ?_)
  · obtain ⟨_, _, _, _, _, rfl, _⟩ := h; rfl
  · obtain ⟨wd, oa, op, tk, c, rfl, ho, hw, hop, k⟩ := h
    refine ⟨_, ((qss_cons (qs_if (qt_cmpR op_inS (qv 3) (qe_gl T.g_WORDSIGNS) (by rfl)) (qss_one (qs_ret (qe_callF F_told hr (by decide) (qa_cons (qe_S (l := [98, 97, 114, 101]) (by decide +kernel)) (qa_cons (qv 1) (qa_cons (qv 3) qa_nil)))))) qss_nil)
      (qss_cons (qs_if (qt_cmpR op_eq (qv 3) (qe_S (l := [126]) (by decide +kernel)) (nomark _)) (qss_one (qs_ret (qe_callF F_come_to hr (by decide) (qa_cons (qe_S (l := [99, 111, 100, 101]) (by decide +kernel)) (qa_cons (qv 1) (qa_cons (qe_lst qa_nil) qa_nil)))))) qss_nil)
      (qss_one (qs_ret (qe_callF F_led_on hr (by decide) (qa_cons (qv 1) (qa_cons (qv 3) (qa_cons (qe_lst qa_nil) qa_nil))))))))).h, ?_⟩
    walk_at "rd"
    unfold aBare at k
    by_cases h0 : c ∈ ws
    · rw [if_pos h0] at k ⊢
      exact ⟨op, some c, rfl, ho, fun v H' g a => k v H' g a⟩
    rw [if_neg h0] at k ⊢
    by_cases h1 : c = 126
    · rw [if_pos h1] at k ⊢
      exact fun p hp => ⟨op, ho.mono (same_upd hp), [], evl0, fun v H' g a => k v H' ((same_upd hp).trans g) (a.imp fun x e => by subst e; exact hp)⟩
    rw [if_neg h1] at k ⊢
    exact fun p hp => ⟨op, ho.mono (same_upd hp), [], evl0, by simp, fun v H' g a => k v H' ((same_upd hp).trans g) (a.imp fun x e => e.elim none_of_upd fun e => by subst e; exact hp)⟩
theorem ok_at_code (T : Txt w K mg t) (D : Df K mg "at_code" s_at_code ps_at_code) (F_told : OkF P w K mg base 2 "told" ps_told sp_told) (F_sign_told : OkF P w K mg base 2 "sign_told" ps_sign_told sp_sign_told) : OkF P w K mg base 3 "at_code" ps_at_code sp_at_code := by
  refine D.ok sc_at_code (fun vs H Q E h => ?_) (fun f cdv A outer s H vs Q E hr h => ?_)
  · obtain ⟨_, _, _, _, _, rfl, _⟩ := h; rfl
  · obtain ⟨wd, oa, op, tk, c, rfl, ho, hw, hop, k⟩ := h
    refine ⟨_, ((qss_cons (qs_if (qt_cmpR op_eq (qv 0) (qe_S (l := []) (by decide +kernel)) (nomark _)) (qss_one (qs_ret (qe_ifExp (qt_cmpR op_inS (qv 3) (qe_gl T.g_FIGURES) (by rfl)) (qe_tup (qa_cons (qe_tup (qa_cons (qe_S (l := [99, 111, 100, 101]) (by decide +kernel)) (qa_cons (qv 3) (qa_cons (qv 1) (qa_cons (qe_S (l := []) (by decide +kernel)) qa_nil))))) (qa_cons (qe_lst qa_nil) qa_nil))) qe_non))) qss_nil)
      (qss_one (qs_ret (qe_callF F_told hr (by decide) (qa_cons (qe_S (l := [98, 97, 114, 101]) (by decide +kernel)) (qa_cons (qv 1) (qa_cons (qe_callF F_sign_told hr (by decide) (qa_cons (qe_op op_addS (qv 0) (qv 3)) qa_nil)) qa_nil)))))))).h, ?_⟩
    walk_at "rd"
    unfold aCode at k
    by_cases h0 : wd = []
    · rw [if_pos h0] at k ⊢
      by_cases h5 : c ∈ fg
      · rw [if_pos h5] at k ⊢
        exact fun p hp p1 hp1 p2 hp2 => k _ _ ((same_upd hp).trans ((same_upd hp1).trans (same_upd hp2))) (an_up (same_upd hp1 _ _ upd_same) ((ho.mono (same_upd hp)).mono (same_upd hp1)) evl0 (none_of_upd hp1) hp2)
      · rw [if_neg h5] at k ⊢
        exact k _ _ (Same.refl H) rfl
    rw [if_neg h0] at k ⊢
    exact ⟨by omega, by rw [List.length_append]; simp; omega, fun H1 g1 => ⟨op, L2.told (wd ++ [c]), rfl, ho.mono g1, fun v H' g a => k v H' (g1.trans g) (a.imp fun x e => none_of_same g1 e)⟩⟩
theorem ok_at_row (T : Txt w K mg t) (D : Df K mg "at_row" s_at_row ps_at_row) (F_come_to : OkF P w K mg base 1 "come_to" ps_come_to sp_come_to) (F_told : OkF P w K mg base 2 "told" ps_told sp_told) : OkF P w K mg base 3 "at_row" ps_at_row sp_at_row := by
  refine D.ok sc_at_row (fun vs H Q E h => ?_) (fun f cdv A outer s H vs Q E hr h => ?_)
  · obtain ⟨_, _, _, _, _, rfl, _⟩ := h; rfl
  · obtain ⟨wd, oa, op, tk, c, rfl, ho, hw, hop, k⟩ := h
    refine ⟨_, ((qss_cons (qs_if (qt_cmpR op_eq (qv 3) (qe_S (l := [92]) (by decide +kernel)) (nomark _)) (qss_one (qs_ret (qe_callF F_come_to hr (by decide) (qa_cons (qe_S (l := [115, 116, 114, 111, 107, 101]) (by decide +kernel)) (qa_cons (qv 1) (qa_cons (qe_lst qa_nil) qa_nil)))))) qss_nil)
      (qss_cons (qs_if (qt_cmpR op_eq (qv 3) (qe_S (l := [44]) (by decide +kernel)) (nomark _)) (qss_one (qs_ret (qe_callF F_come_to hr (by decide) (qa_cons (qe_S (l := [114, 111, 119]) (by decide +kernel)) (qa_cons (qv 1) (qa_cons (qe_lst (qa_cons (qe_tup (qa_cons (qe_S (l := [110, 101, 120, 116]) (by decide +kernel)) qa_nil)) qa_nil)) qa_nil)))))) qss_nil)
      (qss_cons (qs_if (qt_cmpR op_eq (qv 3) (qe_S (l := [41]) (by decide +kernel)) (nomark _)) (qss_one (qs_ret (qe_callF F_come_to hr (by decide) (qa_cons (qe_S (l := [100, 111, 110, 101]) (by decide +kernel)) (qa_cons (qv 1) (qa_cons (qe_lst qa_nil) qa_nil)))))) qss_nil)
      (qss_one (qs_ret (qe_callF F_told hr (by decide) (qa_cons (qe_S (l := [114, 111, 119]) (by decide +kernel)) (qa_cons (qv 1) (qa_cons (qv 3) qa_nil)))))))))).h, ?_⟩
    walk_at "rd"
    unfold aRow at k
    by_cases h0 : c = 92
    · rw [if_pos h0] at k ⊢
      exact fun p hp => ⟨op, ho.mono (same_upd hp), [], evl0, fun v H' g a => k v H' ((same_upd hp).trans g) (a.imp fun x e => by subst e; exact hp)⟩
    rw [if_neg h0] at k ⊢
    by_cases h1 : c = 44
    · rw [if_pos h1] at k ⊢
      exact fun p hp p1 hp1 => ⟨op, ho.mono ((same_upd hp).trans (same_upd hp1)), [[eNext]], evl1 (e := [eNext]) hp1, fun v H' g a => k v H' (((same_upd hp).trans (same_upd hp1)).trans g) (a.imp fun x e => by subst e; exact none_of_upd hp1)⟩
    rw [if_neg h1] at k ⊢
    by_cases h2 : c = 41
    · rw [if_pos h2] at k ⊢
      exact fun p hp => ⟨op, ho.mono (same_upd hp), [], evl0, fun v H' g a => k v H' ((same_upd hp).trans g) (a.imp fun x e => by subst e; exact hp)⟩
    rw [if_neg h2] at k ⊢
    exact ⟨op, some c, rfl, ho, fun v H' g a => k v H' g a⟩
theorem ok_at_stroke (T : Txt w K mg t) (D : Df K mg "at_stroke" s_at_stroke ps_at_stroke) (F_told : OkF P w K mg base 2 "told" ps_told sp_told) : OkF P w K mg base 3 "at_stroke" ps_at_stroke sp_at_stroke := by
  refine D.ok sc_at_stroke (fun vs H Q E h => ?_) (fun f cdv A outer s H vs Q E hr h => ?_)
  · obtain ⟨_, _, _, _, _, rfl, _⟩ := h; rfl
  · obtain ⟨wd, oa, op, tk, c, rfl, ho, hw, hop, k⟩ := h
    refine ⟨_, ((qss_one (qs_ret (qe_callF F_told hr (by decide) (qa_cons (qe_S (l := [114, 111, 119]) (by decide +kernel)) (qa_cons (qv 1) (qa_cons (qv 3) qa_nil))))))).h, ?_⟩
    walk_at "rd"
    unfold aStroke at k
    exact ⟨op, some c, rfl, ho, fun v H' g a => k v H' g a⟩
theorem ok_at_quoted (T : Txt w K mg t) (D : Df K mg "at_quoted" s_at_quoted ps_at_quoted) (F_come_to : OkF P w K mg base 1 "come_to" ps_come_to sp_come_to) (F_told : OkF P w K mg base 2 "told" ps_told sp_told) : OkF P w K mg base 3 "at_quoted" ps_at_quoted sp_at_quoted := by
  refine D.ok sc_at_quoted (fun vs H Q E h => ?_) (fun f cdv A outer s H vs Q E hr h => ?_)
  · obtain ⟨_, _, _, _, _, rfl, _⟩ := h; rfl
  · obtain ⟨wd, oa, op, tk, c, rfl, ho, hw, hop, k⟩ := h
    refine ⟨_, ((qss_cons (qs_if (qt_cmpR op_eq (qv 3) (qe_S (l := [34]) (by decide +kernel)) (nomark _)) (qss_one (qs_ret (qe_callF F_come_to hr (by decide) (qa_cons (qe_S (l := [100, 111, 110, 101]) (by decide +kernel)) (qa_cons (qv 1) (qa_cons (qe_lst qa_nil) qa_nil)))))) qss_nil)
      (qss_cons (qs_if (qt_cmpR op_eq (qv 3) (qe_S (l := [38]) (by decide +kernel)) (nomark _)) (qss_one (qs_ret (qe_callF F_come_to hr (by decide) (qa_cons (qe_S (l := [113, 109, 97, 114, 107]) (by decide +kernel)) (qa_cons (qv 1) (qa_cons (qe_lst qa_nil) qa_nil)))))) qss_nil)
      (qss_one (qs_ret (qe_callF F_told hr (by decide) (qa_cons (qe_S (l := [113, 117, 111, 116, 101, 100]) (by decide +kernel)) (qa_cons (qv 1) (qa_cons (qv 3) qa_nil))))))))).h, ?_⟩
    walk_at "rd"
    unfold aQuoted at k
    by_cases h0 : c = 34
    · rw [if_pos h0] at k ⊢
      exact fun p hp => ⟨op, ho.mono (same_upd hp), [], evl0, fun v H' g a => k v H' ((same_upd hp).trans g) (a.imp fun x e => by subst e; exact hp)⟩
    rw [if_neg h0] at k ⊢
    by_cases h1 : c = 38
    · rw [if_pos h1] at k ⊢
      exact fun p hp => ⟨op, ho.mono (same_upd hp), [], evl0, fun v H' g a => k v H' ((same_upd hp).trans g) (a.imp fun x e => by subst e; exact hp)⟩
    rw [if_neg h1] at k ⊢
    exact ⟨op, some c, rfl, ho, fun v H' g a => k v H' g a⟩
theorem ok_at_qmark (T : Txt w K mg t) (D : Df K mg "at_qmark" s_at_qmark ps_at_qmark) (F_gathered : OkF P w K mg base 1 "gathered" ps_gathered sp_gathered) (F_mark_ended : OkF P w K mg base 3 "mark_ended" ps_mark_ended sp_mark_ended) (F_told : OkF P w K mg base 2 "told" ps_told sp_told) : OkF P w K mg base 4 "at_qmark" ps_at_qmark sp_at_qmark := by
  refine D.ok sc_at_qmark (fun vs H Q E h => ?_) (fun f cdv A outer s H vs Q E hr h => ?_)
  · obtain ⟨_, _, _, _, _, rfl, _⟩ := h; rfl
  · obtain ⟨wd, oa, op, tk, c, rfl, ho, hw, hop, k⟩ := h
    refine ⟨_, ((qss_cons (qs_if (qt_cmpR op_inS (qv 3) (qe_gl T.g_FIGURES) (by rfl)) (qss_one (qs_ret (qe_callF F_gathered hr (by decide) (qa_cons (qe_S (l := [113, 109, 97, 114, 107]) (by decide +kernel)) (qa_cons (qe_op op_addS (qv 0) (qv 3)) (qa_cons (qv 1) (qa_cons (qe_S (l := []) (by decide +kernel)) (qa_cons (qe_gl T.g_MARK_FIGURES) qa_nil)))))))) qss_nil)
      (qss_one (qs_ret (qe_callF F_told hr (by decide) (qa_cons (qe_S (l := [113, 117, 111, 116, 101, 100]) (by decide +kernel)) (qa_cons (qv 1) (qa_cons (qe_callF F_mark_ended hr (by decide) (qa_cons (qv 0) (qa_cons (qv 3) qa_nil))) qa_nil)))))))).h, ?_⟩
    walk_at "rd"
    unfold aQmark at k
    by_cases h0 : c ∈ fg
    · rw [if_pos h0] at k ⊢
      exact ⟨by omega, op, 2, rfl, ho, by rw [List.length_append]; simp; omega, fun v H' g a => k v H' g a⟩
    rw [if_neg h0] at k ⊢
    exact ⟨by omega, fun H1 g1 => ⟨op, mkEnd wd c, rfl, ho.mono g1, fun v H' g a => k v H' (g1.trans g) (a.imp fun x e => none_of_same g1 e)⟩⟩
theorem ok_at_done (T : Txt w K mg t) (D : Df K mg "at_done" s_at_done ps_at_done) (F_led_on : OkF P w K mg base 3 "led_on" ps_led_on sp_led_on) : OkF P w K mg base 4 "at_done" ps_at_done sp_at_done := by
  refine D.ok sc_at_done (fun vs H Q E h => ?_) (fun f cdv A outer s H vs Q E hr h => ?_)
  · obtain ⟨_, _, _, _, _, rfl, _⟩ := h; rfl
  · obtain ⟨wd, oa, op, tk, c, rfl, ho, hw, hop, k⟩ := h
    refine ⟨_, ((qss_one (qs_ret (qe_callF F_led_on hr (by decide) (qa_cons (qv 1) (qa_cons (qv 3) (qa_cons (qe_lst qa_nil) qa_nil))))))).h, ?_⟩
    walk_at "rd"
    unfold aDone at k
    exact fun p hp => ⟨op, ho.mono (same_upd hp), [], evl0, by simp, fun v H' g a => k v H' ((same_upd hp).trans g) (a.imp fun x e => e.elim none_of_upd fun e => by subst e; exact hp)⟩

end

section
variable {P : Program} {w : World} {K : PySem.W.Frag} {mg : Str → Option Value} {base : Heap} {t : Ads}
theorem ok_at_talk (T : Txt w K mg t) (D : Df K mg "at_talk" s_at_talk ps_at_talk) (F_come_to : OkF P w K mg base 1 "come_to" ps_come_to sp_come_to) (F_fed : OkF P w K mg base 4 "fed" ps_fed sp_fed) : OkF P w K mg base 5 "at_talk" ps_at_talk sp_at_talk := by
  refine D.ok sc_at_talk (fun vs H Q E h => ?_) (fun f cdv A outer s H vs Q E hr h => ?_)
  · obtain ⟨_, _, _, _, _, rfl, _⟩ := h; rfl
  · obtain ⟨wd, oa, op, tk, c, rfl, ho, hw, hop, k⟩ := h
    refine ⟨_, ((qss_cons (qs_if (qt_cmpR op_eq (qv 3) (qe_S (l := [38]) (by decide +kernel)) (nomark _)) (qss_one (qs_ret (qe_tup (qa_cons (qe_tup (qa_cons (qe_S (l := [116, 109, 97, 114, 107]) (by decide +kernel)) (qa_cons (qe_S (l := []) (by decide +kernel)) (qa_cons (qv 1) (qa_cons (qv 2) qa_nil))))) (qa_cons (qe_lst qa_nil) qa_nil))))) qss_nil)
      (qss_cons (qs_if (qt_cmpR op_eq (qv 3) (qe_S (l := [34]) (by decide +kernel)) (nomark _)) (qss_one (qs_ret (qe_ifExp (qt_cmpR (op_inQK (K := K) (by rfl)) (qv 2) (qe_tup (qa_cons (qe_S (l := [98, 101, 116, 119, 101, 101, 110]) (by decide +kernel)) (qa_cons (qe_S (l := [119, 111, 114, 100]) (by decide +kernel)) qa_nil))) (by rfl)) (qe_callF F_come_to hr (by decide) (qa_cons (qe_S (l := [100, 111, 110, 101]) (by decide +kernel)) (qa_cons (qv 1) (qa_cons (qe_lst qa_nil) qa_nil)))) qe_non))) qss_nil)
      (qss_one (qs_ret (qe_callF F_fed hr (by decide) (qa_cons (qv 1) (qa_cons (qv 2) (qa_cons (qv 3) qa_nil))))))))).h, ?_⟩
    walk_at "rd"
    unfold aTalk at k
    by_cases h0 : c = 38
    · rw [if_pos h0] at k ⊢
      exact fun p hp p1 hp1 p2 hp2 => k _ _ ((same_upd hp).trans ((same_upd hp1).trans (same_upd hp2))) (an_up (same_upd hp1 _ _ upd_same) ((ho.mono (same_upd hp)).mono (same_upd hp1)) evl0 (none_of_upd hp1) hp2)
    rw [if_neg h0] at k ⊢
    by_cases h1 : c = 34
    · rw [if_pos h1] at k ⊢
      intro p hp
      refine ⟨_, .inr (SqT.of upd_same), rfl, rfl, ?_⟩
      have e := inV_txs tk [tBetween, tWord]
      rw [show ([tBetween, tWord].map fun x => V.str (S x)) = [V.str (S [98, 101, 116, 119, 101, 101, 110]), V.str (S [119, 111, 114, 100])] from rfl] at e
      rw [e]
      have g0 := same_upd (o := .tup [V.str (S [98, 101, 116, 119, 101, 101, 110]), V.str (S [119, 111, 114, 100])]) hp
      by_cases h5 : tk = tBetween ∨ tk = tWord
      · rw [if_pos h5] at k
        rw [if_pos (by simpa using h5)]
        exact fun p1 hp1 => ⟨op, (ho.mono g0).mono (same_upd hp1), [], evl0, fun v H' g a => k v H' (g0.trans ((same_upd hp1).trans g)) (a.imp fun x e => by subst e; exact none_of_upd hp1)⟩
      · rw [if_neg h5] at k
        rw [if_neg (by simpa using h5)]
        exact k _ _ g0 rfl
    rw [if_neg h1] at k ⊢
    exact ⟨op, some c, rfl, ho, fun v H' g a => k v H' g a⟩
theorem ok_at_tmark (T : Txt w K mg t) (D : Df K mg "at_tmark" s_at_tmark ps_at_tmark) (F_gathered : OkF P w K mg base 1 "gathered" ps_gathered sp_gathered) (F_mark_ended : OkF P w K mg base 3 "mark_ended" ps_mark_ended sp_mark_ended) (F_fed : OkF P w K mg base 4 "fed" ps_fed sp_fed) : OkF P w K mg base 5 "at_tmark" ps_at_tmark sp_at_tmark := by
  refine D.ok sc_at_tmark (fun vs H Q E h => ?_) (fun f cdv A outer s H vs Q E hr h => ?_)
  · obtain ⟨_, _, _, _, _, rfl, _⟩ := h; rfl
  · obtain ⟨wd, oa, op, tk, c, rfl, ho, hw, hop, k⟩ := h
    refine ⟨_, ((qss_cons (qs_if (qt_cmpR op_inS (qv 3) (qe_gl T.g_FIGURES) (by rfl)) (qss_one (qs_ret (qe_callF F_gathered hr (by decide) (qa_cons (qe_S (l := [116, 109, 97, 114, 107]) (by decide +kernel)) (qa_cons (qe_op op_addS (qv 0) (qv 3)) (qa_cons (qv 1) (qa_cons (qv 2) (qa_cons (qe_gl T.g_MARK_FIGURES) qa_nil)))))))) qss_nil)
      (qss_one (qs_ret (qe_callF F_fed hr (by decide) (qa_cons (qv 1) (qa_cons (qv 2) (qa_cons (qe_callF F_mark_ended hr (by decide) (qa_cons (qv 0) (qa_cons (qv 3) qa_nil))) qa_nil)))))))).h, ?_⟩
    walk_at "rd"
    unfold aTmark at k
    by_cases h0 : c ∈ fg
    · rw [if_pos h0] at k ⊢
      exact ⟨by omega, op, 2, rfl, ho, by rw [List.length_append]; simp; omega, fun v H' g a => k v H' g a⟩
    rw [if_neg h0] at k ⊢
    exact ⟨by omega, fun H1 g1 => ⟨op, mkEnd wd c, rfl, ho.mono g1, fun v H' g a => k v H' (g1.trans g) (a.imp fun x e => none_of_same g1 e)⟩⟩
theorem ok_at_asis (T : Txt w K mg t) (D : Df K mg "at_asis" s_at_asis ps_at_asis) (F_box_shut : OkF P w K mg base 2 "box_shut" ps_box_shut sp_box_shut) (F_come_to : OkF P w K mg base 1 "come_to" ps_come_to sp_come_to) : OkF P w K mg base 3 "at_asis" ps_at_asis sp_at_asis := by
  refine D.ok sc_at_asis (fun vs H Q E h => ?_) (fun f cdv A outer s H vs Q E hr h => ?_)
  · obtain ⟨_, _, _, _, _, rfl, _⟩ := h; rfl
  · obtain ⟨wd, oa, op, tk, c, rfl, ho, hw, hop, k⟩ := h
    refine ⟨_, ((qss_cons (qs_set (i := 4) sc_at_asis.nd (by rfl) (Or.inl (by rfl)) (qe_op op_addS (qv 0) (qv 3)))
      (qss_cons (qs_if (qt_cmpR op_eq (qv 4) (qe_gl T.g_ASIS_END) (nomark _)) (qss_one (qs_ret (qe_callF F_box_shut hr (by decide) (qa_cons (qv 1) (qa_cons (qe_lst qa_nil) qa_nil))))) qss_nil)
      (qss_cons (qs_if (qt_val (qe_bmK (K := K) (by rfl) PySem.F.plainAttrs_str PySem.F.slot_str_startswith PySem.F.type_str_startswith mt_startswithS (qe_gl T.g_ASIS_END) (qa_cons (qv 4) qa_nil))) (qss_one (qs_ret (qe_tup (qa_cons (qe_tup (qa_cons (qe_S (l := [97, 115, 105, 115]) (by decide +kernel)) (qa_cons (qv 4) (qa_cons (qv 1) (qa_cons (qe_S (l := []) (by decide +kernel)) qa_nil))))) (qa_cons (qe_lst qa_nil) qa_nil))))) qss_nil)
      (qss_cons ⟨ps_setLC (i := 5) sc_at_asis.nd rfl (Or.inl rfl) (lcs (N := N_at_asis) (sc := defScope s_at_asis) rfl rfl rfl (by decide +kernel)) ((qi_str (qv 0))).h (fun _ _ _ _ _ => qts_nil.h) (fun _ _ _ _ _ => ((qe_tup (qa_cons (qe_S (l := [115, 105, 103, 110]) (by decide +kernel)) (qa_cons (qv 0) qa_nil)))).h)⟩
      (qss_cons (qs_if (qt_cmpR op_eq (qv 3) (qe_S (l := [60]) (by decide +kernel)) (nomark _)) (qss_one (qs_ret (qe_tup (qa_cons (qe_tup (qa_cons (qe_S (l := [97, 115, 105, 115]) (by decide +kernel)) (qa_cons (qv 3) (qa_cons (qv 1) (qa_cons (qe_S (l := []) (by decide +kernel)) qa_nil))))) (qa_cons (qv 5) qa_nil))))) qss_nil)
      (qss_one (qs_ret (qe_callF F_come_to hr (by decide) (qa_cons (qe_S (l := [97, 115, 105, 115]) (by decide +kernel)) (qa_cons (qv 1) (qa_cons (qe_op op_cat (qv 5) (qe_lst (qa_cons (qe_tup (qa_cons (qe_S (l := [115, 105, 103, 110]) (by decide +kernel)) (qa_cons (qv 3) qa_nil))) qa_nil))) qa_nil)))))))))))).h, ?_⟩
    walk_at "rd"
    unfold aAsis at k
    refine ⟨by omega, ?_⟩
    by_cases h1 : wd ++ [c] = asisEnd
    · rw [if_pos h1] at k ⊢
      exact fun p hp => ⟨op, ho.mono (same_upd hp), [], evl0, by simp, fun v H' g a => k v H' ((same_upd hp).trans g) (a.imp fun x e => none_of_upd e)⟩
    rw [if_neg h1] at k ⊢
    by_cases h2 : (wd ++ [c]).isPrefixOf asisEnd = true
    · rw [if_pos h2] at k ⊢
      exact fun p hp p1 hp1 p2 hp2 => k _ _ ((same_upd hp).trans ((same_upd hp1).trans (same_upd hp2))) (an_up (same_upd hp1 _ _ upd_same) ((ho.mono (same_upd hp)).mono (same_upd hp1)) evl0 (none_of_upd hp1) hp2)
    rw [if_neg h2] at k ⊢
    refine lc_strG (fun c v H => EvV H v [eSign, [c]]) (fun c v H1 H2 h g => h.mono g) (fun c v H1 D xs ys h hD => ?_) (by rw [PySem.sizeLine_eq]; omega) (fun c _ H1 g R r => ?_) (fun D H2 ys hD g2 hy hG hD2 => ?_)
    · obtain ⟨a, e1, e2⟩ := h
      exact ⟨a, e1, by rw [upd_ne (ne_of e2 hD (by intro z; cases z))]; exact e2⟩
    · walk_at "rd"
      exact fun p hp => r _ _ (same_upd hp) ⟨p, rfl, upd_same⟩
    have he : EvA H2 ys (wd.map fun k => [eSign, [k]]) := evA_of hy hG
    have hel : EvL H2 D (wd.map fun k => [eSign, [k]]) := ⟨ys, hD2, he⟩
    by_cases h3 : c = 60
    · rw [if_pos h3] at k ⊢
      exact fun p hp p1 hp1 => k _ _ (g2.trans ((same_upd hp).trans (same_upd hp1))) (an_up upd_same ((ho.mono g2).mono (same_upd hp)) (hel.mono (same_upd hp)) hD hp1)
    rw [if_neg h3] at k ⊢
    intro p hp p1 hp1
    have g3 := (same_upd (o := .tup [.str (S eSign), .str (S [c])]) hp).trans (same_upd (o := .lst [.ref p]) hp1)
    refine ⟨D, rfl, ys, g3 _ _ hD2, _, upd_same, by rw [hy]; simp; omega, fun p2 hp2 => ?_⟩
    have g4 := g3.trans (same_upd (o := .lst (ys ++ [.ref p])) hp2)
    exact ⟨op, (ho.mono g2).mono g4, _, ⟨_, upd_same, (he.mono g4).app (.cons ⟨p, rfl, same_upd hp2 _ _ (same_upd hp1 _ _ upd_same)⟩ .nil)⟩, fun v H' g a => k v H' (g2.trans (g4.trans g)) (a.imp fun x e => by subst e; exact none_of_same g2 (none_of_upd (none_of_upd hp2)))⟩

end

section
variable {P : Program} {w : World} {K : PySem.W.Frag} {mg : Str → Option Value} {base : Heap} {t : Ads}
theorem ok_moved (T : Txt w K mg t) (D : Df K mg "moved" s_moved ps_moved) (F_at_text : OkF P w K mg base 3 "at_text" ps_at_text sp_at_text) (F_at_mark : OkF P w K mg base 4 "at_mark" ps_at_mark sp_at_mark) (F_at_open : OkF P w K mg base 2 "at_open" ps_at_open sp_at_open) (F_at_name : OkF P w K mg base 4 "at_name" ps_at_name sp_at_name) (F_at_slash : OkF P w K mg base 3 "at_slash" ps_at_slash sp_at_slash) (F_at_shut : OkF P w K mg base 3 "at_shut" ps_at_shut sp_at_shut) (F_at_gap : OkF P w K mg base 2 "at_gap" ps_at_gap sp_at_gap) (F_at_attr : OkF P w K mg base 2 "at_attr" ps_at_attr sp_at_attr) (F_at_is : OkF P w K mg base 2 "at_is" ps_at_is sp_at_is) (F_at_bang : OkF P w K mg base 1 "at_bang" ps_at_bang sp_at_bang) (F_at_bare : OkF P w K mg base 4 "at_bare" ps_at_bare sp_at_bare) (F_at_code : OkF P w K mg base 3 "at_code" ps_at_code sp_at_code) (F_at_row : OkF P w K mg base 3 "at_row" ps_at_row sp_at_row) (F_at_stroke : OkF P w K mg base 3 "at_stroke" ps_at_stroke sp_at_stroke) (F_at_quoted : OkF P w K mg base 3 "at_quoted" ps_at_quoted sp_at_quoted) (F_at_qmark : OkF P w K mg base 4 "at_qmark" ps_at_qmark sp_at_qmark) (F_at_done : OkF P w K mg base 4 "at_done" ps_at_done sp_at_done) (F_at_talk : OkF P w K mg base 5 "at_talk" ps_at_talk sp_at_talk) (F_at_tmark : OkF P w K mg base 5 "at_tmark" ps_at_tmark sp_at_tmark) (F_at_asis : OkF P w K mg base 3 "at_asis" ps_at_asis sp_at_asis) : OkF P w K mg base 6 "moved" ps_moved sp_moved := by
  refine D.ok sc_moved (fun vs H Q E h => ?_) (fun f cdv A outer s H vs Q E hr h => ?_)
  · obtain ⟨_, _, _, rfl, _⟩ := h; rfl
  · obtain ⟨x, st, c, rfl, hst, hw, hop, k⟩ := h
    refine ⟨_, ((qss_cons (qs_set (i := 2) sc_moved.nd (by rfl) (Or.inl (by rfl)) (qe_kget T.d_MODES (qe_ix (ix_tupK (K := K) (by rfl)) (qv 0) qe_int (fun _ _ => (by rfl)))))
      (qss_one (qs_ret (qe_ifExp (qt_cmpR op_isN (qv 2) qe_non (nomark _)) qe_non (qe_callV (k := 5) (qv 2) hr (by decide) (qa_cons (qe_ix (ix_tupK (K := K) (by rfl)) (qv 0) qe_int (fun _ _ => (by rfl))) (qa_cons (qe_ix (ix_tupK (K := K) (by rfl)) (qv 0) qe_int (fun _ _ => (by rfl))) (qa_cons (qe_ix (ix_tupK (K := K) (by rfl)) (qv 0) qe_int (fun _ _ => (by rfl))) (qa_cons (qv 1) qa_nil)))))))))).h, ?_⟩
    walk_at "rd"
    obtain ⟨p, o, rfl, hp, ho⟩ := hst
    have hF : ∀ e ∈ tab2 t, FnV P w K mg base 5 e.2.2 (spA e.2.1) := by
      intro e he
      simp only [tab2, List.mem_cons, List.not_mem_nil, or_false] at he
      rcases he with rfl | rfl | rfl | rfl | rfl | rfl | rfl | rfl | rfl | rfl | rfl | rfl | rfl | rfl | rfl | rfl | rfl | rfl | rfl | rfl
      · exact F_at_text.fnv T.m_at_text (by decide)
      · exact F_at_mark.fnv T.m_at_mark (by decide)
      · exact F_at_open.fnv T.m_at_open (by decide)
      · exact F_at_name.fnv T.m_at_name (by decide)
      · exact F_at_slash.fnv T.m_at_slash (by decide)
      · exact F_at_shut.fnv T.m_at_shut (by decide)
      · exact F_at_gap.fnv T.m_at_gap (by decide)
      · exact F_at_attr.fnv T.m_at_attr (by decide)
      · exact F_at_is.fnv T.m_at_is (by decide)
      · exact F_at_bang.fnv T.m_at_bang (by decide)
      · exact F_at_bare.fnv T.m_at_bare (by decide)
      · exact F_at_code.fnv T.m_at_code (by decide)
      · exact F_at_row.fnv T.m_at_row (by decide)
      · exact F_at_stroke.fnv T.m_at_stroke (by decide)
      · exact F_at_quoted.fnv T.m_at_quoted (by decide)
      · exact F_at_qmark.fnv T.m_at_qmark (by decide)
      · exact F_at_done.fnv T.m_at_done (by decide)
      · exact F_at_talk.fnv T.m_at_talk (by decide)
      · exact F_at_tmark.fnv T.m_at_tmark (by decide)
      · exact F_at_asis.fnv T.m_at_asis (by decide)
    refine ⟨p, rfl, _, SqT.of hp, _, rfl, .inr (S st.mode), rfl, ?_⟩
    unfold stepM at k
    rw [atTab_eq t] at k
    rcases tab_find st.mode (tab2 t) with ⟨e, he, h1, h2⟩ | ⟨h1, h2⟩
    · rw [h2] at k
      unfold mtab
      rw [h1, if_neg (by intro z; cases z)]
      exact ⟨e.2.2, rfl, spA e.2.1, hF e he, p, rfl, _, SqT.of hp, _, rfl, p, rfl, _, SqT.of hp, _, rfl, p, rfl, _, SqT.of hp, _, rfl, st.word, o, st.opens, st.talk, c, rfl, ho, hw, hop, k⟩
    · rw [h2] at k
      unfold mtab
      rw [h1, if_pos (show (none : Option V).getD V.non = V.non from rfl)]
      exact k _ _ (Same.refl H) rfl
theorem ok_begin (T : Txt w K mg t) (D : Df K mg "begin" s_begin ps_begin) : OkF P w K mg base 1 "begin" ps_begin sp_begin := by
  refine D.ok sc_begin (fun vs H Q E h => ?_) (fun f cdv A outer s H vs Q E hr h => ?_)
  · obtain ⟨rfl, _⟩ := h; rfl
  · obtain ⟨rfl, k⟩ := h
    refine ⟨_, ((qss_one (qs_ret (qe_tup (qa_cons (qe_S (l := [116, 101, 120, 116]) (by decide +kernel)) (qa_cons (qe_S (l := []) (by decide +kernel)) (qa_cons (qe_tup qa_nil) (qa_cons (qe_S (l := []) (by decide +kernel)) qa_nil)))))))).h, ?_⟩
    walk_at "rd"
    exact fun p hp p1 hp1 => k _ _ ((same_upd hp).trans (same_upd hp1)) ⟨p1, p, rfl, upd_same, same_upd hp1 _ _ upd_same⟩
theorem ok_step (T : Txt w K mg t) (D : Df K mg "step" s_step ps_step) (F_moved : OkF P w K mg base 6 "moved" ps_moved sp_moved) : OkF P w K mg base 7 "step" ps_step sp_step := by
  refine D.ok sc_step (fun vs H Q E h => ?_) (fun f cdv A outer s H vs Q E hr h => ?_)
  · obtain ⟨_, _, _, rfl, _⟩ := h; rfl
  · obtain ⟨x, st, c, rfl, hst, hw, hop, k⟩ := h
    refine ⟨_, ((qss_one (qs_ret (qe_callF F_moved hr (by decide) (qa_cons (qv 0) (qa_cons (qv 1) qa_nil)))))).h, ?_⟩
    walk_at "rd"
    exact ⟨st, hst, hw, hop, k⟩

end

section
variable {P : Program} {w : World} {K : PySem.W.Frag} {mg : Str → Option Value} {base : Heap} {t : Ads}
theorem ok_law_cell (T : Txt w K mg t) (D : Df K mg "_law_cell" s__law_cell ps__law_cell) : OkF P w K mg base 1 "_law_cell" ps__law_cell (sp__law_cell K) := by
  refine D.ok sc__law_cell (fun vs H Q E h => ?_) (fun f cdv A outer s H vs Q E hr h => ?_)
  · obtain ⟨_, _, _, rfl, _⟩ := h; rfl
  · obtain ⟨a, ns, k, rfl, hS, h63, hk, q⟩ := h
    refine ⟨_, ((qss_cons (qs_if (qt_cmpR op_lt (qv 1) (qe_callB (call_lenLK (K := K) (by rfl)) (by rfl) T.z_len bb_len (qa_cons (qv 0) qa_nil)) (nomark _)) (qss_one (qs_ret (qe_op op_mod (qe_ix (ix_listK (K := K) (by rfl)) (qv 0) (qv 1) (fun _ _ => (by rfl))) (qe_op op_mulI (qe_op op_mulI (qe_op op_pow qe_int qe_int) (qe_op op_pow qe_int qe_int)) (qe_op op_pow qe_int qe_int))))) qss_nil)
      (qss_cons (qs_set (i := 2) sc__law_cell.nd (by rfl) (Or.inl (by rfl)) (qe_op op_add (qe_op op_mulI qe_int (qv 1)) qe_int))
      (qss_cons (qs_if (qt_cmpR op_gt (qe_callB (call_lenLK (K := K) (by rfl)) (by rfl) T.z_len bb_len (qa_cons (qv 0) qa_nil)) qe_int (nomark _)) (qss_one (qs_set (i := 2) sc__law_cell.nd (by rfl) (Or.inl (by rfl)) (qe_op op_add (qe_op op_mulI (qe_op op_mod (qe_ix (ix_listK (K := K) (by rfl)) (qv 0) (qe_op op_mod (qe_op op_mulI (qv 1) qe_int) (qe_callB (call_lenLK (K := K) (by rfl)) (by rfl) T.z_len bb_len (qa_cons (qv 0) qa_nil))) (fun _ _ => (by rfl))) (qe_op op_pow qe_int qe_int)) qe_int) (qe_op op_mulI (qe_op op_mulI (qv 1) (qv 1)) qe_int)))) qss_nil)
      (qss_one (qs_ret (qe_op op_mod (qe_op op_mulI (qe_op op_mod (qv 2) qe_int) qe_int) qe_int))))))).h, ?_⟩
    walk_at "rd"
    refine ⟨_, .inl hS, ?_⟩
    rw [List.length_map]
    by_cases hlt : k < ns.length
    · rw [if_pos (by omega)]
      have hn : ns[k]? = some ns[k] := List.getElem?_eq_getElem hlt
      refine ⟨_, hS, .int ns[k], by rw [List.getElem?_map, hn]; rfl, cpow (by decide), cpow (by decide), (by unfold IntMulOk; decide +kernel), cpow (by decide), (by unfold IntMulOk; decide +kernel), _, rfl, by decide +kernel, q _ H (Same.refl H)⟩
    · rw [if_neg (by omega)]
      refine ⟨mulOk_l (by decide), _, .inl hS, ?_⟩
      rw [List.length_map]
      by_cases h0 : 0 < ns.length
      · rw [if_pos (by omega)]
        obtain ⟨n, e, _⟩ := atI_ints (ns := ns) (i := (k : Int) * 7 % (ns.length : Int)) (mod_nn (by omega)).1 (mod_nn (by omega)).2
        refine ⟨mulOk_r (by decide), _, .inl hS, by rw [List.length_map]; omega, _, hS, .int n, by rw [List.length_map]; exact e, cpow (by decide), n, rfl, by decide +kernel, mulOk_r (by decide), mulOk_l (by omega), mulOk_r (by decide), mulOk_r (by decide), q _ H (Same.refl H)⟩
      · rw [if_neg (by omega)]
        exact ⟨mulOk_r (by decide), q _ H (Same.refl H)⟩
theorem ok_law_mix (T : Txt w K mg t) (D : Df K mg "_law_mix" s__law_mix ps__law_mix) : OkF P w K mg base 1 "_law_mix" ps__law_mix sp__law_mix := by
  refine D.ok sc__law_mix (fun vs H Q E h => ?_) (fun f cdv A outer s H vs Q E hr h => ?_)
  · obtain ⟨_, _, _, rfl, _⟩ := h; rfl
  · obtain ⟨c, k, m, rfl, hk0, hk, hm, q⟩ := h
    refine ⟨_, ((qss_cons (qs_if (QW.qt (qw_and (qt_cmpR op_eq (qe_op op_mod (qv 0) qe_int) qe_int (nomark _)) (qw_and (qt_cmpR op_gt (qv 0) (qe_op op_pow qe_int qe_int) (nomark _)) (qw_and1 (qt_cmpR op_gt (qe_op op_shr (qv 0) (qe_op op_add (qe_op op_mulI qe_int (qv 1)) qe_int)) qe_int (nomark _)))))) (qss_one (qs_ret (qe_op op_mod (qe_op op_shr (qv 0) (qe_op op_add (qe_op op_mulI qe_int (qv 1)) qe_int)) (qv 2)))) qss_nil)
      (qss_cons (qs_set (i := 3) sc__law_mix.nd (by rfl) (Or.inl (by rfl)) (qe_ix (ix_listK (K := K) (by rfl)) (qe_lst (qa_cons qe_int (qa_cons qe_int (qa_cons qe_int (qa_cons qe_int (qa_cons qe_int (qa_cons qe_int (qa_cons qe_int (qa_cons qe_int qa_nil))))))))) (qe_op op_mod (qv 1) qe_int) (fun _ _ => (by rfl))))
      (qss_cons (qs_set (i := 4) sc__law_mix.nd (by rfl) (Or.inl (by rfl)) (qe_ix (ix_listK (K := K) (by rfl)) (qe_lst (qa_cons qe_int (qa_cons qe_int (qa_cons qe_int (qa_cons qe_int (qa_cons qe_int (qa_cons qe_int (qa_cons qe_int qa_nil)))))))) (qe_op op_mod (qv 1) qe_int) (fun _ _ => (by rfl))))
      (qss_cons (qs_set (i := 5) sc__law_mix.nd (by rfl) (Or.inl (by rfl)) (qe_op op_mod (qe_op op_mulI (qe_op op_add (qe_op op_mod (qe_op op_addA (qv 0) (qe_op op_mulI (qe_op op_mulI (qv 1) (qv 1)) (qv 1))) qe_int) qe_int) (qv 3)) qe_int))
      (qss_one (qs_ret (qe_op op_mod (qe_op op_mod (qe_op op_mulI (qe_op op_add (qv 5) qe_int) (qv 4)) qe_int) (qv 2))))))))).h, ?_⟩
    have fin : ∀ (v : Int) (H' : Hp), Same H H' → Q (.int (v % m)) H' := fun v H' g => by
      have h1 := mod_nn (a := v) (m := m) hm
      have := q (v % m).toNat H' (by omega) g
      rw [Int.toNat_of_nonneg h1.1] at this
      exact this
    refine seq_if ?_ fun N hN => ?_
    · walk_at "rd"
      refine fun p hp => ⟨_, SqL.of upd_same, ?_⟩
      obtain ⟨n1, e1, _⟩ := atI_ints (ns := [1000000007, 1181783503, 1372345291, 1518500279, 1636201513, 1734723539, 1871234567, 2012345681]) (i := k % 8) (mod_nn (by decide)).1 (mod_nn (by decide)).2
      refine ⟨_, e1, fun p2 hp2 => ⟨_, SqL.of upd_same, ?_⟩⟩
      obtain ⟨n2, e2, _⟩ := atI_ints (ns := [100000000003, 223606797763, 314159265359, 414213562379, 577215664943, 693147180563, 732050807573]) (i := k % 7) (mod_nn (by decide)).1 (mod_nn (by decide)).2
      refine ⟨_, e2, ?_⟩
      have g : Same H (upd (upd H p (.lst [V.int 1000000007, V.int 1181783503, V.int 1372345291, V.int 1518500279, V.int 1636201513, V.int 1734723539, V.int 1871234567, V.int 2012345681])) p2 (.lst [V.int 100000000003, V.int 223606797763, V.int 314159265359, V.int 414213562379, V.int 577215664943, V.int 693147180563, V.int 732050807573])) := (same_upd hp).trans (same_upd hp2)
      have m1 := mod_nn (a := c + k * k * k) (m := 1000000000039) (by decide)
      refine ⟨mulOk_l (by omega), mulOk_r (by omega), n1, rfl, mulOk_l (by omega), n2, rfl, mulOk_l ?_, hm, fin _ _ g⟩
      have m2 := mod_nn (a := ((c + k * k * k) % 1000000000039 + 1) * n1) (m := 2147483629) (by decide)
      omega
    · walk_at "rd"
      by_cases h1 : c % 2 = 0
      · rw [if_pos h1]
        refine ⟨cpow (by decide), ?_⟩
        split
        · refine ⟨mulOk_l (by decide), by omega, ?_⟩
          split
          · exact ⟨mulOk_l (by decide), by omega, hm, fin _ H (Same.refl H)⟩
          · exact hN
        · exact hN
      · rw [if_neg h1]
        exact hN
theorem ok_law_signs (T : Txt w K mg t) (D : Df K mg "_law_signs" s__law_signs ps__law_signs) : OkF P w K mg base 1 "_law_signs" ps__law_signs sp__law_signs := by
  refine D.ok sc__law_signs (fun vs H Q E h => ?_) (fun f cdv A outer s H vs Q E hr h => ?_)
  · obtain ⟨rfl, _⟩ := h; rfl
  · obtain ⟨rfl, q⟩ := h
    refine ⟨_, ((qss_cons (qs_set (i := 0) sc__law_signs.nd (by rfl) (Or.inl (by rfl)) (qe_S (l := [32, 33, 34, 35, 36, 38, 39, 40, 41, 42, 43, 44, 45, 46, 47, 48, 49, 50, 51, 52, 53, 54, 55, 56, 57, 58, 59, 60, 61, 62, 63, 64, 65, 66, 67, 68, 69, 70, 71, 72, 73, 74, 75, 76, 77, 78, 79, 80, 81, 82, 83, 84, 85, 86, 87, 88, 89, 90]) (by decide +kernel)))
      (qss_one (qs_ret (qe_op op_addS (qv 0) (qe_S (l := [91, 92, 93, 94, 95, 96, 97, 98, 99, 100, 101, 102, 103, 104, 105, 106, 107, 108, 109, 110, 111, 112, 113, 114, 115, 116, 117, 118, 119, 120, 121, 122, 123, 124, 125, 126]) (by decide +kernel))))))).h, ?_⟩
    walk_at "rd"
    exact q H (Same.refl H)

end

section
variable {P : Program} {w : World} {K : PySem.W.Frag} {mg : Str → Option Value} {base : Heap} {t : Ads}
def contM (es : List Ev) (i : Nat) : Except Nat (MS × List Ev) → Except Nat (MS × List Ev)
  | .error n => .error (n + i)
  | .ok (s', fs) => .ok (s', es ++ fs)
theorem contM_0 (r : Except Nat (MS × List Ev)) : contM [] 0 r = r := by
  cases r with
  | error n => rfl
  | ok r => cases r; rfl
theorem contM_step {s s' : MS} {c : Nat} {r : List Nat} {es fs : List Ev} {i : Nat} (h : stepM s c = some (s', fs)) : contM es i (runM s (c :: r)) = contM (es ++ fs) (i + 1) (runM s' r) := by
  simp only [runM, h]
  cases runM s' r with
  | error n => simp only [contM]; congr 1; omega
  | ok q => obtain ⟨s2, gs⟩ := q; simp only [contM, List.append_assoc]
theorem contM_stop {s : MS} {c : Nat} {r : List Nat} {es : List Ev} {i : Nat} (h : stepM s c = none) : contM es i (runM s (c :: r)) = .error i := by
  simp only [runM, h, contM, Nat.zero_add]
def rInv (x : V) (st : MS) (l : List Nat) (p : Addr) (H : Hp) (i : Nat) (σ : L2.St) (H' : Hp) : Prop := ∃ (v : V) (s : MS) (es : List Ev) (o4 o5 o6 : Option V), σ = [some x, some (V.str (S l)), some v, some (V.ref p), o4, o5, o6] ∧ Same H H' ∧ StV H' v s ∧ EvL H' p es ∧ s.word.length ≤ 8 ∧ s.opens.length ≤ st.opens.length + i ∧ es.length ≤ 10 * i ∧ runM st l = contM es i (runM s (l.drop i))
theorem ok_run (T : Txt w K mg t) (D : Df K mg "run" s_run ps_run) (F_step : OkF P w K mg base 7 "step" ps_step sp_step) (R_Unread : Err P w K mg base "Unread" t.Unread "at" payT) : OkX P w K mg base 8 "run" ps_run (sp_run t) := by
  refine D.okX sc_run (fun vs H Q E h => ?_) (fun f cdv A outer s H vs Q E hr h => ?_)
  · obtain ⟨_, _, _, rfl, _⟩ := h; rfl
  · obtain ⟨x, st, l, rfl, hst, hw, hl, k, kx⟩ := h
    refine ⟨_, ((qss_cons (qs_set (i := 2) sc_run.nd (by rfl) (Or.inl (by rfl)) (qv 0))
      (qss_cons (qs_set (i := 3) sc_run.nd (by rfl) (Or.inl (by rfl)) (qe_lst qa_nil))
      (qss_cons (qs_for PassesOwn.leaving (by rfl) (qi_enumS (by rfl) T.z_enumerate (qa_cons (qv 1) qa_nil)) (qg_tup (n := 2) (by rfl) (qgs_cons (qg_name (i := 4) sc_run.nd (by rfl) (Or.inl (by rfl))) (qgs_cons (qg_name (i := 5) sc_run.nd (by rfl) (Or.inl (by rfl))) qgs_nil))) (qss_cons (qs_set (i := 6) sc_run.nd (by rfl) (Or.inl (by rfl)) (qe_callF F_step hr (by decide) (qa_cons (qv 2) (qa_cons (qv 5) qa_nil))))
      (qss_cons (qs_if (qt_cmpR op_isN (qv 6) qe_non (nomark _)) (qss_one (qs_raise thr_leave R_Unread hr (by decide) (qa_cons (qv 4) qa_nil))) qss_nil)
      (qss_cons (qs_set (i := 2) sc_run.nd (by rfl) (Or.inl (by rfl)) (qe_ix (ix_tupK (K := K) (by rfl)) (qv 6) qe_int (fun _ _ => (by rfl))))
      (qss_one (qs_expr (qe_bmK (K := K) (by rfl) PySem.F.plainAttrs_list PySem.F.slot_list_extend PySem.F.type_list_extend mt_extend (qv 3) (qa_cons (qe_ix (ix_tupK (K := K) (by rfl)) (qv 6) qe_int (fun _ _ => (by rfl))) qa_nil))))))))
      (qss_one (qs_ret (qe_tup (qa_cons (qv 2) (qa_cons (qv 3) qa_nil))))))))).h, ?_⟩
    walk_at "rd"
    intro p hp
    refine fb_enumS (K := K) (rInv x st l p H) ⟨x, st, [], none, none, none, rfl, same_upd hp, hst.mono (same_upd hp), evl0, hw, by omega, by simp, by rw [List.drop_zero, contM_0]⟩ ?_ ?_
    · rintro i c σ H1 hi ⟨v, s, es, o4, o5, o6, rfl, g1, hs, he, hw1, ho1, hl1, hr⟩ p1 hp1
      have hil := (List.getElem?_eq_some_iff.mp hi).1
      have ed : l.drop i = c :: l.drop (i + 1) := by rw [List.drop_eq_getElem_cons hil, (List.getElem?_eq_some_iff.mp hi).2]
      rw [ed] at hr
      walk_at "rd"
      have g2 := g1.trans (same_upd (o := .tup [.int i, .str (S [c])]) hp1)
      refine ⟨s, hs.mono (same_upd hp1), by omega, by omega, fun v2 H2 g3 a => ?_⟩
      cases hq : stepM s c with
      | none =>
        rw [hq] at a
        have a : v2 = .non := a
        subst a
        rw [if_pos rfl]
        exact ⟨.inl ⟨_, rfl, by omega, by omega⟩, fun d H3 s3 _ e => kx i (by rw [hr, contM_stop hq]) d H3 (g2.trans (g3.trans s3)) e⟩
      | some r =>
        obtain ⟨s', fs⟩ := r
        rw [hq] at a
        obtain ⟨q, sa, ea, rfl, hq1, hs1, he1, hg⟩ := a
        obtain ⟨b1, b2, b3⟩ := step_ok s c s' fs hq hw1
        obtain ⟨vs, e1, e2⟩ := he
        obtain ⟨us, f1, f2⟩ := he1
        have e1' := g3 _ _ (same_upd hp1 _ _ e1)
        rw [if_neg (by intro z; cases z)]
        have l1 := e2.len
        have l2 := f2.len
        refine ⟨q, rfl, _, SqT.of hq1, _, rfl, .inl ⟨rfl, _, SqL.of e1'⟩, q, rfl, _, SqT.of hq1, _, rfl, ea, rfl, vs, e1', us, f1, by omega, ?_⟩
        refine ⟨sa, s', es ++ fs, _, _, _, rfl, ?_, hs1.updL e1', ⟨_, upd_same, ((e2.mono ((same_upd hp1).trans g3)).updL e1').app (f2.updL e1')⟩, b1, by omega, by rw [List.length_append]; omega, by rw [hr, contM_step hq]⟩
        intro b o e
        rw [upd_ne (ne_of_none e hp)]
        exact g3 _ _ (g2 _ _ e)
    · rintro σ H1 ⟨v, s, es, o4, o5, o6, rfl, g1, hs, he, hw1, ho1, hl1, hr⟩
      rw [List.drop_length] at hr
      walk_at "rd"
      intro p2 hp2
      refine k s es (by rw [hr]; simp only [runM, contM, List.append_nil]) _ _ (g1.trans (same_upd hp2)) ?_
      exact ⟨p2, v, p, rfl, upd_same, hs.mono (same_upd hp2), he.mono (same_upd hp2), hp⟩

end

section
variable {P : Program} {w : World} {K : PySem.W.Frag} {mg : Str → Option Value} {base : Heap} {t : Ads}
theorem drawnL {ys : List V} {n : Nat} {P : Nat → Prop} (hl : ys.length = n) (h : ∀ (i : Nat) v, ys[i]? = some v → ∃ c, P c ∧ v = V.str (S [c])) :
    ∃ t : List Nat, t.length = n ∧ (∀ c ∈ t, P c) ∧ ys = (t.map fun c => [c]).map (fun l => V.str (S l)) := by
  induction ys generalizing n with
  | nil => exact ⟨[], hl, by simp, rfl⟩
  | cons y ys ih =>
    obtain ⟨c, hc, rfl⟩ := h 0 y rfl
    obtain ⟨t, e1, e2, e3⟩ := ih (n := ys.length) rfl fun i v e => h (i + 1) v (by simpa using e)
    refine ⟨c :: t, by rw [List.length_cons, e1, ← hl]; rfl, fun d hd => ?_, by rw [e3]; rfl⟩
    rcases List.mem_cons.mp hd with rfl | hd
    · exact hc
    · exact e2 d hd
theorem ok_law_name (T : Txt w K mg t) (D : Df K mg "_law_name" s__law_name ps__law_name) (F__law_mix : OkF P w K mg base 1 "_law_mix" ps__law_mix sp__law_mix) : OkF P w K mg base 2 "_law_name" ps__law_name sp__law_name := by
  refine D.ok sc__law_name (fun vs H Q E h => ?_) (fun f cdv A outer s H vs Q E hr h => ?_)
  · obtain ⟨_, rfl, _⟩ := h; rfl
  · obtain ⟨c, rfl, q⟩ := h
    refine ⟨_, ((qss_cons (qs_set (i := 1) sc__law_name.nd (by rfl) (Or.inr (by rfl)) (qe_S (l := [97, 98, 99, 100, 101, 102, 103, 104, 105, 106, 107, 108, 109, 110, 111, 112, 113, 114, 115, 116, 117, 118, 119, 120, 121, 122]) (by decide +kernel)))
      (qss_cons (qs_set (i := 2) sc__law_name.nd (by rfl) (Or.inl (by rfl)) (qe_bmK (K := K) (by rfl) PySem.F.plainAttrs_str PySem.F.slot_str_join PySem.F.type_str_join (mt_joinSK (K := K) (by rfl)) (qe_S (l := []) (by decide +kernel)) (qa_cons ⟨pe_lc (lcs (N := N__law_name) (sc := defScope s__law_name) rfl rfl rfl (by decide +kernel)) ((qi_range1 (by rfl) T.z_range (qa_cons (qe_op op_add qe_int (qe_callF F__law_mix hr (by decide) (qa_cons (qv 0) (qa_cons qe_int (qa_cons qe_int qa_nil))))) qa_nil))).h (fun _ _ _ _ _ => qts_nil.h) (fun _ _ _ _ _ => ((qe_ix ix_S (qv 2) (qe_callF F__law_mix hr (by decide) (qa_cons (qv 1) (qa_cons (qe_op op_add qe_int (qv 0)) (qa_cons qe_int qa_nil)))) (fun _ _ => (by rfl)))).h)⟩ qa_nil)))
      (qss_cons (qs_if (qt_cmpR op_eq (qv 2) (qe_S (l := [97, 115, 105, 115]) (by decide +kernel)) (nomark _)) (qss_one (qs_ret (qe_S (l := [97, 115, 105]) (by decide +kernel)))) qss_nil)
      (qss_one (qs_ret (qe_ix (ix_listK (K := K) (by rfl)) (qe_lst (qa_cons (qe_S (l := [97]) (by decide +kernel)) (qa_cons (qe_S (l := [97, 98]) (by decide +kernel)) (qa_cons (qe_S (l := [97, 98, 99]) (by decide +kernel)) (qa_cons (qe_S (l := [97, 115, 105, 115, 97]) (by decide +kernel)) (qa_cons (qv 2) (qa_cons (qv 2) (qa_cons (qv 2) qa_nil)))))))) (qe_callF F__law_mix hr (by decide) (qa_cons (qv 0) (qa_cons qe_int (qa_cons qe_int qa_nil)))) (fun _ _ => (by rfl))))))))).h, ?_⟩
    walk_at "rd"
    intro n H1 hn g1
    refine ⟨by omega, by omega, ?_⟩
    refine lc_range (fun _ v => ∃ c, c ∈ lt ∧ v = V.str (S [c])) (by rw [PySem.sizeLine_eq]; omega) (fun i hi H2 g2 R r => ?_) (fun D H2 ys hD g2 hy hG e => ?_)
    · walk_at "rd"
      refine ⟨by omega, by omega, fun v H3 hv g3 => ?_⟩
      have hv' : v < lt.length := by simp; omega
      exact ⟨lt[v], List.getElem?_eq_getElem hv', r _ H3 ⟨_, List.getElem_mem hv', rfl⟩ g3⟩
    · obtain ⟨wd, e1, e2, e3⟩ := drawnL hy hG
      refine ⟨D, rfl, wd.map fun c => [c], SqL.of (by rw [e, e3]), ?_, ?_⟩
      · rw [flat_ones]; omega
      · rw [flat_ones]
        have nw : NmOk wd := ⟨by omega, by omega, e2⟩
        by_cases h1 : wd = mAsis
        · rw [if_pos h1]
          exact q _ _ ⟨by decide, by decide, by decide⟩ (by decide) (g1.trans g2)
        · rw [if_neg h1]
          intro p hp v H3 hv g3
          have G := g1.trans (g2.trans ((same_upd hp).trans g3))
          refine ⟨_, SqL.of (g3 _ _ upd_same), ?_⟩
          have : v = 0 ∨ v = 1 ∨ v = 2 ∨ v = 3 ∨ v = 4 ∨ v = 5 ∨ v = 6 := by omega
          rcases this with rfl | rfl | rfl | rfl | rfl | rfl | rfl
          · exact ⟨_, rfl, q _ _ ⟨by decide, by decide, by decide⟩ (by decide) G⟩
          · exact ⟨_, rfl, q _ _ ⟨by decide, by decide, by decide⟩ (by decide) G⟩
          · exact ⟨_, rfl, q _ _ ⟨by decide, by decide, by decide⟩ (by decide) G⟩
          · exact ⟨_, rfl, q _ _ ⟨by decide, by decide, by decide⟩ (by decide) G⟩
          · exact ⟨_, rfl, q _ _ nw h1 G⟩
          · exact ⟨_, rfl, q _ _ nw h1 G⟩
          · exact ⟨_, rfl, q _ _ nw h1 G⟩

end

section
variable {P : Program} {w : World} {K : PySem.W.Frag} {mg : Str → Option Value} {base : Heap} {t : Ads}
theorem ok_number_of (T : Txt w K mg t) (D : Df K mg "number_of" s_number_of ps_number_of) : OkF P w K mg base 1 "number_of" ps_number_of sp_number_of := by
  refine D.ok sc_number_of (fun vs H Q E h => ?_) (fun f cdv A outer s H vs Q E hr h => ?_)
  · obtain ⟨c, rfl, _⟩ := h; rfl
  · obtain ⟨c, rfl, hc, k⟩ := h
    refine ⟨_, ((qss_one (qs_ret (qe_bmK (K := K) (by rfl) PySem.F.plainAttrs_str PySem.F.slot_str_index PySem.F.type_str_index mt_indexS (qe_gl T.g_SIGNS) (qa_cons (qv 0) qa_nil))))).h, ?_⟩
    walk_at "rd"
    refine ⟨hc, fun i hi => ?_⟩
    rw [ix_of hi]
    exact k H (Same.refl H)
theorem ok_figures_of (T : Txt w K mg t) (D : Df K mg "figures_of" s_figures_of ps_figures_of) : OkF P w K mg base 1 "figures_of" ps_figures_of sp_figures_of := by
  refine D.ok sc_figures_of (fun vs H Q E h => ?_) (fun f cdv A outer s H vs Q E hr h => ?_)
  · obtain ⟨c, rfl, _⟩ := h; rfl
  · obtain ⟨n, rfl, hn, k⟩ := h
    refine ⟨_, ((qss_one (qs_ret (qe_bmK (K := K) (by rfl) PySem.F.plainAttrs_str PySem.F.slot_str_zfill PySem.F.type_str_zfill mt_zfillS (qe_callTy call_strS (by rfl) T.z_str bb_str (qa_cons (qv 0) qa_nil)) (qa_cons qe_int qa_nil))))).h, ?_⟩
    walk_at "rd"
    exact ⟨by omega, n, rfl, by omega, k H (Same.refl H)⟩
theorem ok_mark_of (T : Txt w K mg t) (D : Df K mg "mark_of" s_mark_of ps_mark_of) (F_number_of : OkF P w K mg base 1 "number_of" ps_number_of sp_number_of) (F_figures_of : OkF P w K mg base 1 "figures_of" ps_figures_of sp_figures_of) : OkF P w K mg base 2 "mark_of" ps_mark_of sp_mark_of := by
  refine D.ok sc_mark_of (fun vs H Q E h => ?_) (fun f cdv A outer s H vs Q E hr h => ?_)
  · obtain ⟨c, rfl, _⟩ := h; rfl
  · obtain ⟨c, rfl, hc, k⟩ := h
    refine ⟨_, ((qss_one (qs_ret (qe_op op_addS (qe_op op_addS (qe_S (l := [38]) (by decide +kernel)) (qe_callF F_figures_of hr (by decide) (qa_cons (qe_callF F_number_of hr (by decide) (qa_cons (qv 0) qa_nil)) qa_nil))) (qe_S (l := [59]) (by decide +kernel)))))).h, ?_⟩
    walk_at "rd"
    refine ⟨hc, fun H1 g1 => ⟨ix_lt hc, fun H2 g2 => ⟨by simp [dg2], by simp [dg2], k H2 (g1.trans g2)⟩⟩⟩
theorem ok_marked (T : Txt w K mg t) (D : Df K mg "marked" s_marked ps_marked) (F_mark_of : OkF P w K mg base 2 "mark_of" ps_mark_of sp_mark_of) : OkF P w K mg base 3 "marked" ps_marked sp_marked := by
  refine D.ok sc_marked (fun vs H Q E h => ?_) (fun f cdv A outer s H vs Q E hr h => ?_)
  · obtain ⟨c, _, rfl, _⟩ := h; rfl
  · obtain ⟨t, sh, rfl, hl, hc, k⟩ := h
    refine ⟨_, ((qss_one (qs_ret (qe_bmK (K := K) (by rfl) PySem.F.plainAttrs_str PySem.F.slot_str_join PySem.F.type_str_join (mt_joinSK (K := K) (by rfl)) (qe_S (l := []) (by decide +kernel)) (qa_cons ⟨pe_lc (lcs (N := N_marked) (sc := defScope s_marked) rfl rfl rfl (by decide +kernel)) ((qi_str (qv 0))).h (fun _ _ _ _ _ => qts_nil.h) (fun _ _ _ _ _ => ((qe_ifExp (QW.qt (qw_or (qt_cmpR op_eq (qv 0) (qe_S (l := [38]) (by decide +kernel)) (nomark _)) (qw_or1 (qt_cmpR op_inS (qv 0) (qv 2) (by rfl))))) (qe_callF F_mark_of hr (by decide) (qa_cons (qv 0) qa_nil)) (qv 0))).h)⟩ qa_nil))))).h, ?_⟩
    walk_at "rd"
    refine lc_str (fun _ => true) (fun c => .str (S (mk1 sh c))) (by rw [PySem.sizeLine_eq]; omega) (fun c _ H1 g R r => r H1 (Same.refl H1)) (fun c hm _ H1 g R r => ?_) (fun D H2 hD g e => ?_)
    · walk_at "rd"
      by_cases h1 : c = 38
      · rw [if_pos (by simp [h1])]
        refine ⟨hc c hm, fun H2 g2 => ?_⟩
        have e : mk1 sh c = 38 :: (dg2 (ix c) ++ [59]) := by unfold mk1; rw [if_pos (.inl h1)]
        have := r H2 g2
        rw [e] at this
        exact this
      · rw [if_neg (by simp [h1])]
        by_cases h2 : c ∈ sh
        · rw [if_pos (by simp [h2])]
          refine ⟨hc c hm, fun H2 g2 => ?_⟩
          have e : mk1 sh c = 38 :: (dg2 (ix c) ++ [59]) := by unfold mk1; rw [if_pos (.inr h2)]
          have := r H2 g2
          rw [e] at this
          exact this
        · rw [if_neg (by simp [h2])]
          have e : mk1 sh c = [c] := by unfold mk1; rw [if_neg (by rintro (z | z); exact h1 z; exact h2 z)]
          have := r H1 (Same.refl H1)
          rw [e] at this
          exact this
    · have e2 : t.filter (fun _ => true) = t := List.filter_eq_self.mpr fun _ _ => rfl
      rw [e2] at e
      refine ⟨D, rfl, t.map (mk1 sh), .inl (.inl ?_), ?_, k H2 g⟩
      · rw [e, List.map_map]; rfl
      · have := mkL_len sh t
        unfold mkL at this
        omega
theorem ok_stroked (T : Txt w K mg t) (D : Df K mg "stroked" s_stroked ps_stroked) : OkF P w K mg base 1 "stroked" ps_stroked sp_stroked := by
  refine D.ok sc_stroked (fun vs H Q E h => ?_) (fun f cdv A outer s H vs Q E hr h => ?_)
  · obtain ⟨_, _, rfl, _⟩ := h; rfl
  · obtain ⟨t, sh, rfl, hl, k⟩ := h
    refine ⟨_, ((qss_one (qs_ret (qe_bmK (K := K) (by rfl) PySem.F.plainAttrs_str PySem.F.slot_str_join PySem.F.type_str_join (mt_joinSK (K := K) (by rfl)) (qe_S (l := []) (by decide +kernel)) (qa_cons ⟨pe_lc (lcs (N := N_stroked) (sc := defScope s_stroked) rfl rfl rfl (by decide +kernel)) ((qi_str (qv 0))).h (fun _ _ _ _ _ => qts_nil.h) (fun _ _ _ _ _ => ((qe_ifExp (QW.qt (qw_or (qt_cmpR op_eq (qv 0) (qe_S (l := [92]) (by decide +kernel)) (nomark _)) (qw_or1 (qt_cmpR op_inS (qv 0) (qv 2) (by rfl))))) (qe_op op_addS (qe_S (l := [92]) (by decide +kernel)) (qv 0)) (qv 0))).h)⟩ qa_nil))))).h, ?_⟩
    walk_at "rd"
    refine lc_str (fun _ => true) (fun c => .str (S (st1 sh c))) (by rw [PySem.sizeLine_eq]; omega) (fun c _ H1 g R r => r H1 (Same.refl H1)) (fun c hm _ H1 g R r => ?_) (fun D H2 hD g e => ?_)
    · walk_at "rd"
      have := r H1 (Same.refl H1)
      by_cases h1 : c = 92
      · rw [if_pos h1]
        unfold st1 at this
        rw [if_pos (.inl h1)] at this
        exact this
      · rw [if_neg h1]
        by_cases h2 : c ∈ sh
        · rw [if_pos h2]
          unfold st1 at this
          rw [if_pos (.inr h2)] at this
          exact this
        · rw [if_neg h2]
          unfold st1 at this
          rw [if_neg (by rintro (z | z); exact h1 z; exact h2 z)] at this
          exact this
    · have e2 : t.filter (fun _ => true) = t := List.filter_eq_self.mpr fun _ _ => rfl
      rw [e2] at e
      refine ⟨D, rfl, t.map (st1 sh), .inl (.inl ?_), ?_, k H2 g⟩
      · rw [e, List.map_map]; rfl
      · have := stL_len sh t
        unfold stL at this
        omega
theorem ok_code_of (T : Txt w K mg t) (D : Df K mg "code_of" s_code_of ps_code_of) (F_number_of : OkF P w K mg base 1 "number_of" ps_number_of sp_number_of) (F_figures_of : OkF P w K mg base 1 "figures_of" ps_figures_of sp_figures_of) : OkF P w K mg base 2 "code_of" ps_code_of sp_code_of := by
  refine D.ok sc_code_of (fun vs H Q E h => ?_) (fun f cdv A outer s H vs Q E hr h => ?_)
  · obtain ⟨_, rfl, _⟩ := h; rfl
  · obtain ⟨c, rfl, hc, k⟩ := h
    refine ⟨_, ((qss_one (qs_ret (qe_op op_addS (qe_S (l := [126]) (by decide +kernel)) (qe_callF F_figures_of hr (by decide) (qa_cons (qe_callF F_number_of hr (by decide) (qa_cons (qv 0) qa_nil)) qa_nil)))))).h, ?_⟩
    walk_at "rd"
    refine ⟨hc, fun H1 g1 => ⟨ix_lt hc, fun H2 g2 => ⟨by simp [dg2], k H2 (g1.trans g2)⟩⟩⟩
theorem ok_worded (T : Txt w K mg t) (D : Df K mg "worded" s_worded ps_worded) (F_code_of : OkF P w K mg base 2 "code_of" ps_code_of sp_code_of) : OkF P w K mg base 3 "worded" ps_worded sp_worded := by
  refine D.ok sc_worded (fun vs H Q E h => ?_) (fun f cdv A outer s H vs Q E hr h => ?_)
  · obtain ⟨_, rfl, _⟩ := h; rfl
  · obtain ⟨t, rfl, hl, hc, k⟩ := h
    refine ⟨_, ((qss_one (qs_ret (qe_bmK (K := K) (by rfl) PySem.F.plainAttrs_str PySem.F.slot_str_join PySem.F.type_str_join (mt_joinSK (K := K) (by rfl)) (qe_S (l := []) (by decide +kernel)) (qa_cons ⟨pe_lc (lcs (N := N_worded) (sc := defScope s_worded) rfl rfl rfl (by decide +kernel)) ((qi_str (qv 0))).h (fun _ _ _ _ _ => qts_nil.h) (fun _ _ _ _ _ => ((qe_ifExp (qt_cmpR op_inS (qv 0) (qe_gl T.g_WORDSIGNS) (by rfl)) (qv 0) (qe_callF F_code_of hr (by decide) (qa_cons (qv 0) qa_nil)))).h)⟩ qa_nil))))).h, ?_⟩
    walk_at "rd"
    refine lc_str (fun _ => true) (fun c => .str (S (wd1 c))) (by rw [PySem.sizeLine_eq]; omega) (fun c _ H1 g R r => r H1 (Same.refl H1)) (fun c hm _ H1 g R r => ?_) (fun D H2 hD g e => ?_)
    · walk_at "rd"
      by_cases h1 : c ∈ ws
      · rw [if_pos h1]
        have := r H1 (Same.refl H1)
        unfold wd1 at this
        rw [if_pos h1] at this
        exact this
      · rw [if_neg h1]
        refine ⟨hc c hm, fun H2 g2 => ?_⟩
        have := r H2 g2
        unfold wd1 at this
        rw [if_neg h1] at this
        exact this
    · have e2 : t.filter (fun _ => true) = t := List.filter_eq_self.mpr fun _ _ => rfl
      rw [e2] at e
      refine ⟨D, rfl, t.map wd1, .inl (.inl ?_), ?_, k H2 g⟩
      · rw [e, List.map_map]; rfl
      · have := wdL_len t
        unfold wdL at this
        omega

end

section
variable {P : Program} {w : World} {K : PySem.W.Frag} {mg : Str → Option Value} {base : Heap} {t : Ads}
def nInv (l : List Nat) (H : Hp) (i : Nat) (σ : L2.St) (H' : Hp) : Prop := ∃ o1 o2 : Option V, σ = [some (.str (S l)), o1, o2] ∧ (∀ c ∈ l.take i, c ∈ sg) ∧ Same H H'
theorem ok_need_text (T : Txt w K mg t) (D : Df K mg "need_text" s_need_text ps_need_text) (R_NoSign : Err P w K mg base "NoSign" t.NoSign "at" payT) : OkX P w K mg base 3 "need_text" ps_need_text (sp_need_text K t) := by
  refine D.okX sc_need_text (fun vs H Q E h => ?_) (fun f cdv A outer s H vs Q E hr h => ?_)
  · obtain ⟨_, _, rfl, _⟩ := h; rfl
  · obtain ⟨x, r, rfl, hR, k, kx⟩ := h
    refine ⟨_, ((qss_cons (qs_if (qt_not (qt_val (qe_callB (call_isstrAK (K := K) (by rfl)) (by rfl) T.z_isinstance bb_isinstance (qa_cons (qv 0) (qa_cons (qe_blt (v := .ty "str") T.z_str bb_str (by rfl)) qa_nil))))) (qss_one (qs_raise thr_leave R_NoSign hr (by decide) (qa_cons qe_int qa_nil))) qss_nil)
      (qss_cons (qs_for PassesOwn.leaving (by rfl) (qi_enumS (by rfl) T.z_enumerate (qa_cons (qv 0) qa_nil)) (qg_tup (n := 2) (by rfl) (qgs_cons (qg_name (i := 1) sc_need_text.nd (by rfl) (Or.inl (by rfl))) (qgs_cons (qg_name (i := 2) sc_need_text.nd (by rfl) (Or.inl (by rfl))) qgs_nil))) (qss_one (qs_if (qt_cmpR op_notinS (qv 2) (qe_gl T.g_SIGNS) (by rfl)) (qss_one (qs_raise thr_leave R_NoSign hr (by decide) (qa_cons (qv 1) qa_nil))) qss_nil)))
      (qss_one (qs_ret (qv 0)))))).h, ?_⟩
    walk_at "rd"
    rcases hR with ⟨l, rfl, hl, rfl⟩ | ⟨hN, rfl⟩
    · refine .inl ⟨⟨_, rfl⟩, _, rfl, ?_⟩
      refine fb_enumS (nInv l H) ⟨none, none, rfl, by simp, Same.refl H⟩ ?_ ?_
      · rintro i c σ H1 hi ⟨o1, o2, rfl, ha, g1⟩ p hp
        have hil := (List.getElem?_eq_some_iff.mp hi).1
        walk_at "rd"
        by_cases hc : c ∈ sg
        · rw [if_neg (by simp [hc])]
          refine ⟨_, _, rfl, ?_, g1.trans (same_upd hp)⟩
          rw [take_snoc hi]
          intro d hd
          rcases List.mem_append.mp hd with z | z
          · exact ha d z
          · rw [List.mem_singleton.mp z]; exact hc
        · rw [if_pos (by simp [hc])]
          refine ⟨.inl ⟨_, rfl, by omega, by omega⟩, fun d H2 s2 _ e => kx i ?_ d H2 (g1.trans ((same_upd hp).trans s2)) e⟩
          unfold fb
          rw [List.findIdx?_eq_some_iff_getElem]
          refine ⟨hil, by rw [(List.getElem?_eq_some_iff.mp hi).2]; simp [hc], fun j hj => ?_⟩
          have : l[j] ∈ l.take i := by
            rw [List.mem_take_iff_getElem]
            exact ⟨j, by omega, rfl⟩
          simp [ha _ this]
      · rintro σ H1 ⟨o1, o2, rfl, ha, g1⟩
        walk_at "rd"
        refine k ?_ H1 g1
        unfold fb
        rw [List.findIdx?_eq_none_iff]
        intro c hc
        rw [List.take_length] at ha
        simp [ha c hc]
    · exact .inr ⟨hN, .inl ⟨_, rfl, by omega, by omega⟩, fun d H2 s2 _ e => kx 0 rfl d H2 s2 e⟩
theorem ok_put (T : Txt w K mg t) (D : Df K mg "put" s_put ps_put) (F_need_text : OkX P w K mg base 3 "need_text" ps_need_text (sp_need_text K t)) (F_marked : OkF P w K mg base 3 "marked" ps_marked sp_marked) (F_worded : OkF P w K mg base 3 "worded" ps_worded sp_worded) (F_stroked : OkF P w K mg base 1 "stroked" ps_stroked sp_stroked) : OkX P w K mg base 4 "put" ps_put (sp_put K t) := by
  refine D.okX sc_put (fun vs H Q E h => ?_) (fun f cdv A outer s H vs Q E hr h => ?_)
  · obtain ⟨_, _, _, rfl, _⟩ := h; rfl
  · obtain ⟨p, x, r, rfl, hp, hR, k, kx⟩ := h
    refine ⟨_, ((qss_cons (qs_set (i := 2) sc_put.nd (by rfl) (Or.inl (by rfl)) (qe_callX thr_leave F_need_text hr (by decide) (qa_cons (qv 1) qa_nil)))
      (qss_cons (qs_if (qt_cmpR op_eq (qv 0) (qe_S (l := [116, 101, 120, 116]) (by decide +kernel)) (nomark _)) (qss_one (qs_ret (qe_callF F_marked hr (by decide) (qa_cons (qv 2) (qa_cons (qe_S (l := [60]) (by decide +kernel)) qa_nil))))) qss_nil)
      (qss_cons (qs_if (qt_cmpR op_eq (qv 0) (qe_S (l := [113, 117, 111, 116, 101, 100]) (by decide +kernel)) (nomark _)) (qss_one (qs_ret (qe_callF F_marked hr (by decide) (qa_cons (qv 2) (qa_cons (qe_S (l := [34]) (by decide +kernel)) qa_nil))))) qss_nil)
      (qss_cons (qs_if (qt_cmpR op_eq (qv 0) (qe_S (l := [98, 97, 114, 101]) (by decide +kernel)) (nomark _)) (qss_one (qs_ret (qe_callF F_worded hr (by decide) (qa_cons (qv 2) qa_nil)))) qss_nil)
      (qss_cons (qs_if (qt_cmpR op_eq (qv 0) (qe_S (l := [114, 111, 119]) (by decide +kernel)) (nomark _)) (qss_one (qs_ret (qe_callF F_stroked hr (by decide) (qa_cons (qv 2) (qa_cons (qe_S (l := [44, 41]) (by decide +kernel)) qa_nil))))) qss_nil)
      (qss_one (qs_ret (qe_callF F_marked hr (by decide) (qa_cons (qe_callF F_stroked hr (by decide) (qa_cons (qv 2) (qa_cons (qe_S (l := [39]) (by decide +kernel)) qa_nil))) (qa_cons (qe_S (l := [34]) (by decide +kernel)) qa_nil))))))))))).h, ?_⟩
    walk_at "rd"
    refine ⟨r, hR, fun hn H1 g1 => ?_, fun b hb d H' g hd => kx b hb d H' g hd⟩
    obtain ⟨l, rfl, hl, rfl⟩ : ∃ l, x = .str (S l) ∧ l.length ≤ 100000 ∧ r = fb l := by
      rcases hR with h | ⟨_, h⟩
      · exact h
      · rw [hn] at h; cases h
    have hs := fb_none hn
    have k' := fun H' g => k hn l rfl H' g
    unfold putL at k'
    rcases hp with rfl | rfl | rfl | rfl | rfl
    · walk_at "rd"
      exact ⟨by omega, hs, fun H2 g2 => k' H2 (g1.trans g2)⟩
    · walk_at "rd"
      exact ⟨by omega, hs, fun H2 g2 => k' H2 (g1.trans g2)⟩
    · walk_at "rd"
      exact ⟨by omega, fun H2 g2 => k' H2 (g1.trans g2)⟩
    · walk_at "rd"
      exact ⟨by omega, hs, fun H2 g2 => k' H2 (g1.trans g2)⟩
    · walk_at "rd"
      have h6 := stL_len [39] l
      exact ⟨by omega, fun H2 g2 => ⟨by omega, stL_sg hs, fun H3 g3 => k' H3 (g1.trans (g2.trans g3))⟩⟩
theorem ok_law_value (T : Txt w K mg t) (D : Df K mg "_law_value" s__law_value ps__law_value) (F__law_signs : OkF P w K mg base 1 "_law_signs" ps__law_signs sp__law_signs) (F__law_mix : OkF P w K mg base 1 "_law_mix" ps__law_mix sp__law_mix) : OkF P w K mg base 2 "_law_value" ps__law_value sp__law_value := by
  refine D.ok sc__law_value (fun vs H Q E h => ?_) (fun f cdv A outer s H vs Q E hr h => ?_)
  · obtain ⟨_, _, rfl, _⟩ := h; rfl
  · obtain ⟨c, m, rfl, hm, hm2, q⟩ := h
    refine ⟨_, ((qss_cons (qs_set (i := 2) sc__law_value.nd (by rfl) (Or.inr (by rfl)) (qe_callF0 F__law_signs hr (by decide)))
      (qss_cons (qs_if (qt_cmpR op_eq (qe_callF F__law_mix hr (by decide) (qa_cons (qv 0) (qa_cons qe_int (qa_cons qe_int qa_nil)))) qe_int (nomark _)) (qss_one (qs_set (i := 2) sc__law_value.nd (by rfl) (Or.inr (by rfl)) (qe_S (l := [38, 60, 62, 34, 39, 92, 44, 41, 40, 126, 59, 48, 49, 50, 55, 47, 32, 97, 45]) (by decide +kernel)))) qss_nil)
      (qss_one (qs_ret (qe_bmK (K := K) (by rfl) PySem.F.plainAttrs_str PySem.F.slot_str_join PySem.F.type_str_join (mt_joinSK (K := K) (by rfl)) (qe_S (l := []) (by decide +kernel)) (qa_cons ⟨pe_lc (lcs (N := N__law_value) (sc := defScope s__law_value) rfl rfl rfl (by decide +kernel)) ((qi_range1 (by rfl) T.z_range (qa_cons (qe_callF F__law_mix hr (by decide) (qa_cons (qv 0) (qa_cons qe_int (qa_cons (qv 1) qa_nil)))) qa_nil))).h (fun _ _ _ _ _ => qts_nil.h) (fun _ _ _ _ _ => ((qe_ix ix_S (qv 3) (qe_callF F__law_mix hr (by decide) (qa_cons (qv 1) (qa_cons (qe_op op_add qe_int (qv 0)) (qa_cons (qe_callB call_lenS (by rfl) T.z_len bb_len (qa_cons (qv 3) qa_nil)) qa_nil)))) (fun _ _ => (by rfl)))).h)⟩ qa_nil))))))).h, ?_⟩
    walk_at "rd"
    intro H0 g0 v0 H1 hv0 g1
    split
    · refine ⟨hm, fun n H2 hn g2 => ⟨by omega, by omega, ?_⟩⟩
      refine lc_range (fun _ v => ∃ c ∈ sg, v = V.str (S [c])) (by rw [PySem.sizeLine_eq]; omega) (fun i hi H3 g3 R r => ?_) (fun D H3 ys hD g3 hy hG e => ?_)
      · walk_at "rd"
        have := pool_turn (pool := [38, 60, 62, 34, 39, 92, 44, 41, 40, 126, 59, 48, 49, 50, 55, 47, 32, 97, 45]) (by decide) (by decide) (by decide) r
        exact ⟨by omega, by omega, by decide, fun v H' hv g => (this.2 v H' hv g).2⟩
      · obtain ⟨t, e1, e2, e3⟩ := drawn hy hG
        refine ⟨D, rfl, t.map fun c => [c], SqL.of (by rw [e, e3]), ?_, ?_⟩
        · rw [flat_ones]; omega
        · rw [flat_ones]; exact q t H3 e2 (by omega) (g0.trans (g1.trans (g2.trans g3)))
    · refine ⟨hm, fun n H2 hn g2 => ⟨by omega, by omega, ?_⟩⟩
      refine lc_range (fun _ v => ∃ c ∈ sg, v = V.str (S [c])) (by rw [PySem.sizeLine_eq]; omega) (fun i hi H3 g3 R r => ?_) (fun D H3 ys hD g3 hy hG e => ?_)
      · walk_at "rd"
        have := pool_turn (pool := sg) (by decide) (by decide) (fun c hc => hc) r
        rw [sg_len] at this
        exact ⟨by omega, by omega, fun v H' hv g => (this.2 v H' hv g).2⟩
      · obtain ⟨t, e1, e2, e3⟩ := drawn hy hG
        refine ⟨D, rfl, t.map fun c => [c], SqL.of (by rw [e, e3]), ?_, ?_⟩
        · rw [flat_ones]; omega
        · rw [flat_ones]; exact q t H3 e2 (by omega) (g0.trans (g1.trans (g2.trans g3)))

end

section
variable {P : Program} {w : World} {K : PySem.W.Frag} {mg : Str → Option Value} {base : Heap} {t : Ads}
theorem ok_is_end (T : Txt w K mg t) (D : Df K mg "is_end" s_is_end ps_is_end) (F_begin : OkF P w K mg base 1 "begin" ps_begin sp_begin) : OkF P w K mg base 2 "is_end" ps_is_end sp_is_end := by
  refine D.ok sc_is_end (fun vs H Q E h => ?_) (fun f cdv A outer s H vs Q E hr h => ?_)
  · obtain ⟨_, _, rfl, _⟩ := h; rfl
  · obtain ⟨x, s0, rfl, hx, q⟩ := h
    refine ⟨_, ((qss_one (qs_ret (qe_cmpR (op_eqD (hu64 hr)) (qv 0) (qe_callF0 F_begin hr (by decide)) (nomark _))))).h, ?_⟩
    walk_at "rd"
    intro v H1 g1 hv
    have d1 := (hx.mono g1).dat
    have d2 := hv.dat
    obtain ⟨a, _, rfl, _, _⟩ := hx
    obtain ⟨b, _, rfl, _, _⟩ := hv
    refine ⟨_, _, a, rfl, b, rfl, d1, d2, by have := dep_S s0; omega, q H1 _ g1 ⟨fun h => dS_inj h, fun h => ?_⟩⟩
    rw [h]
    exact eqD_refl d2.flat
theorem ok_law_ran (T : Txt w K mg t) (D : Df K mg "_law_ran" s__law_ran ps__law_ran) (F_run : OkX P w K mg base 8 "run" ps_run (sp_run t)) (F_begin : OkF P w K mg base 1 "begin" ps_begin sp_begin) : OkF P w K mg base 9 "_law_ran" ps__law_ran sp__law_ran := by
  refine D.ok sc__law_ran (fun vs H Q E h => ?_) (fun f cdv A outer s H vs Q E hr h => ?_)
  · obtain ⟨_, _, _, rfl, _⟩ := h; rfl
  · obtain ⟨l, s', es, rfl, hl, hrun, k⟩ := h
    refine ⟨_, ((qss_cons (qs_try (i := 2) T.m_Unread T.c_Unread sc__law_ran.nd (by rfl) (by rfl) (by rfl) (by rfl) (fun E pn xe hp hx => (qss_one (qs_set (i := 1) sc__law_ran.nd (by rfl) (Or.inl (by rfl)) (qe_callX hx F_run hr (by decide) (qa_cons (qe_callF0 F_begin hr (by decide)) (qa_cons (qv 0) qa_nil))))))
      (fun pn ea => (qss_one (qs_ret (qe_tup (qa_cons (qe_tup (qa_cons (qe_S (l := [114, 101, 102, 117, 115, 101, 100]) (by decide +kernel)) (qa_cons (qe_atX (K := K) (by rfl) (qv 2)) qa_nil))) (qa_cons (qe_lst qa_nil) qa_nil)))))))
      (qss_one (qs_ret (qv 1))))).h, ?_⟩
    walk_at "rd"
    intro v H1 g1 hv
    refine ⟨s00, hv, by simp, by simpa using hl, fun s2 es2 h2 v2 H2 g2 r => ?_, fun b hb => ?_⟩
    · rw [hrun] at h2
      cases h2
      obtain ⟨p, sa, ea, e1, e2, e3, e4, _⟩ := r
      exact k v2 H2 (g1.trans g2) ⟨p, sa, ea, e1, e2, e3, e4, True.intro⟩
    · rw [hrun] at hb
      cases hb
theorem ok_law_shape (T : Txt w K mg t) (D : Df K mg "_law_shape" s__law_shape ps__law_shape) : OkF P w K mg base 1 "_law_shape" ps__law_shape sp__law_shape := by
  refine D.ok sc__law_shape (fun vs H Q E h => ?_) (fun f cdv A outer s H vs Q E hr h => ?_)
  · obtain ⟨_, _, rfl, _⟩ := h; rfl
  · obtain ⟨a, es, rfl, he, hl, hn, q⟩ := h
    refine ⟨_, ((qss_one (qs_ret ⟨pe_lc (lcs (N := N__law_shape) (sc := defScope s__law_shape) rfl rfl rfl (by decide +kernel)) ((qi_listK (K := K) (by rfl) (qv 0))).h (fun _ _ _ _ _ => (qts_one (qt_cmpR op_ne (qe_ix (ix_tupK (K := K) (by rfl)) (qv 0) qe_int (fun _ _ => (by rfl))) (qe_S (l := [115, 105, 103, 110]) (by decide +kernel)) (nomark _))).h) (fun _ _ _ _ _ => ((qv 0)).h)⟩))).h, ?_⟩
    walk_at "rd"
    obtain ⟨vs, h1, h2⟩ := he
    have hvl := h2.len
    refine ⟨⟨_, SqL.of h1⟩, lc_listF (K := K) (α := Ev) (ms := es) ns (by rw [PySem.sizeLine_eq]; omega) hvl h1 (fun i v m e1 e2 H1 g R r => ?_) (fun D H2 hD g e => q D H2 hD g ⟨_, e, evA_filter (h2.mono g)⟩)⟩
    obtain ⟨x, e3, hx⟩ := h2.get e1
    rw [e2] at e3
    cases e3
    obtain ⟨p, rfl, hp⟩ := hx
    have hne := hn m (List.mem_of_getElem? e2)
    cases m with
    | nil => exact absurd rfl hne
    | cons m0 mr =>
      walk_at "rd"
      refine ⟨_, SqT.of (g _ _ hp), tx m0, at0, rfl, ?_⟩
      have e : ns (m0 :: mr) = !decide (tx m0 = V.str (S [115, 105, 103, 110])) := by
        unfold ns
        congr 1
        rw [decide_eq_decide]
        constructor
        · intro h
          rw [Option.some.inj h]
          rfl
        · intro h
          exact congrArg some (S_inj.mp (V.str.inj h))
      rw [← e]
      exact r
theorem drawnT {ys : List V} {n : Nat} {P : Tx → Prop} (hl : ys.length = n) (h : ∀ (i : Nat) v, ys[i]? = some v → ∃ l, P l ∧ v = V.str (S l)) : ∃ ts : List Tx, ts.length = n ∧ (∀ x ∈ ts, P x) ∧ ys = ts.map tx := by
  induction ys generalizing n with
  | nil => exact ⟨[], hl, by simp, rfl⟩
  | cons y ys ih =>
    obtain ⟨l, h1, rfl⟩ := h 0 y rfl
    obtain ⟨ts, e1, e2, e3⟩ := ih (n := ys.length) rfl fun i v e => h (i + 1) v (by simpa using e)
    refine ⟨l :: ts, by rw [List.length_cons, e1]; exact hl, fun x hx => ?_, by rw [e3]; rfl⟩
    rcases List.mem_cons.mp hx with rfl | hx
    · exact h1
    · exact e2 x hx
theorem ok_law_values (T : Txt w K mg t) (D : Df K mg "_law_values" s__law_values ps__law_values) (F__law_mix : OkF P w K mg base 1 "_law_mix" ps__law_mix sp__law_mix) (F__law_value : OkF P w K mg base 2 "_law_value" ps__law_value sp__law_value) : OkF P w K mg base 3 "_law_values" ps__law_values sp__law_values := by
  refine D.ok sc__law_values (fun vs H Q E h => ?_) (fun f cdv A outer s H vs Q E hr h => ?_)
  · obtain ⟨_, _, rfl, _⟩ := h; rfl
  · obtain ⟨c, n, rfl, hn, q⟩ := h
    refine ⟨_, ((qss_cons (qs_if (qt_cmpR op_eq (qe_callF F__law_mix hr (by decide) (qa_cons (qv 0) (qa_cons qe_int (qa_cons qe_int qa_nil)))) qe_int (nomark _)) (qss_one (qs_ret (qe_op op_mulL (qe_lst (qa_cons (qe_callF F__law_value hr (by decide) (qa_cons (qv 0) (qa_cons qe_int qa_nil))) qa_nil)) (qv 1)))) qss_nil)
      (qss_one (qs_ret ⟨pe_lc (lcs (N := N__law_values) (sc := defScope s__law_values) rfl rfl rfl (by decide +kernel)) ((qi_range1 (by rfl) T.z_range (qa_cons (qv 1) qa_nil))).h (fun _ _ _ _ _ => qts_nil.h) (fun _ _ _ _ _ => ((qe_callF F__law_value hr (by decide) (qa_cons (qe_op op_add (qe_op op_fdiv (qv 1) (qe_op op_add qe_int (qv 0))) (qe_op op_mulI (qv 0) qe_int)) (qa_cons qe_int qa_nil)))).h)⟩)))).h, ?_⟩
    walk_at "rd"
    intro m H1 hm g1
    split
    · intro v H2 hv hvl g2 p hp
      refine ⟨_, upd_same, by omega, by omega, by simp; omega, fun p1 hp1 => ?_⟩
      rw [Int.toNat_natCast, rep_tx]
      exact q p1 (List.replicate n v) _ (none_of_same (g1.trans (g2.trans (same_upd hp))) hp1) (g1.trans (g2.trans ((same_upd hp).trans (same_upd hp1)))) upd_same (by simp) (fun x hx => by rw [(List.mem_replicate.mp hx).2]; exact ⟨by omega, hv⟩)
    · refine ⟨by omega, by omega, ?_⟩
      refine lc_range (n := n) (fun _ v => ∃ l : Tx, (l.length ≤ 94 ∧ ∀ c ∈ l, c ∈ sg) ∧ v = V.str (S l)) (by rw [PySem.sizeLine_eq]; omega) (fun i hi H2 g2 R r => ?_) (fun D H2 ys hD g2 hy hG e => ?_)
      · walk_at "rd"
        exact ⟨by unfold CDiv; omega, mulOk_r (by decide), fun v H3 h1 h2 g3 => r _ H3 ⟨v, ⟨by omega, h1⟩, rfl⟩ g3⟩
      · obtain ⟨ts, e1, e2, rfl⟩ := drawnT hy hG
        exact q D ts H2 (none_of_same g1 hD) (g1.trans g2) e e1 e2

end

section
variable {P : Program} {w : World} {K : PySem.W.Frag} {mg : Str → Option Value} {base : Heap} {t : Ads}
theorem seq_gen5 {a b c d e f : TS} {D : Ends} {σ : L2.St} {H : Hp} (R : L2.St → Hp → Prop) (hr : ∀ σ' H', R σ' H' → f D σ' H') (h : ∀ N : L2.St → Hp → Prop, (∀ σ' H', R σ' H' → N σ' H') → tSeq a (tSeq b (tSeq c (tSeq d e))) { D with nx := N } σ H) : tSeq a (tSeq b (tSeq c (tSeq d (tSeq e f)))) D σ H := h (f D) hr
theorem pt_add {H : Hp} {D q ea : Addr} {vs : List V} {ps : List Part} {t : Tx} {pl : Option Tx} {es : List Ev} (hpa : PtA (· ≠ D) H vs ps) (hD : H D = some (.lst vs)) (hq : H q = some (.tup [tx t, plO pl, .ref ea])) (he : EvL H ea es) (hne : ea ≠ D) : PtA (· ≠ D) (upd H D (.lst (vs ++ [V.ref q]))) (vs ++ [V.ref q]) (ps ++ [(t, pl, es)]) := (hpa.app (.cons ⟨q, ea, rfl, hq, he, hne⟩ .nil)).updD hD
def eI (c : Int) (wd : Tx) (D : Addr) (H : Hp) (i : Nat) (σ : L2.St) (H' : Hp) : Prop := ∃ (vs : List V) (ps : List Part) (s : MS) (P : List Ev) (o3 o4 o5 o6 o7 o8 : Option V), σ = [some (V.int c), some (V.str (S wd)), some (V.ref D), o3, o4, o5, o6, o7, o8] ∧ Same H H' ∧ H' D = some (.lst vs) ∧ PtA (· ≠ D) H' vs ps ∧ Chain s00 [] ps s P ∧ Amid wd s P ∧ Small ps ∧ ps.length = 1 + 2 * i
theorem ok_law_parts (T : Txt w K mg t) (D : Df K mg "_law_parts" s__law_parts ps__law_parts) (F__law_name : OkF P w K mg base 2 "_law_name" ps__law_name sp__law_name) (F__law_mix : OkF P w K mg base 1 "_law_mix" ps__law_mix sp__law_mix) : OkF P w K mg base 3 "_law_parts" ps__law_parts sp__law_parts := by
  refine D.ok sc__law_parts (fun vs H Q E h => ?_) (fun f cdv A outer s H vs Q E hr h => ?_)
  · obtain ⟨_, rfl, _⟩ := h; rfl
  · obtain ⟨c, rfl, q⟩ := h
    refine ⟨_, ((qss_cons (qs_set (i := 1) sc__law_parts.nd (by rfl) (Or.inl (by rfl)) (qe_callF F__law_name hr (by decide) (qa_cons (qe_op op_fdiv (qv 0) qe_int) qa_nil)))
      (qss_cons (qs_set (i := 2) sc__law_parts.nd (by rfl) (Or.inl (by rfl)) (qe_lst (qa_cons (qe_tup (qa_cons (qe_op op_addS (qe_S (l := [120, 32, 60]) (by decide +kernel)) (qv 1)) (qa_cons qe_non (qa_cons (qe_lst (qa_cons (qe_tup (qa_cons (qe_S (l := [115, 105, 103, 110]) (by decide +kernel)) (qa_cons (qe_S (l := [120]) (by decide +kernel)) qa_nil))) (qa_cons (qe_tup (qa_cons (qe_S (l := [115, 105, 103, 110]) (by decide +kernel)) (qa_cons (qe_S (l := [32]) (by decide +kernel)) qa_nil))) (qa_cons (qe_tup (qa_cons (qe_S (l := [98, 111, 120]) (by decide +kernel)) (qa_cons (qv 1) qa_nil))) qa_nil)))) qa_nil)))) qa_nil)))
      (qss_cons (qs_for PassesOwn.never (by rfl) (qi_range1 (by rfl) T.z_range (qa_cons (qe_callF F__law_mix hr (by decide) (qa_cons (qv 0) (qa_cons qe_int (qa_cons qe_int qa_nil)))) qa_nil)) (qg_name (i := 3) sc__law_parts.nd (by rfl) (Or.inl (by rfl))) (qss_cons (qs_set (i := 4) sc__law_parts.nd (by rfl) (Or.inl (by rfl)) (qe_callF F__law_mix hr (by decide) (qa_cons (qe_op op_add (qe_op op_fdiv (qv 0) (qe_op op_add qe_int (qv 3))) (qv 3)) (qa_cons qe_int (qa_cons qe_int qa_nil)))))
      (qss_cons (qs_set (i := 5) sc__law_parts.nd (by rfl) (Or.inl (by rfl)) (qe_ix (ix_listK (K := K) (by rfl)) (qe_lst (qa_cons (qe_S (l := [98, 97, 114, 101]) (by decide +kernel)) (qa_cons (qe_S (l := [113, 117, 111, 116, 101, 100]) (by decide +kernel)) (qa_cons (qe_S (l := [114, 111, 119]) (by decide +kernel)) (qa_cons (qe_S (l := [116, 97, 108, 107]) (by decide +kernel)) qa_nil))))) (qv 4) (fun _ _ => (by rfl))))
      (qss_cons (qs_set (i := 6) sc__law_parts.nd (by rfl) (Or.inl (by rfl)) (qe_ix (ix_listK (K := K) (by rfl)) (qe_lst (qa_cons (qe_S (l := [32, 97, 58, 120]) (by decide +kernel)) (qa_cons (qe_S (l := [32, 97, 61, 34, 120]) (by decide +kernel)) (qa_cons (qe_S (l := [32, 97, 40, 121, 44, 120]) (by decide +kernel)) (qa_cons (qe_S (l := [32, 97, 33, 34, 121, 32, 39, 120]) (by decide +kernel)) qa_nil))))) (qv 4) (fun _ _ => (by rfl))))
      (qss_cons (qs_set (i := 7) sc__law_parts.nd (by rfl) (Or.inl (by rfl)) (qe_ix (ix_listK (K := K) (by rfl)) (qe_lst (qa_cons (qe_S (l := [120]) (by decide +kernel)) (qa_cons (qe_S (l := [120, 34]) (by decide +kernel)) (qa_cons (qe_S (l := [120, 41]) (by decide +kernel)) (qa_cons (qe_S (l := [120, 39, 34]) (by decide +kernel)) qa_nil))))) (qv 4) (fun _ _ => (by rfl))))
      (qss_cons (qs_set (i := 8) sc__law_parts.nd (by rfl) (Or.inl (by rfl)) (qe_ix (ix_listK (K := K) (by rfl)) (qe_lst (qa_cons (qe_lst qa_nil) (qa_cons (qe_lst qa_nil) (qa_cons (qe_lst (qa_cons (qe_tup (qa_cons (qe_S (l := [115, 105, 103, 110]) (by decide +kernel)) (qa_cons (qe_S (l := [121]) (by decide +kernel)) qa_nil))) (qa_cons (qe_tup (qa_cons (qe_S (l := [110, 101, 120, 116]) (by decide +kernel)) qa_nil)) qa_nil))) (qa_cons (qe_lst (qa_cons (qe_tup (qa_cons (qe_S (l := [119, 111, 114, 100]) (by decide +kernel)) qa_nil)) (qa_cons (qe_tup (qa_cons (qe_S (l := [115, 105, 103, 110]) (by decide +kernel)) (qa_cons (qe_S (l := [121]) (by decide +kernel)) qa_nil))) (qa_cons (qe_tup (qa_cons (qe_S (l := [115, 97, 105, 100]) (by decide +kernel)) qa_nil)) qa_nil)))) qa_nil))))) (qv 4) (fun _ _ => (by rfl))))
      (qss_cons (qs_expr (qe_bmK (K := K) (by rfl) PySem.F.plainAttrs_list PySem.F.slot_list_append PySem.F.type_list_append mt_append (qv 2) (qa_cons (qe_tup (qa_cons (qv 6) (qa_cons (qe_ix (ix_listK (K := K) (by rfl)) (qe_lst (qa_cons (qe_S (l := [98, 97, 114, 101]) (by decide +kernel)) (qa_cons (qe_S (l := [113, 117, 111, 116, 101, 100]) (by decide +kernel)) (qa_cons (qe_S (l := [114, 111, 119]) (by decide +kernel)) (qa_cons (qe_S (l := [115, 97, 105, 100]) (by decide +kernel)) qa_nil))))) (qv 4) (fun _ _ => (by rfl))) (qa_cons (qe_op op_cat (qe_op op_cat (qe_lst (qa_cons (qe_tup (qa_cons (qe_S (l := [97, 116, 116, 114]) (by decide +kernel)) (qa_cons (qe_S (l := [97]) (by decide +kernel)) (qa_cons (qv 5) qa_nil)))) qa_nil)) (qv 8)) (qe_lst (qa_cons (qe_tup (qa_cons (qe_S (l := [115, 105, 103, 110]) (by decide +kernel)) (qa_cons (qe_S (l := [120]) (by decide +kernel)) qa_nil))) qa_nil))) qa_nil)))) qa_nil)))
      (qss_one (qs_expr (qe_bmK (K := K) (by rfl) PySem.F.plainAttrs_list PySem.F.slot_list_append PySem.F.type_list_append mt_append (qv 2) (qa_cons (qe_tup (qa_cons (qv 7) (qa_cons qe_non (qa_cons (qe_lst (qa_cons (qe_tup (qa_cons (qe_S (l := [115, 105, 103, 110]) (by decide +kernel)) (qa_cons (qe_S (l := [120]) (by decide +kernel)) qa_nil))) qa_nil)) qa_nil)))) qa_nil)))))))))))
      (qss_cons (qs_expr (qe_bmK (K := K) (by rfl) PySem.F.plainAttrs_list PySem.F.slot_list_append PySem.F.type_list_append mt_append (qv 2) (qa_cons (qe_tup (qa_cons (qe_S (l := [62, 120]) (by decide +kernel)) (qa_cons (qe_S (l := [116, 101, 120, 116]) (by decide +kernel)) (qa_cons (qe_lst (qa_cons (qe_tup (qa_cons (qe_S (l := [105, 110]) (by decide +kernel)) qa_nil)) (qa_cons (qe_tup (qa_cons (qe_S (l := [115, 105, 103, 110]) (by decide +kernel)) (qa_cons (qe_S (l := [120]) (by decide +kernel)) qa_nil))) qa_nil))) qa_nil)))) qa_nil)))
      (qss_cons (qs_if (qt_cmpR op_eq (qe_callF F__law_mix hr (by decide) (qa_cons (qv 0) (qa_cons qe_int (qa_cons qe_int qa_nil)))) qe_int (nomark _)) (qss_one (qs_expr (qe_bmK (K := K) (by rfl) PySem.F.plainAttrs_list PySem.F.slot_list_append PySem.F.type_list_append mt_append (qv 2) (qa_cons (qe_tup (qa_cons (qe_S (l := [120, 60, 98, 47, 62]) (by decide +kernel)) (qa_cons (qe_S (l := [116, 101, 120, 116]) (by decide +kernel)) (qa_cons (qe_lst (qa_cons (qe_tup (qa_cons (qe_S (l := [115, 105, 103, 110]) (by decide +kernel)) (qa_cons (qe_S (l := [120]) (by decide +kernel)) qa_nil))) (qa_cons (qe_tup (qa_cons (qe_S (l := [98, 111, 120]) (by decide +kernel)) (qa_cons (qe_S (l := [98]) (by decide +kernel)) qa_nil))) (qa_cons (qe_tup (qa_cons (qe_S (l := [105, 110]) (by decide +kernel)) qa_nil)) (qa_cons (qe_tup (qa_cons (qe_S (l := [111, 117, 116]) (by decide +kernel)) qa_nil)) qa_nil))))) qa_nil)))) qa_nil)))) qss_nil)
      (qss_cons (qs_expr (qe_bmK (K := K) (by rfl) PySem.F.plainAttrs_list PySem.F.slot_list_append PySem.F.type_list_append mt_append (qv 2) (qa_cons (qe_tup (qa_cons (qe_op op_addS (qe_op op_addS (qe_S (l := [120, 60, 47]) (by decide +kernel)) (qv 1)) (qe_S (l := [62]) (by decide +kernel))) (qa_cons (qe_S (l := [116, 101, 120, 116]) (by decide +kernel)) (qa_cons (qe_lst (qa_cons (qe_tup (qa_cons (qe_S (l := [115, 105, 103, 110]) (by decide +kernel)) (qa_cons (qe_S (l := [120]) (by decide +kernel)) qa_nil))) (qa_cons (qe_tup (qa_cons (qe_S (l := [111, 117, 116]) (by decide +kernel)) qa_nil)) qa_nil))) qa_nil)))) qa_nil)))
      (qss_one (qs_ret (qv 2)))))))))).h, ?_⟩
    walk_at "rd"
    refine ⟨by unfold CDiv; decide, fun wd H1 hnm hna g1 => ⟨by have := hnm.2.1; omega, fun p hp p1 hp1 p2 hp2 p3 hp3 p4 hp4 D hp5 n H2 hn g2 => ⟨by omega, by omega, ?_⟩⟩⟩
    have k0 := same_upd (o := .tup [tx eSign, tx [120]]) hp
    have k1 := same_upd (o := .tup [tx eSign, tx [32]]) hp1
    have k2 := same_upd (o := .tup [tx eBox, tx wd]) hp2
    have k3 := same_upd (o := .lst [V.ref p, V.ref p1, V.ref p2]) hp3
    have k4 := same_upd (o := .tup [tx (120 :: 32 :: 60 :: wd), V.non, V.ref p3]) hp4
    have k5 := same_upd (o := .lst [V.ref p4]) hp5
    have G5 := g1.trans (k0.trans (k1.trans (k2.trans (k3.trans k4))))
    have hD : H D = none := none_of_same G5 hp5
    have GG := G5.trans (k5.trans g2)
    have g5 := k5.trans g2
    have hpt : PtV (· ≠ D) H2 (V.ref p4) (120 :: 32 :: 60 :: wd, none, [[eSign, [120]], [eSign, [32]], [eBox, wd]]) := by
      refine ⟨p4, p3, rfl, g5 _ _ upd_same, ⟨_, (k4.trans g5) _ _ upd_same, .cons ⟨p, rfl, (k1.trans (k2.trans (k3.trans (k4.trans g5)))) _ _ upd_same⟩ (.cons ⟨p1, rfl, (k2.trans (k3.trans (k4.trans g5))) _ _ upd_same⟩ (.cons ⟨p2, rfl, (k3.trans (k4.trans g5)) _ _ upd_same⟩ .nil))⟩, ?_⟩
      have h3 := k4 _ _ (upd_same (H := upd (upd (upd H1 p (.tup [tx eSign, tx [120]])) p1 (.tup [tx eSign, tx [32]])) p2 (.tup [tx eBox, tx wd])) (a := p3) (o := .lst [V.ref p, V.ref p1, V.ref p2]))
      exact ne_of_none h3 hp5
    have hsm : Small [(120 :: 32 :: 60 :: wd, none, [[eSign, [120]], [eSign, [32]], [eBox, wd]])] := by
      intro q hq
      rw [List.mem_singleton.mp hq]
      have := hnm.2.1
      exact ⟨by simp only [List.length_cons]; omega, by simp, by simp, fun p e => by cases e⟩
    have hw : NmL wd := ⟨hnm.2.1, hnm.2.2⟩
    refine fb_range (eI c wd D H) ⟨_, _, _, _, _, _, _, _, _, _, rfl, GG, g2 _ _ upd_same, .cons hpt .nil, .one (run_open hnm) rfl (fun p e => by cases e), .inl ⟨rfl, rfl⟩, hsm, rfl⟩ ?_ ?_
    · rintro i σ H3 hi ⟨vs, ps, s, P, o3, o4, o5, o6, o7, o8, rfl, g3, hDv, hpa, hch, ham, hsp, hpl⟩
      simp only [gName, List.set_cons_succ, List.set_cons_zero]
      refine seq_gen5 (fun σ' H' => ∃ (y : Nat) (ea : Addr), y < 4 ∧ σ' = [some (V.int c), some (V.str (S wd)), some (V.ref D), some (V.int i), some (V.int y), some (V.str (S (wKind y))), some (V.str (S (wLead y))), some (V.str (S (wClose y))), some (V.ref ea)] ∧ EvL H' ea (wEv y) ∧ Same H3 H') ?_ (fun N hN => by
        walk_at "rd"
        refine ⟨by unfold CDiv; omega, fun y H4 hy g4 pa hpa => ?_⟩
        have : y = 0 ∨ y = 1 ∨ y = 2 ∨ y = 3 := by omega
        rcases this with rfl | rfl | rfl | rfl
        all_goals refine ⟨_, SqL.of upd_same, _, rfl, fun pb hpb => ⟨_, SqL.of upd_same, _, rfl, fun pc hpc => ⟨_, SqL.of upd_same, _, rfl, ?_⟩⟩⟩
        all_goals intro q1 h1 q2 h2 q3 h3 q4 h4 q5 h5 q6 h6 q7 h7 q8 h8 q9 h9 q10 h10
        all_goals
          have T10 := same_upd (o := .lst [V.ref q1, V.ref q2, V.ref q5, V.ref q9]) h10
          have T9 := (same_upd (o := .lst [V.ref q6, V.ref q7, V.ref q8]) h9).trans T10
          have T8 := (same_upd (o := .tup [tx eSaid]) h8).trans T9
          have T7 := (same_upd (o := .tup [tx eSign, tx [121]]) h7).trans T8
          have T6 := (same_upd (o := .tup [tx eWord]) h6).trans T7
          have T5 := (same_upd (o := .lst [V.ref q3, V.ref q4]) h5).trans T6
          have T4 := (same_upd (o := .tup [tx eNext]) h4).trans T5
          have T3 := (same_upd (o := .tup [tx eSign, tx [121]]) h3).trans T4
          have T2 := (same_upd (o := .lst []) h2).trans T3
          have T1 := (same_upd (o := .lst []) h1).trans T2
          have E1 : EvL _ q1 (wEv 0) := ⟨_, T2 _ _ upd_same, .nil⟩
          have E2 : EvL _ q2 (wEv 1) := ⟨_, T3 _ _ upd_same, .nil⟩
          have E5 : EvL _ q5 (wEv 2) := ⟨_, T6 _ _ upd_same, .cons ⟨q3, rfl, T4 _ _ upd_same⟩ (.cons ⟨q4, rfl, T5 _ _ upd_same⟩ .nil)⟩
          have E9 : EvL _ q9 (wEv 3) := ⟨_, T10 _ _ upd_same, .cons ⟨q6, rfl, T7 _ _ upd_same⟩ (.cons ⟨q7, rfl, T8 _ _ upd_same⟩ (.cons ⟨q8, rfl, T9 _ _ upd_same⟩ .nil))⟩
          have GG := g4.trans ((same_upd hpa).trans ((same_upd hpb).trans ((same_upd hpc).trans T1)))
          refine ⟨_, SqL.of upd_same, _, rfl, ?_⟩
        · exact hN _ _ ⟨0, q1, by decide, rfl, E1, GG⟩
        · exact hN _ _ ⟨1, q2, by decide, rfl, E2, GG⟩
        · exact hN _ _ ⟨2, q5, by decide, rfl, E5, GG⟩
        · exact hN _ _ ⟨3, q9, by decide, rfl, E9, GG⟩)
      rintro σ' H4 ⟨y, ea, hy, rfl, ⟨es, he1, he2⟩, g4⟩
      have hix : [V.str (S [98, 97, 114, 101]), V.str (S [113, 117, 111, 116, 101, 100]), V.str (S [114, 111, 119]), V.str (S [115, 97, 105, 100])][y]? = some (tx (wPl y)) := by
        have : y = 0 ∨ y = 1 ∨ y = 2 ∨ y = 3 := by omega
        rcases this with rfl | rfl | rfl | rfl <;> rfl
      have hel : es.length ≤ 3 := by
        rw [he2.len]
        have : y = 0 ∨ y = 1 ∨ y = 2 ∨ y = 3 := by omega
        rcases this with rfl | rfl | rfl | rfl <;> decide
      have hvl := hpa.len
      have hD4 := g4 _ _ hDv
      walk_at "rd"
      refine ⟨.inl ⟨rfl, _, SqL.of hD4⟩, fun q1 h1 => ⟨_, SqL.of upd_same, _, hix, fun q2 h2 q3 h3 => ?_⟩⟩
      have a1 := same_upd (o := .lst [V.str (S [98, 97, 114, 101]), V.str (S [113, 117, 111, 116, 101, 100]), V.str (S [114, 111, 119]), V.str (S [115, 97, 105, 100])]) h1
      have a2 := same_upd (o := .tup [tx eAttr, tx [97], tx (wKind y)]) h2
      have a3 := same_upd (o := .lst [V.ref q2]) h3
      have A3 := a1.trans (a2.trans a3)
      refine ⟨_, upd_same, es, A3 _ _ he1, by simp; omega, fun q4 h4 q5 h5 q6 h6 => ?_⟩
      have a4 := same_upd (o := .lst ([V.ref q2] ++ es)) h4
      have a5 := same_upd (o := .tup [tx eSign, tx [120]]) h5
      have a6 := same_upd (o := .lst [V.ref q5]) h6
      refine ⟨_, (a5.trans a6) _ _ upd_same, _, upd_same, by simp; omega, fun q7 h7 q8 h8 => ?_⟩
      have a7 := same_upd (o := .lst ([V.ref q2] ++ es ++ [V.ref q5])) h7
      have a8 := same_upd (o := .tup [tx (wLead y), tx (wPl y), .ref q7]) h8
      have A8 := A3.trans (a4.trans (a5.trans (a6.trans (a7.trans a8))))
      have hD8 := A8 _ _ hD4
      have hD6 := (A3.trans (a4.trans (a5.trans a6))) _ _ hD4
      refine ⟨vs, hD8, by omega, .inl ⟨rfl, _, SqL.of upd_same⟩, fun q9 h9 q10 h10 q11 h11 => ?_⟩
      have P8 := pt_add (t := wLead y) (pl := some (wPl y)) (es := [[eAttr, [97], wKind y]] ++ wEv y ++ [[eSign, [120]]]) (hpa.mono (g4.trans A8) fun _ h => h) hD8 (q := q8) (ea := q7) upd_same
        ⟨_, a8 _ _ upd_same, EvA.app (EvA.app (.cons ⟨q2, rfl, (a3.trans (a4.trans (a5.trans (a6.trans (a7.trans a8))))) _ _ upd_same⟩ .nil) (he2.mono A8)) (.cons ⟨q5, rfl, (a6.trans (a7.trans a8)) _ _ upd_same⟩ .nil)⟩ (ne_of_none hD6 h7).symm
      have a9 := same_upd (o := .tup [tx eSign, tx [120]]) h9
      have a10 := same_upd (o := .lst [V.ref q9]) h10
      have a11 := same_upd (o := .tup [tx (wClose y), .non, .ref q10]) h11
      have hD11 := (a9.trans (a10.trans a11)) _ _ (upd_same (a := D) (o := .lst (vs ++ [V.ref q8])))
      have hD9 := a9 _ _ (upd_same (a := D) (o := .lst (vs ++ [V.ref q8])))
      have P11 := pt_add (t := wClose y) (pl := none) (es := [[eSign, [120]]]) (P8.mono (a9.trans (a10.trans a11)) fun _ h => h) hD11 (q := q11) (ea := q10) upd_same
        ⟨_, a11 _ _ upd_same, .cons ⟨q9, rfl, (a10.trans a11) _ _ upd_same⟩ .nil⟩ (ne_of_none hD9 h10).symm
      refine ⟨_, hD11, by simp; omega, ?_⟩
      have c2 := (hch.app (lead_chain ham y)).app (close_chain wd y)
      refine ⟨_, _, _, _, _, _, _, _, _, _, rfl, ?_, upd_same, P11, c2, end_amid wd y, ?_, ?_⟩
      · exact same_out hD ((same_out hD (g3.trans (g4.trans A8))).trans (a9.trans (a10.trans a11)))
      · rw [List.append_assoc]
        exact small_app hsp (way_small y)
      · simp only [List.length_append, List.length_cons, List.length_nil]; omega
    · rintro σ H3 ⟨vs, ps, s, P, o3, o4, o5, o6, o7, o8, rfl, g3, hDv, hpa, hch, ham, hsp, hpl⟩
      have hvl := hpa.len
      walk_at "rd"
      refine ⟨.inl ⟨rfl, _, SqL.of hDv⟩, fun q1 h1 q2 h2 q3 h3 q4 h4 => ?_⟩
      have a1 := same_upd (o := .tup [tx eIn]) h1
      have a2 := same_upd (o := .tup [tx eSign, tx [120]]) h2
      have a3 := same_upd (o := .lst [V.ref q1, V.ref q2]) h3
      have a4 := same_upd (o := .tup [tx [62, 120], tx mText, .ref q3]) h4
      have A4 := a1.trans (a2.trans (a3.trans a4))
      have hD2 := (a1.trans a2) _ _ hDv
      have hD4 := A4 _ _ hDv
      refine ⟨vs, hD4, by omega, fun b H5 hb g5 => ?_⟩
      have P4 := pt_add (t := [62, 120]) (pl := some mText) (es := [[eIn], [eSign, [120]]]) (hpa.mono A4 fun _ h => h) hD4 (q := q4) (ea := q3) upd_same
        ⟨_, a4 _ _ upd_same, .cons ⟨q1, rfl, (a2.trans (a3.trans a4)) _ _ upd_same⟩ (.cons ⟨q2, rfl, (a3.trans a4) _ _ upd_same⟩ .nil)⟩ (ne_of_none hD2 h3).symm
      have P5 := P4.mono g5 fun _ h => h
      have hD5 := g5 _ _ (upd_same (a := D) (o := .lst (vs ++ [V.ref q4])))
      have G5 := (same_out hD (ys := vs ++ [V.ref q4]) (g3.trans A4)).trans g5
      have C5 := hch.app (in_chain hna ham)
      have S5 : Small (ps ++ [inP]) := small_app hsp (by
        intro q hq
        rw [List.mem_singleton.mp hq]
        exact ⟨by decide, by decide, by decide, fun p e => by cases e; exact .inl rfl⟩)
      have SO : Small [outP wd] := by
        intro q hq
        rw [List.mem_singleton.mp hq]
        have := hnm.2.1
        refine ⟨?_, by simp [outP], by simp [outP], fun p e => by cases e; exact .inl rfl⟩
        show ([120] ++ shL wd).length ≤ 20
        unfold shL
        simp only [List.length_append, List.length_cons, List.length_nil]
        omega
      have wl := hnm.2.1
      have hpl' : ps.length ≤ 7 := by omega
      have fin : ∀ (X : Hp) (us : List V) (rs : List Part), X D = some (.lst us) → PtA (· ≠ D) X us rs → Chain s00 [] rs ⟨mText, [], [wd], []⟩ [] → Small rs → rs.length ≤ 11 → Same H X → 3 + List.length wd ≤ 16777216 ∧ List.length wd ≤ 16777212 ∧
          ∀ (p : Addr), X p = none → ∀ (p_1 : Addr), upd X p (HO.tup [V.str (S [115, 105, 103, 110]), V.str (S [120])]) p_1 = none → ∀ (p_2 : Addr), upd (upd X p (HO.tup [V.str (S [115, 105, 103, 110]), V.str (S [120])])) p_1 (HO.tup [V.str (S [111, 117, 116])]) p_2 = none →
          ∀ (p_3 : Addr), upd (upd (upd X p (HO.tup [V.str (S [115, 105, 103, 110]), V.str (S [120])])) p_1 (HO.tup [V.str (S [111, 117, 116])])) p_2 (HO.lst [V.ref p, V.ref p_1]) p_3 = none →
          ∃ x, upd (upd (upd (upd X p (HO.tup [V.str (S [115, 105, 103, 110]), V.str (S [120])])) p_1 (HO.tup [V.str (S [111, 117, 116])])) p_2 (HO.lst [V.ref p, V.ref p_1])) p_3 (HO.tup [V.str (S (120 :: 60 :: 47 :: (wd ++ [62]))), V.str (S [116, 101, 120, 116]), V.ref p_2]) D = some (HO.lst x) ∧ x.length < 16777216 ∧
          Q (V.ref D) (upd (upd (upd (upd (upd X p (HO.tup [V.str (S [115, 105, 103, 110]), V.str (S [120])])) p_1 (HO.tup [V.str (S [111, 117, 116])])) p_2 (HO.lst [V.ref p, V.ref p_1])) p_3 (HO.tup [V.str (S (120 :: 60 :: 47 :: (wd ++ [62]))), V.str (S [116, 101, 120, 116]), V.ref p_2])) D (HO.lst (x ++ [V.ref p_3]))) := by
        intro X us rs hDX hpX hcX hsX hlX gX
        refine ⟨by omega, by omega, fun r1 h1 r2 h2 r3 h3 r4 h4 => ?_⟩
        have b1 := same_upd (o := .tup [tx eSign, tx [120]]) h1
        have b2 := same_upd (o := .tup [tx eOut]) h2
        have b3 := same_upd (o := .lst [V.ref r1, V.ref r2]) h3
        have b4 := same_upd (o := .tup [tx (120 :: 60 :: 47 :: (wd ++ [62])), tx mText, .ref r3]) h4
        have B4 := b1.trans (b2.trans (b3.trans b4))
        have hul := hpX.len
        refine ⟨us, B4 _ _ hDX, by omega, ?_⟩
        have P := pt_add (t := 120 :: 60 :: 47 :: (wd ++ [62])) (pl := some mText) (es := [[eSign, [120]], [eOut]]) (hpX.mono B4 fun _ h => h) (B4 _ _ hDX) (q := r4) (ea := r3) upd_same
          ⟨_, b4 _ _ upd_same, .cons ⟨r1, rfl, (b2.trans (b3.trans b4)) _ _ upd_same⟩ (.cons ⟨r2, rfl, (b3.trans b4) _ _ upd_same⟩ .nil)⟩ (ne_of_none ((b1.trans b2) _ _ hDX) h3).symm
        exact q D (rs ++ [outP wd]) _ ⟨_, upd_same, P.mono (Same.refl _) fun _ _ => True.intro⟩ (hcX.app (out_chain hw)) (small_app hsX SO) (by rw [List.length_append, List.length_singleton]; omega) (same_out hD (gX.trans B4))
      split
      · refine ⟨.inl ⟨rfl, _, SqL.of hD5⟩, fun r1 h1 r2 h2 r3 h3 r4 h4 r5 h5 r6 h6 => ?_⟩
        have b1 := same_upd (o := .tup [tx eSign, tx [120]]) h1
        have b2 := same_upd (o := .tup [tx eBox, tx [98]]) h2
        have b3 := same_upd (o := .tup [tx eIn]) h3
        have b4 := same_upd (o := .tup [tx eOut]) h4
        have b5 := same_upd (o := .lst [V.ref r1, V.ref r2, V.ref r3, V.ref r4]) h5
        have b6 := same_upd (o := .tup [tx [120, 60, 98, 47, 62], tx mText, .ref r5]) h6
        have B6 := b1.trans (b2.trans (b3.trans (b4.trans (b5.trans b6))))
        have hul := P5.len
        rw [List.length_append, List.length_append] at hul
        refine ⟨_, B6 _ _ hD5, by rw [List.length_append]; simp only [List.length_singleton] at hul ⊢; omega, .inl ⟨rfl, _, SqL.of upd_same⟩, ?_⟩
        have P := pt_add (t := [120, 60, 98, 47, 62]) (pl := some mText) (es := [[eSign, [120]], [eBox, [98]], [eIn], [eOut]]) (P5.mono B6 fun _ h => h) (B6 _ _ hD5) (q := r6) (ea := r5) upd_same
          ⟨_, b6 _ _ upd_same, .cons ⟨r1, rfl, (b2.trans (b3.trans (b4.trans (b5.trans b6)))) _ _ upd_same⟩ (.cons ⟨r2, rfl, (b3.trans (b4.trans (b5.trans b6))) _ _ upd_same⟩ (.cons ⟨r3, rfl, (b4.trans (b5.trans b6)) _ _ upd_same⟩ (.cons ⟨r4, rfl, (b5.trans b6) _ _ upd_same⟩ .nil)))⟩ (ne_of_none ((b1.trans (b2.trans (b3.trans b4))) _ _ hD5) h5).symm
        refine fin _ _ _ upd_same P (C5.app box_chain) (small_app S5 ?_) ?_ (same_out hD (G5.trans B6))
        · intro q hq
          rw [List.mem_singleton.mp hq]
          exact ⟨by decide, by decide, by decide, fun p e => by cases e; exact .inl rfl⟩
        · simp only [List.length_append, List.length_cons, List.length_nil]; omega
      · refine ⟨.inl ⟨rfl, _, SqL.of hD5⟩, ?_⟩
        exact fin _ _ _ hD5 P5 C5 S5 (by simp only [List.length_append, List.length_cons, List.length_nil]; omega) G5

end

section
variable {P : Program} {w : World} {K : PySem.W.Frag} {mg : Str → Option Value} {base : Heap} {t : Ads}
theorem sign_comp {l : List Nat} {σ : L2.St} {H : Hp} {Q : VK} (hl : l.length ≤ 100000) (hq : ∀ D H2, H D = none → Same H H2 → EvL H2 D (sgE l) → Q (.ref D) H2) : lcBody (Its (S l)) tTrue (tTup (tCons (tC (V.str (S [115, 105, 103, 110]))) (tCons (tVar 0) tNil))) σ H Q := by
  refine lc_strG (fun c v H => EvV H v [eSign, [c]]) (fun c v H1 H2 h g => h.mono g) (fun c v H1 D xs ys h hD => h.updL hD) (by rw [PySem.sizeLine_eq]; omega) (fun c hc H1 g R r => ?_) (fun D H2 ys hD g hy hG hD2 => hq D H2 hD g ⟨ys, hD2, evA_of hy hG⟩)
  walk_at "rd"
  exact fun p hp => r _ _ (same_upd hp) ⟨p, rfl, upd_same⟩
theorem cutV1 {v : V} {vs : List V} : cutV (v :: vs) (some 1) none = vs := by
  unfold cutV
  rw [HT.sIx_none, show (1 : Int) = ((1 : Nat) : Int) from rfl, HT.sIx_nat]
  simp
def pI (pa : Addr) (ps : List Part) (ts : List Tx) (H : Hp) (i : Nat) (σ : L2.St) (H' : Hp) : Prop := ∃ (vp ep : Addr) (m : Tx) (es : List Ev) (vs : List Tx) (o4 o5 o6 : Option V), σ = [some (V.ref pa), some (V.ref vp), some (V.str (S m)), some (V.ref ep), o4, o5, o6] ∧ Same H H' ∧ H' vp = some (.lst (vs.map tx)) ∧ EvL H' ep es ∧ m ++ pressT (ps.drop i) vs = pressT ps ts ∧ es ++ pressE (ps.drop i) vs = pressE ps ts ∧ holes (ps.drop i) ≤ vs.length ∧ vs.length ≤ 100 ∧ VOk vs ∧ m.length ≤ 2000 * i ∧ es.length ≤ 200 * i
theorem ok_law_pressed (T : Txt w K mg t) (D : Df K mg "_law_pressed" s__law_pressed ps__law_pressed) (F_put : OkX P w K mg base 4 "put" ps_put (sp_put K t)) : OkF P w K mg base 5 "_law_pressed" ps__law_pressed sp__law_pressed := by
  refine D.ok sc__law_pressed (fun vs H Q E h => ?_) (fun f cdv A outer s H vs Q E hr h => ?_)
  · obtain ⟨_, _, _, _, rfl, _⟩ := h; rfl
  · obtain ⟨pa, va, ps, ts, rfl, hp, hv, hsm, hvo, hpl, hh, htl, q⟩ := h
    refine ⟨_, ((qss_cons (qs_set (i := 2) sc__law_pressed.nd (by rfl) (Or.inl (by rfl)) (qe_S (l := []) (by decide +kernel)))
      (qss_cons (qs_set (i := 3) sc__law_pressed.nd (by rfl) (Or.inl (by rfl)) (qe_lst qa_nil))
      (qss_cons (qs_for PassesOwn.never (by rfl) (qi_listK (K := K) (by rfl) (qv 0)) (qg_tup (n := 3) (by rfl) (qgs_cons (qg_name (i := 4) sc__law_pressed.nd (by rfl) (Or.inl (by rfl))) (qgs_cons (qg_name (i := 5) sc__law_pressed.nd (by rfl) (Or.inl (by rfl))) (qgs_cons (qg_name (i := 6) sc__law_pressed.nd (by rfl) (Or.inl (by rfl))) qgs_nil)))) (qss_cons (qs_set (i := 2) sc__law_pressed.nd (by rfl) (Or.inl (by rfl)) (qe_op op_addS (qv 2) (qv 4)))
      (qss_cons (qs_set (i := 3) sc__law_pressed.nd (by rfl) (Or.inl (by rfl)) (qe_op op_cat (qv 3) (qv 6)))
      (qss_one (qs_if (qt_cmpR op_notN (qv 5) qe_non (nomark _)) (qss_cons (qs_set (i := 2) sc__law_pressed.nd (by rfl) (Or.inl (by rfl)) (qe_op op_addS (qv 2) (qe_callN F_put hr (by decide) (qa_cons (qv 5) (qa_cons (qe_ix (ix_listK (K := K) (by rfl)) (qv 1) qe_int (fun _ _ => (by rfl))) qa_nil)))))
      (qss_cons (qs_set (i := 3) sc__law_pressed.nd (by rfl) (Or.inl (by rfl)) (qe_op op_cat (qv 3) ⟨pe_lc (lcs (N := N__law_pressed) (sc := defScope s__law_pressed) rfl rfl rfl (by decide +kernel)) ((qi_str (qe_ix (ix_listK (K := K) (by rfl)) (qv 1) qe_int (fun _ _ => (by rfl))))).h (fun _ _ _ _ _ => qts_nil.h) (fun _ _ _ _ _ => ((qe_tup (qa_cons (qe_S (l := [115, 105, 103, 110]) (by decide +kernel)) (qa_cons (qv 0) qa_nil)))).h)⟩))
      (qss_one (qs_set (i := 1) sc__law_pressed.nd (by rfl) (Or.inl (by rfl)) (qe_slice (sl_listK (K := K) (by rfl)) (qv 1) (qo_some qe_int) qo_none))))) qss_nil)))))
      (qss_one (qs_ret (qe_tup (qa_cons (qv 2) (qa_cons (qv 3) qa_nil))))))))).h, ?_⟩
    walk_at "rd"
    intro p hp1
    obtain ⟨xs, h1, h2⟩ := hp
    have k1 := same_upd (o := .lst []) hp1
    refine ⟨⟨_, SqL.of (k1 _ _ h1)⟩, fb_list (K := K) (a := pa) (xs := xs) (pI pa ps ts H) ⟨va, p, [], [], ts, _, _, _, rfl, k1, k1 _ _ hv, ⟨[], upd_same, .nil⟩, rfl, rfl, hh, htl, hvo, by simp, by simp⟩ (fun j σ H' _ hI => ?_) ?_ ?_⟩
    · obtain ⟨_, _, _, _, _, _, _, _, _, g, _⟩ := hI
      exact SqL.of (g _ _ h1)
    · rintro i x σ H2 hx ⟨vp, ep, m, es, vs, o4, o5, o6, rfl, g2, hvp, hep, eT, eE, hho, hvl, hvk, hml, hel⟩
      obtain ⟨⟨qt, qp, qe⟩, hq, ⟨pq, ea, rfl, hpq, hea, _⟩⟩ := h2.get hx
      have hil : i < ps.length := (List.getElem?_eq_some_iff.mp hq).1
      have hdr : ps.drop i = (qt, qp, qe) :: ps.drop (i + 1) := by
        rw [List.drop_eq_getElem_cons hil]
        rw [List.getElem?_eq_getElem hil] at hq
        rw [Option.some.inj hq]
      rw [hdr] at eT eE hho
      obtain ⟨s1, s2, s3, s4⟩ := hsm _ (List.mem_of_getElem? hq)
      simp only at s1 s2 s3 s4
      have hpq2 := g2 _ _ hpq
      have hea2 := hea.mono g2
      walk_at "rd"
      obtain ⟨xe, x1, x2⟩ := hep
      obtain ⟨ye, y1, y2⟩ := hea2
      have xl := x2.len
      have yl : ye.length = qe.length := y2.len
      refine ⟨_, SqT.of hpq2, rfl, _, _, rfl, _, _, rfl, _, _, rfl, rfl, qt, rfl, by omega, ea, rfl, xe, x1, ye, y1, by omega, fun p5 hp5 => ?_⟩
      have k5 := same_upd (o := .lst (xe ++ ye)) hp5
      have x5 : EvA (upd H2 p5 (.lst (xe ++ ye))) (xe ++ ye) (es ++ qe) := (x2.mono k5).app (y2.mono k5)
      cases qp with
      | none =>
        rw [if_neg (by simp [plO])]
        refine ⟨vp, p5, m ++ qt, es ++ qe, vs, _, _, _, rfl, g2.trans k5, k5 _ _ hvp, ⟨_, upd_same, x5⟩, by rw [List.append_assoc]; exact eT, by rw [List.append_assoc]; exact eE, hho, hvl, hvk, by rw [List.length_append]; omega, by rw [List.length_append]; omega⟩
      | some pl =>
        rw [if_pos (by simp [plO])]
        rw [holes_some] at hho
        cases vs with
        | nil => simp at hho
        | cons v vs =>
          obtain ⟨v1, v2⟩ := hvk v List.mem_cons_self
          have hpp := putL_len pl v
          rw [List.length_cons] at hho hvl
          have sgl : (sgE v).length = v.length := List.length_map _
          refine ⟨_, SqL.of (k5 _ _ hvp), tx v, at0, pl, rfl, s4 _ rfl, none, .inl ⟨v, rfl, by omega, (fb_sg v2).symm⟩, fun _ l hl H6 g6 => ?_, fun b hb => nomatch hb⟩
          have hl' : l = v := (S_inj.mp (V.str.inj hl)).symm
          subst hl'
          refine ⟨by rw [List.length_append]; omega, _, SqL.of ((k5.trans g6) _ _ hvp), tx l, at0, _, rfl, ?_⟩
          refine sign_comp (by omega) fun D H7 hD7 g7 ⟨ze, z1, z2⟩ => ?_
          have zl := z2.len
          have x7 := x5.mono (g6.trans g7)
          refine ⟨D, rfl, _, (g6.trans g7) _ _ upd_same, ze, z1, by rw [List.length_append]; omega, fun p8 hp8 => ?_⟩
          have k8 := same_upd (o := .lst (xe ++ ye ++ ze)) hp8
          refine ⟨_, SqL.of ((k5.trans (g6.trans (g7.trans k8))) _ _ hvp), fun p9 hp9 => ?_⟩
          have k9 := same_upd (o := .lst (cutV (V.str (S l) :: vs.map tx) (some 1) none)) hp9
          have K89 := k8.trans k9
          refine ⟨p9, p8, m ++ qt ++ putL pl l, es ++ qe ++ sgE l, vs, _, _, _, rfl, g2.trans (k5.trans (g6.trans (g7.trans K89))), ?_, ⟨_, k9 _ _ upd_same, (x7.mono K89).app (z2.mono K89)⟩, ?_, ?_, by omega, by omega, fun x hx => hvk x (List.mem_cons_of_mem _ hx), ?_, ?_⟩
          · rw [List.map_cons, cutV1]
            exact upd_same
          · simp only [pressT] at eT
            rw [← eT]
            simp only [List.append_assoc]
          · simp only [pressE] at eE
            rw [← eE]
            simp only [List.append_assoc]
          · simp only [List.length_append]; omega
          · simp only [List.length_append]; omega
    · rintro σ H2 ⟨vp, ep, m, es, vs, o4, o5, o6, rfl, g2, hvp, hep, eT, eE, hho, hvl, hvk, hml, hel⟩
      walk_at "rd"
      intro p3 hp3
      rw [h2.len, List.drop_length] at eT eE
      simp only [pressT, pressE, List.append_nil] at eT eE
      rw [← eT, ← eE] at q
      exact q p3 ep _ (g2.trans (same_upd hp3)) upd_same (hep.mono (same_upd hp3))

end

section
variable {P : Program} {w : World} {K : PySem.W.Frag} {mg : Str → Option Value} {base : Heap} {t : Ads}
theorem seq_gen4 {a b c d e : TS} {D : Ends} {σ : L2.St} {H : Hp} (R : L2.St → Hp → Prop) (hr : ∀ σ' H', R σ' H' → e D σ' H') (h : ∀ N : L2.St → Hp → Prop, (∀ σ' H', R σ' H' → N σ' H') → tSeq a (tSeq b (tSeq c d)) { D with nx := N } σ H) : tSeq a (tSeq b (tSeq c (tSeq d e))) D σ H := h (e D) hr
theorem seq_gen {a b : TS} {D : Ends} {σ : L2.St} {H : Hp} (R : L2.St → Hp → Prop) (hr : ∀ σ' H', R σ' H' → b D σ' H') (h : ∀ N : L2.St → Hp → Prop, (∀ σ' H', R σ' H' → N σ' H') → a { D with nx := N } σ H) : tSeq a b D σ H := h (b D) hr
theorem rfin : runM s00 (60 :: 97 :: 32 :: 98 :: 61 :: 34 :: (putL [113, 117, 111, 116, 101, 100] [39, 34] ++ [34, 32, 99, 33, 34, 39] ++ putL [115, 97, 105, 100] [39, 34] ++ [39, 34, 62])) = .ok (⟨mText, [], [[97]], []⟩, [[eBox, [97]], [eAttr, [98], mQuoted], [eSign, [39]], [eSign, [34]], [eAttr, [99], mTalk], [eSaid], [eSign, [39]], [eSign, [34]], [eIn]]) := rfl
def lI (a : Addr) (H : Hp) (_ : Nat) (σ : L2.St) (H' : Hp) : Prop := ∃ o1 o2 o3 o4 o5 o6 o7 o8 o9 o10 : Option V, σ = [some (V.ref a), o1, o2, o3, o4, o5, o6, o7, o8, o9, o10] ∧ Same H H'
def ShA (H : Hp) (es : List Ev) (vs : List V) : Prop := ∀ v ∈ vs, ∃ b, v = V.ref b ∧ EvL H b es
def vI (a pa sh : Addr) (i c : Int) (n : Nat) (es : List Ev) (H : Hp) (j : Nat) (σ : L2.St) (H' : Hp) : Prop := ∃ (vs : List V) (o6 o7 o8 o9 o10 : Option V), σ = [some (V.ref a), some (V.int i), some (V.int c), some (V.ref pa), some (V.int n), some (V.ref sh), o6, o7, o8, o9, o10] ∧ Same H H' ∧ H' sh = some (.lst vs) ∧ vs.length = j ∧ (∀ v ∈ vs, ∃ b, v = V.ref b ∧ b ≠ sh ∧ EvL H' b es)
theorem ok_law (T : Txt w K mg t) (D : Df K mg "law" s_law ps_law) (F__law_cell : OkF P w K mg base 1 "_law_cell" ps__law_cell (sp__law_cell K)) (F__law_parts : OkF P w K mg base 3 "_law_parts" ps__law_parts sp__law_parts) (F__law_values : OkF P w K mg base 3 "_law_values" ps__law_values sp__law_values) (F__law_signs : OkF P w K mg base 1 "_law_signs" ps__law_signs sp__law_signs) (F__law_pressed : OkF P w K mg base 5 "_law_pressed" ps__law_pressed sp__law_pressed) (F__law_ran : OkF P w K mg base 9 "_law_ran" ps__law_ran sp__law_ran) (F_is_end : OkF P w K mg base 2 "is_end" ps_is_end sp_is_end) (F__law_shape : OkF P w K mg base 1 "_law_shape" ps__law_shape sp__law_shape) (F_put : OkX P w K mg base 4 "put" ps_put (sp_put K t)) : OkF P w K mg base 10 "law" ps_law (sp_law K) := by
  refine D.ok sc_law (fun vs H Q E h => ?_) (fun f cdv A outer s H vs Q E hr h => ?_)
  · obtain ⟨_, _, rfl, _⟩ := h; rfl
  · obtain ⟨a, ns', rfl, hS, h63, q⟩ := h
    refine ⟨_, ((qss_cons (qs_for PassesOwn.never (by rfl) (qi_range1 (by rfl) T.z_range (qa_cons (qe_callB (call_max2 (by rfl)) (by rfl) T.z_max bb_max (qa_cons qe_int (qa_cons (qe_callB (call_min2 (by rfl)) (by rfl) T.z_min bb_min (qa_cons (qe_callB (call_lenLK (K := K) (by rfl)) (by rfl) T.z_len bb_len (qa_cons (qv 0) qa_nil)) (qa_cons qe_int qa_nil))) qa_nil))) qa_nil)) (qg_name (i := 1) sc_law.nd (by rfl) (Or.inl (by rfl))) (qss_cons (qs_set (i := 2) sc_law.nd (by rfl) (Or.inl (by rfl)) (qe_callF F__law_cell hr (by decide) (qa_cons (qv 0) (qa_cons (qv 1) qa_nil))))
      (qss_cons (qs_set (i := 3) sc_law.nd (by rfl) (Or.inl (by rfl)) (qe_op op_cat (qe_callF F__law_parts hr (by decide) (qa_cons (qv 2) qa_nil)) (qe_callF F__law_parts hr (by decide) (qa_cons (qe_op op_add (qe_op op_fdiv (qv 2) qe_int) qe_int) qa_nil))))
      (qss_cons (qs_set (i := 4) sc_law.nd (by rfl) (Or.inl (by rfl)) (qe_callB (call_lenLK (K := K) (by rfl)) (by rfl) T.z_len bb_len (qa_cons ⟨pe_lc (lcs (N := N_law) (sc := defScope s_law) rfl rfl rfl (by decide +kernel)) ((qi_listK (K := K) (by rfl) (qv 3))).h (fun _ _ _ _ _ => (qts_one (qt_cmpR op_notN (qe_ix (ix_tupK (K := K) (by rfl)) (qv 0) qe_int (fun _ _ => (by rfl))) qe_non (nomark _))).h) (fun _ _ _ _ _ => ((qv 0)).h)⟩ qa_nil)))
      (qss_cons (qs_set (i := 5) sc_law.nd (by rfl) (Or.inl (by rfl)) (qe_lst qa_nil))
      (qss_cons (qs_for PassesOwn.never (by rfl) (qi_tupK (K := K) (by rfl) (qe_tup (qa_cons (qe_callF F__law_values hr (by decide) (qa_cons (qv 2) (qa_cons (qv 4) qa_nil))) (qa_cons (qe_callF F__law_values hr (by decide) (qa_cons (qe_op op_add (qe_op op_fdiv (qv 2) qe_int) qe_int) (qa_cons (qv 4) qa_nil))) (qa_cons (qe_op op_mulL (qe_lst (qa_cons (qe_S (l := []) (by decide +kernel)) qa_nil)) (qv 4)) (qa_cons (qe_op op_mulL (qe_lst (qa_cons (qe_callF0 F__law_signs hr (by decide)) qa_nil)) (qv 4)) qa_nil)))))) (qg_name (i := 6) sc_law.nd (by rfl) (Or.inl (by rfl))) (qss_cons (qs_asg (qe_callF F__law_pressed hr (by decide) (qa_cons (qv 3) (qa_cons (qv 6) qa_nil))) (qg_tup (n := 2) (by rfl) (qgs_cons (qg_name (i := 7) sc_law.nd (by rfl) (Or.inl (by rfl))) (qgs_cons (qg_name (i := 8) sc_law.nd (by rfl) (Or.inl (by rfl))) qgs_nil))))
      (qss_cons (qs_set (i := 9) sc_law.nd (by rfl) (Or.inl (by rfl)) (qe_callF F__law_ran hr (by decide) (qa_cons (qv 7) qa_nil)))
      (qss_cons (qs_if (QW.qt (qw_or (qt_cmpR (op_neD (hu64 hr)) (qe_ix (ix_tupK (K := K) (by rfl)) (qv 9) qe_int (fun _ _ => (by rfl))) (qv 8) (nomark _)) (qw_or1 (qt_cmpR op_isnotB (qe_callF F_is_end hr (by decide) (qa_cons (qe_ix (ix_tupK (K := K) (by rfl)) (qv 9) qe_int (fun _ _ => (by rfl))) qa_nil)) qe_bl (nomark _))))) (qss_one (qs_ret qe_bl)) qss_nil)
      (qss_one (qs_expr (qe_bmK (K := K) (by rfl) PySem.F.plainAttrs_list PySem.F.slot_list_append PySem.F.type_list_append mt_append (qv 5) (qa_cons (qe_callF F__law_shape hr (by decide) (qa_cons (qe_ix (ix_tupK (K := K) (by rfl)) (qv 9) qe_int (fun _ _ => (by rfl))) qa_nil)) qa_nil))))))))
      (qss_one (qs_if (QW.qt (qw_or (qt_cmpR (op_neD (hu64 hr)) (qe_ix (ix_listK (K := K) (by rfl)) (qv 5) qe_int (fun _ _ => (by rfl))) (qe_ix (ix_listK (K := K) (by rfl)) (qv 5) qe_int (fun _ _ => (by rfl))) (nomark _)) (qw_or (qt_cmpR (op_neD (hu64 hr)) (qe_ix (ix_listK (K := K) (by rfl)) (qv 5) qe_int (fun _ _ => (by rfl))) (qe_ix (ix_listK (K := K) (by rfl)) (qv 5) qe_int (fun _ _ => (by rfl))) (nomark _)) (qw_or1 (qt_cmpR (op_neD (hu64 hr)) (qe_ix (ix_listK (K := K) (by rfl)) (qv 5) qe_int (fun _ _ => (by rfl))) (qe_ix (ix_listK (K := K) (by rfl)) (qv 5) qe_int (fun _ _ => (by rfl))) (nomark _)))))) (qss_one (qs_ret qe_bl)) qss_nil))))))))
      (qss_cons (qs_set (i := 7) sc_law.nd (by rfl) (Or.inl (by rfl)) (qe_op op_addS (qe_op op_addS (qe_op op_addS (qe_op op_addS (qe_S (l := [60, 97, 32, 98, 61, 34]) (by decide +kernel)) (qe_callN F_put hr (by decide) (qa_cons (qe_S (l := [113, 117, 111, 116, 101, 100]) (by decide +kernel)) (qa_cons (qe_S (l := [39, 34]) (by decide +kernel)) qa_nil)))) (qe_S (l := [34, 32, 99, 33, 34, 39]) (by decide +kernel))) (qe_callN F_put hr (by decide) (qa_cons (qe_S (l := [115, 97, 105, 100]) (by decide +kernel)) (qa_cons (qe_S (l := [39, 34]) (by decide +kernel)) qa_nil)))) (qe_S (l := [39, 34, 62]) (by decide +kernel))))
      (qss_cons (qs_set (i := 10) sc_law.nd (by rfl) (Or.inl (by rfl)) (qe_lst (qa_cons (qe_tup (qa_cons (qe_S (l := [98, 111, 120]) (by decide +kernel)) (qa_cons (qe_S (l := [97]) (by decide +kernel)) qa_nil))) (qa_cons (qe_tup (qa_cons (qe_S (l := [97, 116, 116, 114]) (by decide +kernel)) (qa_cons (qe_S (l := [98]) (by decide +kernel)) (qa_cons (qe_S (l := [113, 117, 111, 116, 101, 100]) (by decide +kernel)) qa_nil)))) (qa_cons (qe_tup (qa_cons (qe_S (l := [115, 105, 103, 110]) (by decide +kernel)) (qa_cons (qe_S (l := [39]) (by decide +kernel)) qa_nil))) (qa_cons (qe_tup (qa_cons (qe_S (l := [115, 105, 103, 110]) (by decide +kernel)) (qa_cons (qe_S (l := [34]) (by decide +kernel)) qa_nil))) (qa_cons (qe_tup (qa_cons (qe_S (l := [97, 116, 116, 114]) (by decide +kernel)) (qa_cons (qe_S (l := [99]) (by decide +kernel)) (qa_cons (qe_S (l := [116, 97, 108, 107]) (by decide +kernel)) qa_nil)))) (qa_cons (qe_tup (qa_cons (qe_S (l := [115, 97, 105, 100]) (by decide +kernel)) qa_nil)) qa_nil))))))))
      (qss_one (qs_ret (qe_cmpR (op_eqD (hu64 hr)) (qe_ix (ix_tupK (K := K) (by rfl)) (qe_callF F__law_ran hr (by decide) (qa_cons (qv 7) qa_nil)) qe_int (fun _ _ => (by rfl))) (qe_op op_cat (qv 10) (qe_lst (qa_cons (qe_tup (qa_cons (qe_S (l := [115, 105, 103, 110]) (by decide +kernel)) (qa_cons (qe_S (l := [39]) (by decide +kernel)) qa_nil))) (qa_cons (qe_tup (qa_cons (qe_S (l := [115, 105, 103, 110]) (by decide +kernel)) (qa_cons (qe_S (l := [34]) (by decide +kernel)) qa_nil))) (qa_cons (qe_tup (qa_cons (qe_S (l := [105, 110]) (by decide +kernel)) qa_nil)) qa_nil))))) (nomark _)))))))).h, ?_⟩
    walk_at "rd"
    refine ⟨_, .inl hS, ?_⟩
    rw [List.length_map]
    generalize hn0 : (if (if (4 : Int) < (ns'.length : Int) then 4 else (ns'.length : Int)) > 1 then if (4 : Int) < (ns'.length : Int) then 4 else (ns'.length : Int) else 1) = n0
    have hb : 0 ≤ n0 ∧ n0 ≤ 4 := by rw [← hn0]; split <;> (try split) <;> omega
    refine ⟨by omega, by omega, fb_range (lI a H) ⟨_, _, _, _, _, _, _, _, _, _, rfl, Same.refl H⟩ ?_ ?_⟩
    · rintro i σ H1 hi ⟨o1, o2, o3, o4, o5, o6, o7, o8, o9, o10, rfl, g1⟩
      simp only [gName, List.set_cons_succ, List.set_cons_zero]
      refine seq_gen4 (fun σ' H' => ∃ (c : Int) (pa sh : Addr) (ps : List Part) (H0 : Hp), σ' = [some (V.ref a), some (V.int i), some (V.int c), some (V.ref pa), some (V.int (holes ps)), some (V.ref sh), o6, o7, o8, o9, o10] ∧ Chain s00 [] ps s00 [] ∧ Small ps ∧ ps.length ≤ 24 ∧ Same H1 H0 ∧ PtL H0 pa ps ∧ H0 sh = none ∧ H' = upd H0 sh (.lst [])) ?_ (fun N hN => by
        walk_at "rd"
        refine ⟨ns', g1.seq hS, h63, by omega, fun c H2 g2 p1 ps1 H3 hp1 hc1 hs1 hl1 g3 => ⟨by unfold CDiv; decide, fun p2 ps2 H4 hp2 hc2 hs2 hl2 g4 => ?_⟩⟩
        obtain ⟨xs, x1, x2⟩ := hp1.mono g4
        obtain ⟨ys, y1, y2⟩ := hp2
        have xl := x2.len
        have yl := y2.len
        refine ⟨xs, x1, ys, y1, by omega, fun pa hpa => ⟨⟨_, SqL.of upd_same⟩, ?_⟩⟩
        have k5 := same_upd (o := .lst (xs ++ ys)) hpa
        have X := (x2.app y2).mono k5 (fun _ h => h)
        have Xl := X.len
        rw [List.length_append, List.length_append] at Xl
        refine lc_listF (K := K) (α := Part) (ms := ps1 ++ ps2) (fun q => q.2.1.isSome) (by rw [PySem.sizeLine_eq, List.length_append]; omega) X.len upd_same (fun j v m e1 e2 H6 g6 R r => ?_) (fun D H6 hD g6 e => ?_)
        · obtain ⟨q, e3, ⟨pq, ea, rfl, h1, _, _⟩⟩ := X.get e1
          rw [e2] at e3
          cases e3
          walk_at "rd"
          refine ⟨_, SqT.of (g6 _ _ h1), plO m.2.1, rfl, ?_⟩
          have : (!decide (plO m.2.1 = V.non)) = m.2.1.isSome := by cases m.2.1 <;> simp [plO]
          rw [this]
          exact r
        · refine ⟨D, rfl, _, .inl (SqL.of e), fun sh hsh => ?_⟩
          have zc : ((((xs ++ ys).zip (ps1 ++ ps2)).filter fun z => z.2.2.1.isSome).map fun z => z.1).length = holes (ps1 ++ ps2) := zip_count (f := fun q : Part => q.2.1.isSome) X.len
          rw [zc]
          exact hN _ _ ⟨c, pa, sh, ps1 ++ ps2, H6, rfl, hc1.app hc2, small_app hs1 hs2, by rw [List.length_append]; omega, g2.trans (g3.trans (g4.trans (k5.trans g6))), ⟨_, g6 _ _ upd_same, X.mono g6 fun _ h => h⟩, hsh, rfl⟩)
      rintro σ' H2 ⟨c, pa, sh, ps, H0, rfl, hch, hsm, hpl, g0, hp0, hsh, rfl⟩
      have hho : holes ps ≤ 24 := Nat.le_trans (List.length_filter_le _ _) hpl
      walk_at "rd"
      have s0 := same_upd (o := .lst []) hsh
      refine ⟨by omega, fun v1 ts1 H3 f1 g3 e1 l1 k1 => ⟨by unfold CDiv; decide, by omega, fun v2 ts2 H4 f2 g4 e2 l2 k2 q1 hq1 => ?_⟩⟩
      refine ⟨_, upd_same, by omega, by omega, by simp; omega, fun v3 hv3 H5 g5 q2 hq2 => ?_⟩
      refine ⟨_, upd_same, by omega, by omega, by simp; omega, fun v4 hv4 p6 hp6 => ⟨⟨_, SqT.of upd_same⟩, ?_⟩⟩
      have a1 := same_upd (o := .lst [V.str (S [])]) hq1
      have a2 := same_upd (o := .lst (List.replicate (holes ps : Int).toNat [V.str (S [])]).flatten) hv3
      have a3 := same_upd (o := .lst [V.str (S sg)]) hq2
      have a4 := same_upd (o := .lst (List.replicate (holes ps : Int).toNat [V.str (S sg)]).flatten) hv4
      have a5 := same_upd (o := .tup [V.ref v1, V.ref v2, V.ref v3, V.ref v4]) hp6
      have G4 := g3.trans g4
      have G5 := G4.trans (a1.trans (a2.trans g5))
      have A5 := a3.trans (a4.trans a5)
      have shS : upd H0 sh (.lst []) sh = some (.lst []) := upd_same
      have n1 : v1 ≠ sh := (ne_of_none shS f1).symm
      have n2 : v2 ≠ sh := (ne_of_none (g3 _ _ shS) f2).symm
      have n3 : v3 ≠ sh := (ne_of_none ((G4.trans a1) _ _ shS) hv3).symm
      have n4 : v4 ≠ sh := (ne_of_none ((G5.trans a3) _ _ shS) hv4).symm
      have n6 : p6 ≠ sh := (ne_of_none ((G5.trans (a3.trans a4)) _ _ shS) hp6).symm
      generalize hHe : upd (upd (upd H5 q2 (HO.lst [V.str (S sg)])) v4 (HO.lst (List.replicate (holes ps : Int).toNat [V.str (S sg)]).flatten)) p6 (HO.tup [V.ref v1, V.ref v2, V.ref v3, V.ref v4]) = He at *
      have GE : Same (upd H0 sh (.lst [])) He := G5.trans A5
      have w1 : He v1 = some (.lst (ts1.map tx)) := (g4.trans (a1.trans (a2.trans (g5.trans A5)))) _ _ e1
      have w2 : He v2 = some (.lst (ts2.map tx)) := (a1.trans (a2.trans (g5.trans A5))) _ _ e2
      have w3 : He v3 = some (.lst ((List.replicate (holes ps) ([] : Tx)).map tx)) := by
        have := (g5.trans A5) _ _ (upd_same (H := upd H4 q1 (.lst [V.str (S [])])) (a := v3) (o := .lst (List.replicate (holes ps : Int).toNat [V.str (S [])]).flatten))
        rw [Int.toNat_natCast, rep_tx] at this
        exact this
      have w4 : He v4 = some (.lst ((List.replicate (holes ps) sg).map tx)) := by
        have := a5 _ _ (upd_same (H := upd H5 q2 (.lst [V.str (S sg)])) (a := v4) (o := .lst (List.replicate (holes ps : Int).toNat [V.str (S sg)]).flatten))
        rw [Int.toNat_natCast, rep_tx] at this
        exact this
      have w6 : He p6 = some (.tup [V.ref v1, V.ref v2, V.ref v3, V.ref v4]) := by rw [← hHe]; exact upd_same
      let B : Hp := fun b => if b = sh then none else He b
      have Bn : ∀ b, b ≠ sh → B b = He b := fun b h => if_neg h
      have Bs : B sh = none := if_pos rfl
      have B0 : Same H0 B := fun b o hb => by
        have hne := ne_of_none hb hsh
        rw [Bn b hne]
        exact GE _ _ (s0 _ _ hb)
      have BE : Same B He := fun b o hb => by
        by_cases h : b = sh
        · rw [h, Bs] at hb; cases hb
        · rw [Bn b h] at hb; exact hb
      have rep_ok : ∀ (v : Tx) n, v.length ≤ 94 → (∀ c ∈ v, c ∈ sg) → VOk (List.replicate n v) := fun v n h1 h2 x hx => by rw [(List.mem_replicate.mp hx).2]; exact ⟨h1, h2⟩
      have hmem : ∀ x ∈ [V.ref v1, V.ref v2, V.ref v3, V.ref v4], ∃ va ts, x = V.ref va ∧ B va = some (.lst (List.map tx ts)) ∧ ts.length = holes ps ∧ VOk ts := by
        intro x hx
        simp only [List.mem_cons, List.not_mem_nil, or_false] at hx
        rcases hx with rfl | rfl | rfl | rfl
        · exact ⟨v1, ts1, rfl, by rw [Bn v1 n1]; exact w1, l1, k1⟩
        · exact ⟨v2, ts2, rfl, by rw [Bn v2 n2]; exact w2, l2, k2⟩
        · exact ⟨v3, _, rfl, by rw [Bn v3 n3]; exact w3, by simp, rep_ok [] _ (by simp) (by simp)⟩
        · exact ⟨v4, _, rfl, by rw [Bn v4 n4]; exact w4, by simp, rep_ok sg _ (by rw [sg_len]; decide) (fun c hc => hc)⟩
      have ac := g1.trans (g0.trans B0)
      refine fb_tup (K := K) (a := p6) (xs := [V.ref v1, V.ref v2, V.ref v3, V.ref v4]) (vI a pa sh i c (holes ps) (((ps.map fun q => q.2.2).flatten).filter ns) B) ⟨[], _, _, _, _, _, rfl, BE, GE _ _ shS, rfl, by simp⟩ (fun j σ H' _ hI => ?_) ?_ ?_
      · obtain ⟨_, _, _, _, _, _, _, g, _⟩ := hI
        exact SqT.of (g _ _ (by rw [Bn p6 n6]; exact w6))
      · rintro j x σ H6 hj ⟨vs, o6, o7, o8, o9, o10, rfl, g6, hs6, hvl, hvs⟩
        obtain ⟨va, ts, rfl, hva, htl, hvo⟩ := hmem x (List.mem_of_getElem? hj)
        obtain ⟨em, hrun, hem⟩ := press_run hch (vs := ts) calm0 (by omega) (fun v hv => (hvo v hv).2)
        rw [List.nil_append, List.append_nil] at hem
        rw [← hem] at hrun
        obtain ⟨pl1, pl2, pl3⟩ := press_len hsm hvo
        have hj4 : j < 4 := (List.getElem?_eq_some_iff.mp hj).1
        walk_at "rd"
        refine ⟨ps, (hp0.mono B0).mono g6, ts, g6 _ _ hva, hsm, hvo, hpl, by omega, by omega, fun r ea H7 g7 hr hea => ?_⟩
        refine ⟨_, SqT.of hr, rfl, _, _, rfl, _, _, rfl, rfl, _, rfl, by omega, _, _, hrun, fun v8 H8 g8 hv8 => ?_⟩
        obtain ⟨pf, sa, ef, rfl, h1, h2, h3, _⟩ := hv8
        have he8 := hea.mono g8
        refine ⟨pf, rfl, _, SqT.of h1, _, rfl, _, _, ef, rfl, ea, rfl, h3.dat, he8.dat, by have := dep_Es (pressE ps ts); omega, ?_⟩
        rw [eqD_refl he8.dat.flat, if_neg (by decide)]
        refine ⟨pf, rfl, _, SqT.of h1, _, rfl, _, h2, fun H9 b g9 hb => ?_⟩
        have hb : b = true := hb.mpr rfl
        subst hb
        rw [if_neg (by decide)]
        have hs9 : H9 sh = some (.lst vs) := (g7.trans (g8.trans g9)) _ _ hs6
        refine ⟨.inl ⟨rfl, _, SqL.of hs9⟩, pf, rfl, _, SqT.of (g9 _ _ h1), _, rfl, ef, rfl, _, h3.mono g9, by omega, pl3, fun D H10 hD g10 hDe => ?_⟩
        rw [press_shape] at hDe
        have hs10 := g10 _ _ hs9
        refine ⟨vs, hs10, by omega, vs ++ [V.ref D], _, _, _, _, _, rfl, same_out Bs (g6.trans (g7.trans (g8.trans (g9.trans g10)))), upd_same, by simp [hvl], fun v hv => ?_⟩
        rcases List.mem_append.mp hv with h | h
        · obtain ⟨b, rfl, hb, hbe⟩ := hvs v h
          exact ⟨b, rfl, hb, ev_upd hb hs10 (hbe.mono (g7.trans (g8.trans (g9.trans g10))))⟩
        · cases List.mem_singleton.mp h
          have hDs : D ≠ sh := (ne_of_none hs9 hD).symm
          exact ⟨D, rfl, hDs, ev_upd hDs hs10 hDe⟩
      · rintro σ H6 ⟨vs, o6, o7, o8, o9, o10, rfl, g6, hs6, hvl, hvs⟩
        walk_at "rd"
        match vs, hvl, hs6, hvs with
        | [x0, x1, x2, x3], _, hs6, hvs =>
          obtain ⟨b0, rfl, _, e0⟩ := hvs x0 (by simp)
          obtain ⟨b1, rfl, _, e1⟩ := hvs x1 (by simp)
          obtain ⟨b2, rfl, _, e2⟩ := hvs x2 (by simp)
          obtain ⟨b3, rfl, _, e3⟩ := hvs x3 (by simp)
          have dd := dep_Es (List.filter ns (List.map (fun q => q.snd.snd) ps).flatten)
          refine ⟨_, SqL.of hs6, _, rfl, _, SqL.of hs6, _, rfl, _, _, b0, rfl, b1, rfl, e0.dat, e1.dat, by omega, ?_⟩
          rw [eqD_refl e0.dat.flat, if_neg (by decide)]
          refine ⟨_, SqL.of hs6, _, rfl, _, SqL.of hs6, _, rfl, _, _, b1, rfl, b2, rfl, e1.dat, e2.dat, by omega, ?_⟩
          rw [eqD_refl e1.dat.flat, if_neg (by decide)]
          refine ⟨_, SqL.of hs6, _, rfl, _, SqL.of hs6, _, rfl, _, _, b2, rfl, b3, rfl, e2.dat, e3.dat, by omega, ?_⟩
          rw [eqD_refl e2.dat.flat, if_neg (by decide)]
          exact ⟨_, _, _, _, _, _, _, _, _, _, rfl, ac.trans g6⟩
    · rintro σ H1 ⟨o1, o2, o3, o4, o5, o6, o7, o8, o9, o10, rfl, g1⟩
      walk_at "rd"
      have rs : ∀ H : Hp, Res K H (V.str (S [39, 34])) none := fun H => .inl ⟨[39, 34], rfl, by decide, (fb_sg (by decide)).symm⟩
      refine ⟨.inr (.inr (.inr (.inl rfl))), none, rs _, fun _ l hl H2 g2 => ?_, fun b hb => nomatch hb⟩
      subst hl
      refine ⟨by decide, by decide, .inr (.inr (.inr (.inr rfl))), none, rs _, fun _ l2 hl2 H3 g3 => ?_, fun b hb => nomatch hb⟩
      subst hl2
      refine ⟨by decide, by decide, fun q1 h1 q2 h2 q3 h3 q4 h4 q5 h5 q6 h6 q7 h7 => ⟨by decide, _, _, rfin, fun v H4 g4 hv => ?_⟩⟩
      have T7 := same_upd (o := .lst [V.ref q1, V.ref q2, V.ref q3, V.ref q4, V.ref q5, V.ref q6]) h7
      have T6 := (same_upd (o := .tup [tx eSaid]) h6).trans T7
      have T5 := (same_upd (o := .tup [tx eAttr, tx [99], tx mTalk]) h5).trans T6
      have T4 := (same_upd (o := .tup [tx eSign, tx [34]]) h4).trans T5
      have T3 := (same_upd (o := .tup [tx eSign, tx [39]]) h3).trans T4
      have T2 := (same_upd (o := .tup [tx eAttr, tx [98], tx mQuoted]) h2).trans T3
      have E7 : EvL _ q7 [[eBox, [97]], [eAttr, [98], mQuoted], [eSign, [39]], [eSign, [34]], [eAttr, [99], mTalk], [eSaid]] := ⟨_, upd_same, .cons ⟨q1, rfl, T2 _ _ upd_same⟩ (.cons ⟨q2, rfl, T3 _ _ upd_same⟩ (.cons ⟨q3, rfl, T4 _ _ upd_same⟩ (.cons ⟨q4, rfl, T5 _ _ upd_same⟩ (.cons ⟨q5, rfl, T6 _ _ upd_same⟩ (.cons ⟨q6, rfl, T7 _ _ upd_same⟩ .nil)))))⟩
      obtain ⟨pf, sa, ef, rfl, f1, f2, f3, _⟩ := hv
      refine ⟨pf, rfl, _, SqT.of f1, _, rfl, fun r1 k1 r2 k2 r3 k3 r4 k4 => ?_⟩
      have U4 := same_upd (o := .lst [V.ref r1, V.ref r2, V.ref r3]) k4
      have U3 := (same_upd (o := .tup [tx eIn]) k3).trans U4
      have U2 := (same_upd (o := .tup [tx eSign, tx [34]]) k2).trans U3
      have U1 := (same_upd (o := .tup [tx eSign, tx [39]]) k1).trans U2
      obtain ⟨us, u1, u2⟩ := (E7.mono g4).mono U1
      have ul := u2.len
      have R3 : EvA _ [V.ref r1, V.ref r2, V.ref r3] [[eSign, [39]], [eSign, [34]], [eIn]] := .cons ⟨r1, rfl, U2 _ _ upd_same⟩ (.cons ⟨r2, rfl, U3 _ _ upd_same⟩ (.cons ⟨r3, rfl, U4 _ _ upd_same⟩ .nil))
      refine ⟨us, u1, _, upd_same, by rw [ul]; exact (by decide : 6 + 3 ≤ 16777216), fun r5 k5 => ?_⟩
      have U5 := same_upd (o := .lst (us ++ [V.ref r1, V.ref r2, V.ref r3])) k5
      have EE : EvL _ r5 [[eBox, [97]], [eAttr, [98], mQuoted], [eSign, [39]], [eSign, [34]], [eAttr, [99], mTalk], [eSaid], [eSign, [39]], [eSign, [34]], [eIn]] := ⟨_, upd_same, (u2.mono U5).app (R3.mono U5)⟩
      refine ⟨_, _, ef, rfl, ((f3.mono U1).mono U5).dat, EE.dat, Nat.le_trans (dep_Es _) (by decide), ?_⟩
      rw [eqD_refl EE.dat.flat]
      exact q _

end
end My

set_option maxHeartbeats 0
open PySem L2 PySem.Spec PyProof.Rows
namespace My
theorem len0 {α : Type} {us : List α} (h : us.length = 0) : us = [] := List.length_eq_zero_iff.mp h
theorem len1 {α : Type} : ∀ {us : List α}, us.length = 1 → ∃ a0, us = [a0]
  | [a0], _ => ⟨a0, rfl⟩
theorem len2 {α : Type} : ∀ {us : List α}, us.length = 2 → ∃ a0 a1, us = [a0, a1]
  | [a0, a1], _ => ⟨a0, a1, rfl⟩
theorem len3 {α : Type} : ∀ {us : List α}, us.length = 3 → ∃ a0 a1 a2, us = [a0, a1, a2]
  | [a0, a1, a2], _ => ⟨a0, a1, a2, rfl⟩
theorem len4 {α : Type} : ∀ {us : List α}, us.length = 4 → ∃ a0 a1 a2 a3, us = [a0, a1, a2, a3]
  | [a0, a1, a2, a3], _ => ⟨a0, a1, a2, a3, rfl⟩
theorem len5 {α : Type} : ∀ {us : List α}, us.length = 5 → ∃ a0 a1 a2 a3 a4, us = [a0, a1, a2, a3, a4]
  | [a0, a1, a2, a3, a4], _ => ⟨a0, a1, a2, a3, a4, rfl⟩
theorem len6 {α : Type} : ∀ {us : List α}, us.length = 6 → ∃ a0 a1 a2 a3 a4 a5, us = [a0, a1, a2, a3, a4, a5]
  | [a0, a1, a2, a3, a4, a5], _ => ⟨a0, a1, a2, a3, a4, a5, rfl⟩
theorem len7 {α : Type} : ∀ {us : List α}, us.length = 7 → ∃ a0 a1 a2 a3 a4 a5 a6, us = [a0, a1, a2, a3, a4, a5, a6]
  | [a0, a1, a2, a3, a4, a5, a6], _ => ⟨a0, a1, a2, a3, a4, a5, a6, rfl⟩
theorem dfm {K : PySem.W.Frag} {mg : Str → Option Value} {h : Heap} {x : Str} {st : Stmt} {ps : List Str} {f cd : Addr} {pm : Value} (X : K.In h) (G : h.Ns mainGlobals mg)
    (b : ∀ (kV doc pm : Value) (an : Option Addr) (cdv ct : Value) (us : List Value), us.length = ps.length → bindArgs (PySem.W.fnOf x x (defArgs st) (defBody st) (defScope st) .none kV doc pm an cdv ct) ⟨us, []⟩ = pure (ps.zip us))
    (a : PySem.W.nsIn K mainGlobals x = some (some (.ref f))) (l : K.lookup f = some ⟨.type "function", none, .func (PySem.W.fnOf x x (defArgs st) (defBody st) (defScope st) .none .none .none pm none (.ref cd) .none), #[]⟩)
    (c : PySem.W.codeIn K (.ref cd) x = true) (k : PySem.W.keepIn K (.ref f) = true) : Df K mg x st ps := df_mk X G b a l c k
theorem inim {K : PySem.W.Frag} {C : Addr} {qual : Str} {st : Stmt} {ps : List Str} {f cd : Addr} {pm : Value}
    (b : ∀ (kV doc pm : Value) (an : Option Addr) (cdv ct : Value) (us : List Value), us.length = ps.length → bindArgs (PySem.W.fnOf "__init__" qual (defArgs st) (defBody st) (defScope st) .none kV doc pm an cdv ct) ⟨us, []⟩ = pure (ps.zip us))
    (a : xInit K C = some (some (.ref f))) (l : K.lookup f = some ⟨.type "function", none, .func (PySem.W.fnOf "__init__" qual (defArgs st) (defBody st) (defScope st) .none .none .none pm none (.ref cd) .none), #[]⟩)
    (c : PySem.W.codeIn K (.ref cd) qual = true) (k : PySem.W.keepIn K (.ref f) = true) : Ini K C qual st ps := ini_mk b a l c k
theorem all_ok {l : PySem.W.OpenLaw} {w : World} {h : Heap} {mg : Str → Option Value} {fa : Addr} (X : (KH w.params).In h) (G : h.Ns mainGlobals mg) (hfa : mg "law" = some (.ref fa)) :
    ∃ fd : FuncData, (∀ (s : Shared) (v : Value), BindsTo s fd ⟨[v], []⟩ [("_law_script", v)]) ∧ ∀ base : Heap, (KH w.params).In base → base.Ns mainGlobals mg → FnOk l.prog w (KH w.params) mg base CX0 10 fa fd ["_law_script"] (sp_law (KH w.params)) := by
  have D_number_of : Df (KH w.params) mg "number_of" s_number_of ps_number_of := dfm (f := 72) (pm := (.str "sealpress.signs" 257)) (cd := 71) X G (fun _ _ _ _ _ _ us hl => by obtain ⟨_, rfl⟩ := len1 hl; rfl) (by kernel_rfl!) (by kernel_rfl!) (by kernel_rfl!) (by kernel_rfl!)
  have D_sign_of : Df (KH w.params) mg "sign_of" s_sign_of ps_sign_of := dfm (f := 79) (pm := (.str "sealpress.signs" 257)) (cd := 78) X G (fun _ _ _ _ _ _ us hl => by obtain ⟨_, rfl⟩ := len1 hl; rfl) (by kernel_rfl!) (by kernel_rfl!) (by kernel_rfl!) (by kernel_rfl!)
  have D_figures_of : Df (KH w.params) mg "figures_of" s_figures_of ps_figures_of := dfm (f := 86) (pm := (.str "sealpress.signs" 257)) (cd := 85) X G (fun _ _ _ _ _ _ us hl => by obtain ⟨_, rfl⟩ := len1 hl; rfl) (by kernel_rfl!) (by kernel_rfl!) (by kernel_rfl!) (by kernel_rfl!)
  have D_sign_told : Df (KH w.params) mg "sign_told" s_sign_told ps_sign_told := dfm (f := 93) (pm := (.str "sealpress.signs" 257)) (cd := 92) X G (fun _ _ _ _ _ _ us hl => by obtain ⟨_, rfl⟩ := len1 hl; rfl) (by kernel_rfl!) (by kernel_rfl!) (by kernel_rfl!) (by kernel_rfl!)
  have D_need_text : Df (KH w.params) mg "need_text" s_need_text ps_need_text := dfm (f := 100) (pm := (.str "sealpress.signs" 257)) (cd := 99) X G (fun _ _ _ _ _ _ us hl => by obtain ⟨_, rfl⟩ := len1 hl; rfl) (by kernel_rfl!) (by kernel_rfl!) (by kernel_rfl!) (by kernel_rfl!)
  have D_mark_of : Df (KH w.params) mg "mark_of" s_mark_of ps_mark_of := dfm (f := 107) (pm := (.str "sealpress.marks" 305)) (cd := 106) X G (fun _ _ _ _ _ _ us hl => by obtain ⟨_, rfl⟩ := len1 hl; rfl) (by kernel_rfl!) (by kernel_rfl!) (by kernel_rfl!) (by kernel_rfl!)
  have D_marked : Df (KH w.params) mg "marked" s_marked ps_marked := dfm (f := 112) (pm := (.str "sealpress.marks" 305)) (cd := 111) X G (fun _ _ _ _ _ _ us hl => by obtain ⟨_, _, rfl⟩ := len2 hl; rfl) (by kernel_rfl!) (by kernel_rfl!) (by kernel_rfl!) (by kernel_rfl!)
  have D_stroked : Df (KH w.params) mg "stroked" s_stroked ps_stroked := dfm (f := 117) (pm := (.str "sealpress.strokes" 320)) (cd := 116) X G (fun _ _ _ _ _ _ us hl => by obtain ⟨_, _, rfl⟩ := len2 hl; rfl) (by kernel_rfl!) (by kernel_rfl!) (by kernel_rfl!) (by kernel_rfl!)
  have D_code_of : Df (KH w.params) mg "code_of" s_code_of ps_code_of := dfm (f := 124) (pm := (.str "sealpress.words" 328)) (cd := 123) X G (fun _ _ _ _ _ _ us hl => by obtain ⟨_, rfl⟩ := len1 hl; rfl) (by kernel_rfl!) (by kernel_rfl!) (by kernel_rfl!) (by kernel_rfl!)
  have D_worded : Df (KH w.params) mg "worded" s_worded ps_worded := dfm (f := 129) (pm := (.str "sealpress.words" 328)) (cd := 128) X G (fun _ _ _ _ _ _ us hl => by obtain ⟨_, rfl⟩ := len1 hl; rfl) (by kernel_rfl!) (by kernel_rfl!) (by kernel_rfl!) (by kernel_rfl!)
  have D_put : Df (KH w.params) mg "put" s_put ps_put := dfm (f := 136) (pm := (.str "sealpress.places" 345)) (cd := 135) X G (fun _ _ _ _ _ _ us hl => by obtain ⟨_, _, rfl⟩ := len2 hl; rfl) (by kernel_rfl!) (by kernel_rfl!) (by kernel_rfl!) (by kernel_rfl!)
  have D_fed_between : Df (KH w.params) mg "fed_between" s_fed_between ps_fed_between := dfm (f := 143) (pm := (.str "sealpress.talks" 356)) (cd := 142) X G (fun _ _ _ _ _ _ us hl => by obtain ⟨_, rfl⟩ := len1 hl; rfl) (by kernel_rfl!) (by kernel_rfl!) (by kernel_rfl!) (by kernel_rfl!)
  have D_fed_word : Df (KH w.params) mg "fed_word" s_fed_word ps_fed_word := dfm (f := 150) (pm := (.str "sealpress.talks" 356)) (cd := 149) X G (fun _ _ _ _ _ _ us hl => by obtain ⟨_, rfl⟩ := len1 hl; rfl) (by kernel_rfl!) (by kernel_rfl!) (by kernel_rfl!) (by kernel_rfl!)
  have D_fed_said : Df (KH w.params) mg "fed_said" s_fed_said ps_fed_said := dfm (f := 157) (pm := (.str "sealpress.talks" 356)) (cd := 156) X G (fun _ _ _ _ _ _ us hl => by obtain ⟨_, rfl⟩ := len1 hl; rfl) (by kernel_rfl!) (by kernel_rfl!) (by kernel_rfl!) (by kernel_rfl!)
  have D_feed : Df (KH w.params) mg "feed" s_feed ps_feed := dfm (f := 164) (pm := (.str "sealpress.talks" 356)) (cd := 163) X G (fun _ _ _ _ _ _ us hl => by obtain ⟨_, _, rfl⟩ := len2 hl; rfl) (by kernel_rfl!) (by kernel_rfl!) (by kernel_rfl!) (by kernel_rfl!)
  have D_come_to : Df (KH w.params) mg "come_to" s_come_to ps_come_to := dfm (f := 171) (pm := (.str "sealpress.modes" 387)) (cd := 170) X G (fun _ _ _ _ _ _ us hl => by obtain ⟨_, _, _, rfl⟩ := len3 hl; rfl) (by kernel_rfl!) (by kernel_rfl!) (by kernel_rfl!) (by kernel_rfl!)
  have D_told : Df (KH w.params) mg "told" s_told ps_told := dfm (f := 178) (pm := (.str "sealpress.modes" 387)) (cd := 177) X G (fun _ _ _ _ _ _ us hl => by obtain ⟨_, _, _, rfl⟩ := len3 hl; rfl) (by kernel_rfl!) (by kernel_rfl!) (by kernel_rfl!) (by kernel_rfl!)
  have D_gathered : Df (KH w.params) mg "gathered" s_gathered ps_gathered := dfm (f := 185) (pm := (.str "sealpress.modes" 387)) (cd := 184) X G (fun _ _ _ _ _ _ us hl => by obtain ⟨_, _, _, _, _, rfl⟩ := len5 hl; rfl) (by kernel_rfl!) (by kernel_rfl!) (by kernel_rfl!) (by kernel_rfl!)
  have D_box_shut : Df (KH w.params) mg "box_shut" s_box_shut ps_box_shut := dfm (f := 192) (pm := (.str "sealpress.modes" 387)) (cd := 191) X G (fun _ _ _ _ _ _ us hl => by obtain ⟨_, _, rfl⟩ := len2 hl; rfl) (by kernel_rfl!) (by kernel_rfl!) (by kernel_rfl!) (by kernel_rfl!)
  have D_into_box : Df (KH w.params) mg "into_box" s_into_box ps_into_box := dfm (f := 199) (pm := (.str "sealpress.modes" 387)) (cd := 198) X G (fun _ _ _ _ _ _ us hl => by obtain ⟨_, _, rfl⟩ := len2 hl; rfl) (by kernel_rfl!) (by kernel_rfl!) (by kernel_rfl!) (by kernel_rfl!)
  have D_led_on : Df (KH w.params) mg "led_on" s_led_on ps_led_on := dfm (f := 206) (pm := (.str "sealpress.modes" 387)) (cd := 205) X G (fun _ _ _ _ _ _ us hl => by obtain ⟨_, _, _, rfl⟩ := len3 hl; rfl) (by kernel_rfl!) (by kernel_rfl!) (by kernel_rfl!) (by kernel_rfl!)
  have D_fed : Df (KH w.params) mg "fed" s_fed ps_fed := dfm (f := 213) (pm := (.str "sealpress.modes" 387)) (cd := 212) X G (fun _ _ _ _ _ _ us hl => by obtain ⟨_, _, _, rfl⟩ := len3 hl; rfl) (by kernel_rfl!) (by kernel_rfl!) (by kernel_rfl!) (by kernel_rfl!)
  have D_mark_ended : Df (KH w.params) mg "mark_ended" s_mark_ended ps_mark_ended := dfm (f := 220) (pm := (.str "sealpress.modes" 387)) (cd := 219) X G (fun _ _ _ _ _ _ us hl => by obtain ⟨_, _, rfl⟩ := len2 hl; rfl) (by kernel_rfl!) (by kernel_rfl!) (by kernel_rfl!) (by kernel_rfl!)
  have D_at_text : Df (KH w.params) mg "at_text" s_at_text ps_at_text := dfm (f := 227) (pm := (.str "sealpress.modes" 387)) (cd := 226) X G (fun _ _ _ _ _ _ us hl => by obtain ⟨_, _, _, _, rfl⟩ := len4 hl; rfl) (by kernel_rfl!) (by kernel_rfl!) (by kernel_rfl!) (by kernel_rfl!)
  have D_at_mark : Df (KH w.params) mg "at_mark" s_at_mark ps_at_mark := dfm (f := 234) (pm := (.str "sealpress.modes" 387)) (cd := 233) X G (fun _ _ _ _ _ _ us hl => by obtain ⟨_, _, _, _, rfl⟩ := len4 hl; rfl) (by kernel_rfl!) (by kernel_rfl!) (by kernel_rfl!) (by kernel_rfl!)
  have D_at_open : Df (KH w.params) mg "at_open" s_at_open ps_at_open := dfm (f := 241) (pm := (.str "sealpress.modes" 387)) (cd := 240) X G (fun _ _ _ _ _ _ us hl => by obtain ⟨_, _, _, _, rfl⟩ := len4 hl; rfl) (by kernel_rfl!) (by kernel_rfl!) (by kernel_rfl!) (by kernel_rfl!)
  have D_at_name : Df (KH w.params) mg "at_name" s_at_name ps_at_name := dfm (f := 248) (pm := (.str "sealpress.modes" 387)) (cd := 247) X G (fun _ _ _ _ _ _ us hl => by obtain ⟨_, _, _, _, rfl⟩ := len4 hl; rfl) (by kernel_rfl!) (by kernel_rfl!) (by kernel_rfl!) (by kernel_rfl!)
  have D_at_slash : Df (KH w.params) mg "at_slash" s_at_slash ps_at_slash := dfm (f := 255) (pm := (.str "sealpress.modes" 387)) (cd := 254) X G (fun _ _ _ _ _ _ us hl => by obtain ⟨_, _, _, _, rfl⟩ := len4 hl; rfl) (by kernel_rfl!) (by kernel_rfl!) (by kernel_rfl!) (by kernel_rfl!)
  have D_at_shut : Df (KH w.params) mg "at_shut" s_at_shut ps_at_shut := dfm (f := 262) (pm := (.str "sealpress.modes" 387)) (cd := 261) X G (fun _ _ _ _ _ _ us hl => by obtain ⟨_, _, _, _, rfl⟩ := len4 hl; rfl) (by kernel_rfl!) (by kernel_rfl!) (by kernel_rfl!) (by kernel_rfl!)
  have D_at_gap : Df (KH w.params) mg "at_gap" s_at_gap ps_at_gap := dfm (f := 269) (pm := (.str "sealpress.modes" 387)) (cd := 268) X G (fun _ _ _ _ _ _ us hl => by obtain ⟨_, _, _, _, rfl⟩ := len4 hl; rfl) (by kernel_rfl!) (by kernel_rfl!) (by kernel_rfl!) (by kernel_rfl!)
  have D_at_attr : Df (KH w.params) mg "at_attr" s_at_attr ps_at_attr := dfm (f := 276) (pm := (.str "sealpress.modes" 387)) (cd := 275) X G (fun _ _ _ _ _ _ us hl => by obtain ⟨_, _, _, _, rfl⟩ := len4 hl; rfl) (by kernel_rfl!) (by kernel_rfl!) (by kernel_rfl!) (by kernel_rfl!)
  have D_at_is : Df (KH w.params) mg "at_is" s_at_is ps_at_is := dfm (f := 283) (pm := (.str "sealpress.modes" 387)) (cd := 282) X G (fun _ _ _ _ _ _ us hl => by obtain ⟨_, _, _, _, rfl⟩ := len4 hl; rfl) (by kernel_rfl!) (by kernel_rfl!) (by kernel_rfl!) (by kernel_rfl!)
  have D_at_bang : Df (KH w.params) mg "at_bang" s_at_bang ps_at_bang := dfm (f := 290) (pm := (.str "sealpress.modes" 387)) (cd := 289) X G (fun _ _ _ _ _ _ us hl => by obtain ⟨_, _, _, _, rfl⟩ := len4 hl; rfl) (by kernel_rfl!) (by kernel_rfl!) (by kernel_rfl!) (by kernel_rfl!)
  have D_at_bare : Df (KH w.params) mg "at_bare" s_at_bare ps_at_bare := dfm (f := 297) (pm := (.str "sealpress.modes" 387)) (cd := 296) X G (fun _ _ _ _ _ _ us hl => by obtain ⟨_, _, _, _, rfl⟩ := len4 hl; rfl) (by kernel_rfl!) (by kernel_rfl!) (by kernel_rfl!) (by kernel_rfl!)
  have D_at_code : Df (KH w.params) mg "at_code" s_at_code ps_at_code := dfm (f := 304) (pm := (.str "sealpress.modes" 387)) (cd := 303) X G (fun _ _ _ _ _ _ us hl => by obtain ⟨_, _, _, _, rfl⟩ := len4 hl; rfl) (by kernel_rfl!) (by kernel_rfl!) (by kernel_rfl!) (by kernel_rfl!)
  have D_at_row : Df (KH w.params) mg "at_row" s_at_row ps_at_row := dfm (f := 311) (pm := (.str "sealpress.modes" 387)) (cd := 310) X G (fun _ _ _ _ _ _ us hl => by obtain ⟨_, _, _, _, rfl⟩ := len4 hl; rfl) (by kernel_rfl!) (by kernel_rfl!) (by kernel_rfl!) (by kernel_rfl!)
  have D_at_stroke : Df (KH w.params) mg "at_stroke" s_at_stroke ps_at_stroke := dfm (f := 318) (pm := (.str "sealpress.modes" 387)) (cd := 317) X G (fun _ _ _ _ _ _ us hl => by obtain ⟨_, _, _, _, rfl⟩ := len4 hl; rfl) (by kernel_rfl!) (by kernel_rfl!) (by kernel_rfl!) (by kernel_rfl!)
  have D_at_quoted : Df (KH w.params) mg "at_quoted" s_at_quoted ps_at_quoted := dfm (f := 325) (pm := (.str "sealpress.modes" 387)) (cd := 324) X G (fun _ _ _ _ _ _ us hl => by obtain ⟨_, _, _, _, rfl⟩ := len4 hl; rfl) (by kernel_rfl!) (by kernel_rfl!) (by kernel_rfl!) (by kernel_rfl!)
  have D_at_qmark : Df (KH w.params) mg "at_qmark" s_at_qmark ps_at_qmark := dfm (f := 332) (pm := (.str "sealpress.modes" 387)) (cd := 331) X G (fun _ _ _ _ _ _ us hl => by obtain ⟨_, _, _, _, rfl⟩ := len4 hl; rfl) (by kernel_rfl!) (by kernel_rfl!) (by kernel_rfl!) (by kernel_rfl!)
  have D_at_done : Df (KH w.params) mg "at_done" s_at_done ps_at_done := dfm (f := 339) (pm := (.str "sealpress.modes" 387)) (cd := 338) X G (fun _ _ _ _ _ _ us hl => by obtain ⟨_, _, _, _, rfl⟩ := len4 hl; rfl) (by kernel_rfl!) (by kernel_rfl!) (by kernel_rfl!) (by kernel_rfl!)
  have D_at_talk : Df (KH w.params) mg "at_talk" s_at_talk ps_at_talk := dfm (f := 346) (pm := (.str "sealpress.modes" 387)) (cd := 345) X G (fun _ _ _ _ _ _ us hl => by obtain ⟨_, _, _, _, rfl⟩ := len4 hl; rfl) (by kernel_rfl!) (by kernel_rfl!) (by kernel_rfl!) (by kernel_rfl!)
  have D_at_tmark : Df (KH w.params) mg "at_tmark" s_at_tmark ps_at_tmark := dfm (f := 353) (pm := (.str "sealpress.modes" 387)) (cd := 352) X G (fun _ _ _ _ _ _ us hl => by obtain ⟨_, _, _, _, rfl⟩ := len4 hl; rfl) (by kernel_rfl!) (by kernel_rfl!) (by kernel_rfl!) (by kernel_rfl!)
  have D_at_asis : Df (KH w.params) mg "at_asis" s_at_asis ps_at_asis := dfm (f := 358) (pm := (.str "sealpress.modes" 387)) (cd := 357) X G (fun _ _ _ _ _ _ us hl => by obtain ⟨_, _, _, _, rfl⟩ := len4 hl; rfl) (by kernel_rfl!) (by kernel_rfl!) (by kernel_rfl!) (by kernel_rfl!)
  have D_moved : Df (KH w.params) mg "moved" s_moved ps_moved := dfm (f := 367) (pm := (.str "sealpress.modes" 387)) (cd := 366) X G (fun _ _ _ _ _ _ us hl => by obtain ⟨_, _, rfl⟩ := len2 hl; rfl) (by kernel_rfl!) (by kernel_rfl!) (by kernel_rfl!) (by kernel_rfl!)
  have D_begin : Df (KH w.params) mg "begin" s_begin ps_begin := dfm (f := 374) (pm := (.str "sealpress.steps" 712)) (cd := 373) X G (fun _ _ _ _ _ _ us hl => by obtain rfl := len0 hl; rfl) (by kernel_rfl!) (by kernel_rfl!) (by kernel_rfl!) (by kernel_rfl!)
  have D_step : Df (KH w.params) mg "step" s_step ps_step := dfm (f := 381) (pm := (.str "sealpress.steps" 712)) (cd := 380) X G (fun _ _ _ _ _ _ us hl => by obtain ⟨_, _, rfl⟩ := len2 hl; rfl) (by kernel_rfl!) (by kernel_rfl!) (by kernel_rfl!) (by kernel_rfl!)
  have D_run : Df (KH w.params) mg "run" s_run ps_run := dfm (f := 388) (pm := (.str "sealpress.steps" 712)) (cd := 387) X G (fun _ _ _ _ _ _ us hl => by obtain ⟨_, _, rfl⟩ := len2 hl; rfl) (by kernel_rfl!) (by kernel_rfl!) (by kernel_rfl!) (by kernel_rfl!)
  have D_is_end : Df (KH w.params) mg "is_end" s_is_end ps_is_end := dfm (f := 395) (pm := (.str "sealpress.steps" 712)) (cd := 394) X G (fun _ _ _ _ _ _ us hl => by obtain ⟨_, rfl⟩ := len1 hl; rfl) (by kernel_rfl!) (by kernel_rfl!) (by kernel_rfl!) (by kernel_rfl!)
  have D__law_cell : Df (KH w.params) mg "_law_cell" s__law_cell ps__law_cell := dfm (f := 402) (pm := (.str "law_sealpress_k45_whole_one_shape" 748)) (cd := 401) X G (fun _ _ _ _ _ _ us hl => by obtain ⟨_, _, rfl⟩ := len2 hl; rfl) (by kernel_rfl!) (by kernel_rfl!) (by kernel_rfl!) (by kernel_rfl!)
  have D__law_mix : Df (KH w.params) mg "_law_mix" s__law_mix ps__law_mix := dfm (f := 409) (pm := (.str "law_sealpress_k45_whole_one_shape" 748)) (cd := 408) X G (fun _ _ _ _ _ _ us hl => by obtain ⟨_, _, _, rfl⟩ := len3 hl; rfl) (by kernel_rfl!) (by kernel_rfl!) (by kernel_rfl!) (by kernel_rfl!)
  have D__law_signs : Df (KH w.params) mg "_law_signs" s__law_signs ps__law_signs := dfm (f := 416) (pm := (.str "law_sealpress_k45_whole_one_shape" 748)) (cd := 415) X G (fun _ _ _ _ _ _ us hl => by obtain rfl := len0 hl; rfl) (by kernel_rfl!) (by kernel_rfl!) (by kernel_rfl!) (by kernel_rfl!)
  have D__law_name : Df (KH w.params) mg "_law_name" s__law_name ps__law_name := dfm (f := 421) (pm := (.str "law_sealpress_k45_whole_one_shape" 748)) (cd := 420) X G (fun _ _ _ _ _ _ us hl => by obtain ⟨_, rfl⟩ := len1 hl; rfl) (by kernel_rfl!) (by kernel_rfl!) (by kernel_rfl!) (by kernel_rfl!)
  have D__law_value : Df (KH w.params) mg "_law_value" s__law_value ps__law_value := dfm (f := 426) (pm := (.str "law_sealpress_k45_whole_one_shape" 748)) (cd := 425) X G (fun _ _ _ _ _ _ us hl => by obtain ⟨_, _, rfl⟩ := len2 hl; rfl) (by kernel_rfl!) (by kernel_rfl!) (by kernel_rfl!) (by kernel_rfl!)
  have D__law_parts : Df (KH w.params) mg "_law_parts" s__law_parts ps__law_parts := dfm (f := 433) (pm := (.str "law_sealpress_k45_whole_one_shape" 748)) (cd := 432) X G (fun _ _ _ _ _ _ us hl => by obtain ⟨_, rfl⟩ := len1 hl; rfl) (by kernel_rfl!) (by kernel_rfl!) (by kernel_rfl!) (by kernel_rfl!)
  have D__law_pressed : Df (KH w.params) mg "_law_pressed" s__law_pressed ps__law_pressed := dfm (f := 438) (pm := (.str "law_sealpress_k45_whole_one_shape" 748)) (cd := 437) X G (fun _ _ _ _ _ _ us hl => by obtain ⟨_, _, rfl⟩ := len2 hl; rfl) (by kernel_rfl!) (by kernel_rfl!) (by kernel_rfl!) (by kernel_rfl!)
  have D__law_values : Df (KH w.params) mg "_law_values" s__law_values ps__law_values := dfm (f := 443) (pm := (.str "law_sealpress_k45_whole_one_shape" 748)) (cd := 442) X G (fun _ _ _ _ _ _ us hl => by obtain ⟨_, _, rfl⟩ := len2 hl; rfl) (by kernel_rfl!) (by kernel_rfl!) (by kernel_rfl!) (by kernel_rfl!)
  have D__law_ran : Df (KH w.params) mg "_law_ran" s__law_ran ps__law_ran := dfm (f := 450) (pm := (.str "law_sealpress_k45_whole_one_shape" 748)) (cd := 449) X G (fun _ _ _ _ _ _ us hl => by obtain ⟨_, rfl⟩ := len1 hl; rfl) (by kernel_rfl!) (by kernel_rfl!) (by kernel_rfl!) (by kernel_rfl!)
  have D__law_shape : Df (KH w.params) mg "_law_shape" s__law_shape ps__law_shape := dfm (f := 455) (pm := (.str "law_sealpress_k45_whole_one_shape" 748)) (cd := 454) X G (fun _ _ _ _ _ _ us hl => by obtain ⟨_, rfl⟩ := len1 hl; rfl) (by kernel_rfl!) (by kernel_rfl!) (by kernel_rfl!) (by kernel_rfl!)
  have D_law : Df (KH w.params) mg "law" s_law ps_law := dfm (f := 460) (pm := (.str "law_sealpress_k45_whole_one_shape" 748)) (cd := 459) X G (fun _ _ _ _ _ _ us hl => by obtain ⟨_, rfl⟩ := len1 hl; rfl) (by kernel_rfl!) (by kernel_rfl!) (by kernel_rfl!) (by kernel_rfl!)
  have e_SIGNS : Str.ofString " !\"#$&'()*+,-./0123456789:;<=>?@ABCDEFGHIJKLMNOPQRSTUVWXYZ[\\]^_`abcdefghijklmnopqrstuvwxyz{|}~" = (S sg) := by decide +kernel
  have e_FIGURES : Str.ofString "0123456789" = (S fg) := by decide +kernel
  have e_LETTERS : Str.ofString "abcdefghijklmnopqrstuvwxyz" = (S lt) := by decide +kernel
  have e_WORDSIGNS : Str.ofString "abcdefghijklmnopqrstuvwxyz0123456789-" = (S ws) := by decide +kernel
  have e_ASIS_END : Str.ofString "</asis>" = (S asisEnd) := by decide +kernel
  have xl_MODES : (KH w.params).lookup 359 = some ⟨.type "dict", none, .dict #[(en w.params "text" 662 (.ref 227)),(en w.params "mark" 664 (.ref 234)),(en w.params "open" 666 (.ref 241)),(en w.params "name" 668 (.ref 248)),(en w.params "slash" 670 (.ref 255)),(en w.params "shut" 672 (.ref 262)),(en w.params "gap" 674 (.ref 269)),(en w.params "attr" 676 (.ref 276)),(en w.params "is" 678 (.ref 283)),(en w.params "bang" 680 (.ref 290)),(en w.params "bare" 682 (.ref 297)),(en w.params "code" 684 (.ref 304)),(en w.params "row" 686 (.ref 311)),(en w.params "stroke" 688 (.ref 318)),(en w.params "quoted" 690 (.ref 325)),(en w.params "qmark" 692 (.ref 332)),(en w.params "done" 694 (.ref 339)),(en w.params "talk" 696 (.ref 346)),(en w.params "tmark" 697 (.ref 353)),(en w.params "asis" 698 (.ref 358))] 20, #[]⟩ := by kernel_rfl!
  have T : Txt w (KH w.params) mg (⟨24, 44, 63, 227, 234, 241, 248, 255, 262, 269, 276, 283, 290, 297, 304, 311, 318, 325, 332, 339, 346, 353, 358⟩ : Ads) := ⟨PySem.W.mg_of (v := .ref 24) X G (by kernel_rfl!), PySem.W.mg_of (v := .ref 44) X G (by kernel_rfl!), PySem.W.mg_of (v := .ref 63) X G (by kernel_rfl!), PySem.W.mg_of (v := .ref 227) X G (by kernel_rfl!), PySem.W.mg_of (v := .ref 234) X G (by kernel_rfl!), PySem.W.mg_of (v := .ref 241) X G (by kernel_rfl!), PySem.W.mg_of (v := .ref 248) X G (by kernel_rfl!), PySem.W.mg_of (v := .ref 255) X G (by kernel_rfl!), PySem.W.mg_of (v := .ref 262) X G (by kernel_rfl!), PySem.W.mg_of (v := .ref 269) X G (by kernel_rfl!), PySem.W.mg_of (v := .ref 276) X G (by kernel_rfl!), PySem.W.mg_of (v := .ref 283) X G (by kernel_rfl!), PySem.W.mg_of (v := .ref 290) X G (by kernel_rfl!), PySem.W.mg_of (v := .ref 297) X G (by kernel_rfl!), PySem.W.mg_of (v := .ref 304) X G (by kernel_rfl!), PySem.W.mg_of (v := .ref 311) X G (by kernel_rfl!), PySem.W.mg_of (v := .ref 318) X G (by kernel_rfl!), PySem.W.mg_of (v := .ref 325) X G (by kernel_rfl!), PySem.W.mg_of (v := .ref 332) X G (by kernel_rfl!), PySem.W.mg_of (v := .ref 339) X G (by kernel_rfl!), PySem.W.mg_of (v := .ref 346) X G (by kernel_rfl!), PySem.W.mg_of (v := .ref 353) X G (by kernel_rfl!), PySem.W.mg_of (v := .ref 358) X G (by kernel_rfl!), xcl_of (by kernel_rfl!), xcl_of (by kernel_rfl!), xcl_of (by kernel_rfl!), by kernel_rfl!, by kernel_rfl!, by kernel_rfl!, by kernel_rfl!, by kernel_rfl!, by kernel_rfl!, ⟨.str (Str.ofString " !\"#$&'()*+,-./0123456789:;<=>?@ABCDEFGHIJKLMNOPQRSTUVWXYZ[\\]^_`abcdefghijklmnopqrstuvwxyz{|}~") 259, PySem.W.mg_of X G (by kernel_rfl!), ⟨_, by rw [e_SIGNS]⟩⟩, ⟨.str (Str.ofString "0123456789") 261, PySem.W.mg_of X G (by kernel_rfl!), ⟨_, by rw [e_FIGURES]⟩⟩, ⟨.str (Str.ofString "abcdefghijklmnopqrstuvwxyz") 263, PySem.W.mg_of X G (by kernel_rfl!), ⟨_, by rw [e_LETTERS]⟩⟩, ⟨.int 8 265, PySem.W.mg_of X G (by kernel_rfl!), ⟨_, rfl⟩⟩, ⟨.str (Str.ofString "abcdefghijklmnopqrstuvwxyz0123456789-") 330, PySem.W.mg_of X G (by kernel_rfl!), ⟨_, by rw [e_WORDSIGNS]⟩⟩, ⟨.str (Str.ofString "</asis>") 389, PySem.W.mg_of X G (by kernel_rfl!), ⟨_, by rw [e_ASIS_END]⟩⟩, ⟨.int 2 391, PySem.W.mg_of X G (by kernel_rfl!), ⟨_, rfl⟩⟩, ⟨_, PySem.W.mg_of (v := .ref 359) X G (by kernel_rfl!), by decide, _, _, _, xl_MODES, ⟨rfl, rfl, rfl⟩, rfl, by repeat' (first | exact EntK.nil | refine EntK.cons rfl rfl rfl ?_), by decide +kernel⟩, PySem.W.mg_none_of X G (by kernel_rfl!), PySem.W.mg_none_of X G (by kernel_rfl!), PySem.W.mg_none_of X G (by kernel_rfl!), PySem.W.mg_none_of X G (by kernel_rfl!), PySem.W.mg_none_of X G (by kernel_rfl!), PySem.W.mg_none_of X G (by kernel_rfl!), PySem.W.mg_none_of X G (by kernel_rfl!), PySem.W.mg_none_of X G (by kernel_rfl!), PySem.W.mg_none_of X G (by kernel_rfl!), PySem.W.mg_none_of X G (by kernel_rfl!)⟩
  have I_Unread : Ini (KH w.params) 63 "Unread.__init__" s_i_Unread ["self", "at"] := inim (f := 60) (pm := (.str "sealpress.errors" 187)) (cd := 59) (fun _ _ _ _ _ _ us hl => by obtain ⟨_, _, rfl⟩ := len2 hl; rfl) (by kernel_rfl!) (by kernel_rfl!) (by kernel_rfl!) (by kernel_rfl!)
  have I_NoSign : Ini (KH w.params) 44 "NoSign.__init__" s_i_NoSign ["self", "at"] := inim (f := 41) (pm := (.str "sealpress.errors" 187)) (cd := 40) (fun _ _ _ _ _ _ us hl => by obtain ⟨_, _, rfl⟩ := len2 hl; rfl) (by kernel_rfl!) (by kernel_rfl!) (by kernel_rfl!) (by kernel_rfl!)
  refine law_of D_law hfa (fun _ _ _ _ _ _ s v => .of_eq rfl) fun base => ?_
  have R_Unread := err_Unread (P := l.prog) (w := w) (base := base) T I_Unread
  have R_NoSign := err_NoSign (P := l.prog) (w := w) (base := base) T I_NoSign
  have F_sign_of := ok_sign_of (P := l.prog) (w := w) (base := base) T D_sign_of 
  have F_sign_told := ok_sign_told (P := l.prog) (w := w) (base := base) T D_sign_told F_sign_of
  have F_fed_between := ok_fed_between (P := l.prog) (w := w) (base := base) T D_fed_between 
  have F_fed_word := ok_fed_word (P := l.prog) (w := w) (base := base) T D_fed_word F_fed_between
  have F_fed_said := ok_fed_said (P := l.prog) (w := w) (base := base) T D_fed_said 
  have F_feed := ok_feed (P := l.prog) (w := w) (base := base) T D_feed F_fed_between F_fed_word F_fed_said
  have F_come_to := ok_come_to (P := l.prog) (w := w) (base := base) T D_come_to 
  have F_told := ok_told (P := l.prog) (w := w) (base := base) T D_told F_come_to
  have F_gathered := ok_gathered (P := l.prog) (w := w) (base := base) T D_gathered 
  have F_box_shut := ok_box_shut (P := l.prog) (w := w) (base := base) T D_box_shut F_come_to
  have F_into_box := ok_into_box (P := l.prog) (w := w) (base := base) T D_into_box F_come_to
  have F_led_on := ok_led_on (P := l.prog) (w := w) (base := base) T D_led_on F_come_to F_into_box
  have F_fed := ok_fed (P := l.prog) (w := w) (base := base) T D_fed F_feed
  have F_mark_ended := ok_mark_ended (P := l.prog) (w := w) (base := base) T D_mark_ended F_sign_told
  have F_at_text := ok_at_text (P := l.prog) (w := w) (base := base) T D_at_text F_come_to F_told
  have F_at_mark := ok_at_mark (P := l.prog) (w := w) (base := base) T D_at_mark F_gathered F_mark_ended F_told
  have F_at_open := ok_at_open (P := l.prog) (w := w) (base := base) T D_at_open F_come_to F_gathered
  have F_at_name := ok_at_name (P := l.prog) (w := w) (base := base) T D_at_name F_gathered F_led_on
  have F_at_slash := ok_at_slash (P := l.prog) (w := w) (base := base) T D_at_slash F_box_shut
  have F_at_shut := ok_at_shut (P := l.prog) (w := w) (base := base) T D_at_shut F_gathered F_box_shut
  have F_at_gap := ok_at_gap (P := l.prog) (w := w) (base := base) T D_at_gap F_gathered
  have F_at_attr := ok_at_attr (P := l.prog) (w := w) (base := base) T D_at_attr F_gathered F_come_to
  have F_at_is := ok_at_is (P := l.prog) (w := w) (base := base) T D_at_is F_come_to
  have F_at_bang := ok_at_bang (P := l.prog) (w := w) (base := base) T D_at_bang 
  have F_at_bare := ok_at_bare (P := l.prog) (w := w) (base := base) T D_at_bare F_told F_come_to F_led_on
  have F_at_code := ok_at_code (P := l.prog) (w := w) (base := base) T D_at_code F_told F_sign_told
  have F_at_row := ok_at_row (P := l.prog) (w := w) (base := base) T D_at_row F_come_to F_told
  have F_at_stroke := ok_at_stroke (P := l.prog) (w := w) (base := base) T D_at_stroke F_told
  have F_at_quoted := ok_at_quoted (P := l.prog) (w := w) (base := base) T D_at_quoted F_come_to F_told
  have F_at_qmark := ok_at_qmark (P := l.prog) (w := w) (base := base) T D_at_qmark F_gathered F_mark_ended F_told
  have F_at_done := ok_at_done (P := l.prog) (w := w) (base := base) T D_at_done F_led_on
  have F_at_talk := ok_at_talk (P := l.prog) (w := w) (base := base) T D_at_talk F_come_to F_fed
  have F_at_tmark := ok_at_tmark (P := l.prog) (w := w) (base := base) T D_at_tmark F_gathered F_mark_ended F_fed
  have F_at_asis := ok_at_asis (P := l.prog) (w := w) (base := base) T D_at_asis F_box_shut F_come_to
  have F_moved := ok_moved (P := l.prog) (w := w) (base := base) T D_moved F_at_text F_at_mark F_at_open F_at_name F_at_slash F_at_shut F_at_gap F_at_attr F_at_is F_at_bang F_at_bare F_at_code F_at_row F_at_stroke F_at_quoted F_at_qmark F_at_done F_at_talk F_at_tmark F_at_asis
  have F_begin := ok_begin (P := l.prog) (w := w) (base := base) T D_begin 
  have F_step := ok_step (P := l.prog) (w := w) (base := base) T D_step F_moved
  have F__law_cell := ok_law_cell (P := l.prog) (w := w) (base := base) T D__law_cell 
  have F__law_mix := ok_law_mix (P := l.prog) (w := w) (base := base) T D__law_mix 
  have F__law_signs := ok_law_signs (P := l.prog) (w := w) (base := base) T D__law_signs 
  have F_run := ok_run (P := l.prog) (w := w) (base := base) T D_run F_step R_Unread
  have F__law_name := ok_law_name (P := l.prog) (w := w) (base := base) T D__law_name F__law_mix
  have F_number_of := ok_number_of (P := l.prog) (w := w) (base := base) T D_number_of 
  have F_figures_of := ok_figures_of (P := l.prog) (w := w) (base := base) T D_figures_of 
  have F_mark_of := ok_mark_of (P := l.prog) (w := w) (base := base) T D_mark_of F_number_of F_figures_of
  have F_marked := ok_marked (P := l.prog) (w := w) (base := base) T D_marked F_mark_of
  have F_stroked := ok_stroked (P := l.prog) (w := w) (base := base) T D_stroked 
  have F_code_of := ok_code_of (P := l.prog) (w := w) (base := base) T D_code_of F_number_of F_figures_of
  have F_worded := ok_worded (P := l.prog) (w := w) (base := base) T D_worded F_code_of
  have F_need_text := ok_need_text (P := l.prog) (w := w) (base := base) T D_need_text R_NoSign
  have F_put := ok_put (P := l.prog) (w := w) (base := base) T D_put F_need_text F_marked F_worded F_stroked
  have F__law_value := ok_law_value (P := l.prog) (w := w) (base := base) T D__law_value F__law_signs F__law_mix
  have F_is_end := ok_is_end (P := l.prog) (w := w) (base := base) T D_is_end F_begin
  have F__law_ran := ok_law_ran (P := l.prog) (w := w) (base := base) T D__law_ran F_run F_begin
  have F__law_shape := ok_law_shape (P := l.prog) (w := w) (base := base) T D__law_shape 
  have F__law_values := ok_law_values (P := l.prog) (w := w) (base := base) T D__law_values F__law_mix F__law_value
  have F__law_parts := ok_law_parts (P := l.prog) (w := w) (base := base) T D__law_parts F__law_name F__law_mix
  have F__law_pressed := ok_law_pressed (P := l.prog) (w := w) (base := base) T D__law_pressed F_put
  have F_law := ok_law (P := l.prog) (w := w) (base := base) T D_law F__law_cell F__law_parts F__law_values F__law_signs F__law_pressed F__law_ran F_is_end F__law_shape F_put
  exact F_law
theorem walk {l : PySem.W.OpenLaw} {q : Program} {loose : List Str} {XP : (Str → Option Value) → Heap → Prop} {YP : World → Heap → Prop} {d : DefRec} {K : Params → PySem.W.Frag} (hn : l.most = some 63) (hdf : d.params.defaults = [])
    (hY : ∀ (w : World) (h : Heap), YP w h → (K w.params).In h)
    (F : ∀ (w : World) (mg : Str → Option Value) (fa : Addr) (h : Heap), (K w.params).In h → h.Ns mainGlobals mg → mg d.name = some (.ref fa) →
      ∃ fd : FuncData, (∀ (s : Shared) (u : Value), BindsTo s fd ⟨[u], []⟩ [("_law_script", u)]) ∧ ∀ base : Heap, (K w.params).In base → base.Ns mainGlobals mg → FnOk l.prog w (K w.params) mg base CX0 10 fa fd ["_law_script"] (sp_law (K w.params))) :
    PySem.W.WalkO q loose XP YP l.row.toRowW d [] (fun f vs => PySem.call f vs) :=
  L2.walk_of (n := 63) (k := 10) (x := "_law_script") (CX := fun _ => CX0) (sp := fun w => sp_law (K w.params)) hn (by decide) hdf ⟨rfl, by decide, by decide, rfl⟩ hY F (fun _ _ a ns hl _ hS => ⟨a, ns, rfl, hS, hl, fun _ => rfl⟩) fun _ _ _ _ _ z => z
end My
open PySem PySem.W PyProof.Rows
set_option maxRecDepth 100000 in
set_option maxHeartbeats 0 in
theorem PySem.Challenge.cw_sealpress_k45_whole_one_shape_holds : PySem.Challenge.rw_sealpress_k45_whole_one_shape.Holds := by
  w_on; o_law
  refine PySem.W.holds_open (q := My.qvw) (loose := My.loose0) (Xt := My.Xt0) (XP := XL My.qvw []) (Yf := Hook.obs My.HK) (Ya := Hook.val My.HK) (YP := Hook.says My.HK) (N := 3187) My.left (Hook.of My.HK) (Hook.keeps My.HK) (fun s e => xl_of s (Bool.and_eq_true_iff.mp e).1) XL.keeps (by rfl) (by rfl) (by rfl) (fun s e => recFacts_of (Bool.and_eq_true_iff.mp e).2) (by rfl) (by first | assumption | decide +kernel) (by decide +kernel) ⟨rfl, rfl, rfl, rfl, rfl, by decide +kernel⟩ ?hw ?hc
  (case hw => w_witness2)
  exact My.walk (l := PySem.Challenge.rw_sealpress_k45_whole_one_shape) rfl rfl (fun w h Y => PySem.W.kIn_of Y) (fun w mg fa h KX G hmg => My.all_ok KX G hmg)
