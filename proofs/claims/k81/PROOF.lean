import PyProof.Rows.All
import Wide.All
import OpenK.AllK
import Wide.FinOn
import Lean
import PyProof.EqAt
import PyProof.EqKinds
import PyProof.TupleCall
import PyProof.Draws
import PyProof.EnumMake
import PyProof.NeKinds
import PyProof.ZipIter
import PyProof.Rows.ZipGen
import PyProof.ReprRoads
import KE.KRevIter
import PyProof.StrLawsReplace
import PyProof.ToksMono
import PyProof.SliceList
import KE.KEqDict
import PySem.Challenge.RW_sealpress_k81_scopes
set_option Elab.async false
set_option linter.all false
set_option maxRecDepth 100000
/-! THE HAND LAYER, for ints, bools, texts, own classes, LISTS and tuples (index, slices, in, append, pop ..), calls, loops. Paste it whole ahead of your own text; what your proof does not reach may be deleted. -/

set_option Elab.async false
set_option linter.all false
set_option maxRecDepth 100000
set_option maxHeartbeats 0
namespace L2
open PySem PySem.W
theorem left_run {p q : Program} {loose : List Str} {Xt : Shared → Bool} {α : Type} {Yf : Shared → α} {Ya : World → α} {N M m0 : Nat} {ann : Option Value} {H0 : Params → Heap} {g0 : Array GenState} {d0 : Drawn} {k0 : Nat}
    (hb : ∀ w : World, (fencedOpening treeTable p w N).map (fun s => (s.heap, s.gens, s.drawn, s.toks)) = some (H0 w.params, g0, d0, k0))
    (hz : ∀ w : World, ((H0 w.params).isNs mainGlobals && g0.size == 0, (H0 w.params).objs.size, (H0 w.params).nsMap mainGlobals "__annotations__") = (true, m0, ann))
    (hr : ∀ (w : World) (os : OsState), ∃ s : Shared, topRun treeTable p w m0 ann M ⟨H0 w.params, g0, d0, k0, os⟩ (topStub p) = some s ∧
      (staticsOk (importedModules p.main.body) (H0 w.params) s.heap && namesBound p s.heap && gensDone s && laidKept (H0 w.params) s.heap) = true ∧ openSeen q loose (importedModules p.main.body) Xt true s = openGood q loose ∧ Yf s = Ya w)
    (hn : M ≤ N) : LeftO p q loose Xt Yf Ya N := fun w => by
  obtain ⟨s0, e, e'⟩ := Option.map_eq_some_iff.mp (hb w)
  obtain ⟨h, gs, d, k, os⟩ := s0
  simp only [Prod.mk.injEq] at e'
  obtain ⟨rfl, rfl, rfl, rfl⟩ := e'
  obtain ⟨s, r, l1, l2, l3⟩ := hr w os
  have z := hz w
  simp only [Prod.mk.injEq] at z
  obtain ⟨z1, z2, z3⟩ := z
  obtain ⟨x, rfl⟩ := Nat.exists_eq_add_of_le hn
  have r' := topRun_mono x _ _ _ _ r
  have t : topFrom treeTable p w (M + x) ⟨H0 w.params, gs, d, k, os⟩ = some s := by
    unfold topFrom
    simp only [z1, z2, z3, r', Option.bind_some, l1]
  unfold openEnds
  rw [e, Option.bind_some, t, Option.map_some, l2, l3]
end L2
/-! the top of the program, run in one go -/
namespace My
open PySem PySem.W
abbrev pw : Program := PySem.Challenge.pw_sealpress_k81_scopes
noncomputable def tp (i : Nat) : Stmt := pw.main.body.getD i (.Pass ⟨0, 0, 0, 0⟩)
noncomputable def tc (i j : Nat) : Stmt := match tp i with
  | .ClassDef _ _ _ body _ _ _ _ _ _ _ => body.getD j (.Pass ⟨0, 0, 0, 0⟩)
  | _ => .Pass ⟨0, 0, 0, 0⟩
noncomputable def fnO (s : Stmt) (nm q : Str) (g : Addr) (cl : List (Str × Addr)) (df kd dc pm : Value) (an : Option Addr) (cd ct : Value) (bl : Addr) : Data := match s with
  | .FunctionDef _ a b _ _ _ sc _ _ _ => .func ⟨nm, q, a, .stmts b, sc, g, cl, df, kd, dc, pm, an, cd, ct, bl⟩
  | _ => .plain
noncomputable def en (P : Params) (k : Str) (t : Nat) (v : Value) : DictEntry := ⟨PyData.keyHash P k, .str k t, v⟩
noncomputable def o11 (_ : Params) : Obj := { cls := .type "tuple", data := .seq #[] }
noncomputable def o12 (_ : Params) : Obj := { cls := .none, data := .fields #[] }
noncomputable def o13 (_ : Params) : Obj := { cls := .type "code", data := .fields #[.str "<module>" 182, .str "<module>" 183, .str "/claim/cut.py" 184, .int 1 0, .int 0 0, .int 0 0, .int 0 0, .int 0 0, .ref 11, .bool false, .int 181 0, .ref 12, .none, .none, .none, .none, .int 185 0, .int 1 0, .str "/claim/cut.py" 186] }
noncomputable def o14 (_ : Params) : Obj := { cls := .type "frame", slots := #[some (.ref 13), some (.ref 3), some (.ref 3), none, some (.str "__main__" 164), none, some (.ref 0)] }
noncomputable def x0 (P : Params) : Obj := ⟨(.type "dict"),none,(.dict #[(en P "__name__" 165 (.str "law_sealpress_k81_scopes" 373)),(en P "__doc__" 166 .none),(en P "__package__" 167 .none),(en P "__loader__" 168 (.builtin "__main__.__loader__#opaque")),(en P "__spec__" 169 .none),(en P "__annotations__" 170 (.ref 6)),(en P "__builtins__" 171 (.ref 4)),(en P "__file__" 173 (.str "/claim/cut.py" 172)),(en P "__cached__" 174 .none),(en P "SealError" 206 (.ref 24)),(en P "NoSign" 231 (.ref 44)),(en P "NoName" 256 (.ref 63)),(en P "TooMany" 272 (.ref 75)),(en P "NoValue" 297 (.ref 94)),(en P "NoKind" 322 (.ref 113)),(en P "SIGNS" 326 (.str " !\"#$&'()*+,-./0123456789:;<=>?@ABCDEFGHIJKLMNOPQRSTUVWXYZ[\\]^_`abcdefghijklmnopqrstuvwxyz{|}~" 325)),(en P "need_text" 335 (.ref 122)),(en P "MOST_ROWS" 339 (.int 60 338)),(en P "value_of" 348 (.ref 129)),(en P "text_of" 357 (.ref 136)),(en P "truth_of" 366 (.ref 143)),(en P "rows_of" 372 (.ref 148)),(en P "_law_cell_at" 382 (.ref 155)),(en P "_law_mixed" 393 (.ref 162)),(en P "_law_rest" 400 (.ref 169)),(en P "_law_names" 414 (.ref 176)),(en P "_law_value" 420 (.ref 181)),(en P "_law_scopes" 433 (.ref 188)),(en P "_law_foreign" 439 (.ref 193)),(en P "_law_due" 445 (.ref 198)),(en P "_law_found" 456 (.ref 205)),(en P "_law_is_the_very" 467 (.ref 212)),(en P "law" 473 (.ref 217))] 33),#[]⟩
noncomputable def x1 (_ : Params) : Obj := ⟨(.type "tuple"),none,(.seq #[(.type "ValueError")] 0),#[]⟩
noncomputable def x2 (_ : Params) : Obj := ⟨(.type "tuple"),none,(.seq #[] 0),#[]⟩
noncomputable def x3 (P : Params) : Obj := ⟨(.type "dict"),none,(.dict #[(en P "__module__" 196 (.str "sealpress.errors" 187)),(en P "__firstlineno__" 200 (.int 2 199)),(en P "__static_attributes__" 201 (.ref 22)),(en P "__weakref__" 203 (.ref 25)),(en P "__doc__" 204 .none)] 3),#[]⟩
noncomputable def x4 (_ : Params) : Obj := ⟨(.type "type"),none,(.cls ⟨"SealError",[(.type "ValueError")],[(.ref 24),(.type "ValueError"),(.type "Exception"),(.type "BaseException"),(.type "object")],23,"SealError",true,[],[(.ref 44),(.ref 63),(.ref 75),(.ref 94),(.ref 113)],false,none,false⟩),#[(some (.ref 15)),none,(some (.str "SealError" 189)),(some (.str "SealError" 197)),(some (.builtin "ValueError.__new__")),(some (.bool true))]⟩
noncomputable def x5 (_ : Params) : Obj := ⟨(.type "getset_descriptor"),none,(.fields #[(.str "__weakref__" 202),(.ref 24),(.builtin "ExceptionGroup.__weakref__"),.none]),#[]⟩
noncomputable def x6 (_ : Params) : Obj := ⟨(.type "code"),none,(.fields #[(.str "__init__" 219),(.str "NoSign.__init__" 220),(.str "/claim/cut.py" 221),(.int 6 0),(.int 2 0),(.int 0 0),(.int 0 0),(.int 3 0),(.ref 35),(.bool true),(.int 181 0),(.ref 36),.none,(.ref 37),(.ref 38),(.ref 39),(.int 224 0),(.int 6 0),(.str "/claim/cut.py" 225)]),#[]⟩
noncomputable def x7 (_ : Params) : Obj := ⟨(.type "function"),none,(fnO (tc 2 0) "__init__" "NoSign.__init__" 3 [] .none .none .none (.str "sealpress.errors" 187) none (.ref 40) .none 0),#[]⟩
noncomputable def x8 (P : Params) : Obj := ⟨(.type "dict"),none,(.dict #[(en P "__module__" 214 (.str "sealpress.errors" 187)),(en P "__firstlineno__" 218 (.int 4 217)),(en P "__init__" 226 (.ref 41)),(en P "__static_attributes__" 228 (.ref 42)),(en P "__doc__" 229 .none)] 2),#[]⟩
noncomputable def x9 (_ : Params) : Obj := ⟨(.type "type"),none,(.cls ⟨"NoSign",[(.ref 24)],[(.ref 44),(.ref 24),(.type "ValueError"),(.type "Exception"),(.type "BaseException"),(.type "object")],43,"NoSign",true,[],[],false,none,false⟩),#[(some (.ref 28)),none,(some (.str "NoSign" 207)),(some (.str "NoSign" 215)),(some (.builtin "ValueError.__new__")),(some (.bool true))]⟩
noncomputable def x10 (P : Params) : Obj := ⟨(.type "dict"),none,(.dict #[(en P "__module__" 239 (.str "sealpress.errors" 187)),(en P "__firstlineno__" 243 (.int 9 242)),(en P "__init__" 251 (.ref 60)),(en P "__static_attributes__" 253 (.ref 61)),(en P "__doc__" 254 .none)] 2),#[]⟩
noncomputable def x11 (_ : Params) : Obj := ⟨(.type "type"),none,(.cls ⟨"NoName",[(.ref 24)],[(.ref 63),(.ref 24),(.type "ValueError"),(.type "Exception"),(.type "BaseException"),(.type "object")],62,"NoName",true,[],[],false,none,false⟩),#[(some (.ref 47)),none,(some (.str "NoName" 232)),(some (.str "NoName" 240)),(some (.builtin "ValueError.__new__")),(some (.bool true))]⟩
noncomputable def x12 (P : Params) : Obj := ⟨(.type "dict"),none,(.dict #[(en P "__module__" 264 (.str "sealpress.errors" 187)),(en P "__firstlineno__" 268 (.int 14 267)),(en P "__static_attributes__" 269 (.ref 73)),(en P "__doc__" 270 .none)] 2),#[]⟩
noncomputable def x13 (_ : Params) : Obj := ⟨(.type "type"),none,(.cls ⟨"TooMany",[(.ref 24)],[(.ref 75),(.ref 24),(.type "ValueError"),(.type "Exception"),(.type "BaseException"),(.type "object")],74,"TooMany",true,[],[],false,none,false⟩),#[(some (.ref 66)),none,(some (.str "TooMany" 257)),(some (.str "TooMany" 265)),(some (.builtin "ValueError.__new__")),(some (.bool true))]⟩
noncomputable def x14 (_ : Params) : Obj := ⟨(.type "code"),none,(.fields #[(.str "__init__" 285),(.str "NoValue.__init__" 286),(.str "/claim/cut.py" 287),(.int 18 0),(.int 2 0),(.int 0 0),(.int 0 0),(.int 3 0),(.ref 85),(.bool true),(.int 181 0),(.ref 86),.none,(.ref 87),(.ref 88),(.ref 89),(.int 290 0),(.int 18 0),(.str "/claim/cut.py" 291)]),#[]⟩
noncomputable def x15 (_ : Params) : Obj := ⟨(.type "function"),none,(fnO (tc 5 0) "__init__" "NoValue.__init__" 3 [] .none .none .none (.str "sealpress.errors" 187) none (.ref 90) .none 0),#[]⟩
noncomputable def x16 (P : Params) : Obj := ⟨(.type "dict"),none,(.dict #[(en P "__module__" 280 (.str "sealpress.errors" 187)),(en P "__firstlineno__" 284 (.int 16 283)),(en P "__init__" 292 (.ref 91)),(en P "__static_attributes__" 294 (.ref 92)),(en P "__doc__" 295 .none)] 2),#[]⟩
noncomputable def x17 (_ : Params) : Obj := ⟨(.type "type"),none,(.cls ⟨"NoValue",[(.ref 24)],[(.ref 94),(.ref 24),(.type "ValueError"),(.type "Exception"),(.type "BaseException"),(.type "object")],93,"NoValue",true,[],[],false,none,false⟩),#[(some (.ref 78)),none,(some (.str "NoValue" 273)),(some (.str "NoValue" 281)),(some (.builtin "ValueError.__new__")),(some (.bool true))]⟩
noncomputable def x18 (_ : Params) : Obj := ⟨(.type "code"),none,(.fields #[(.str "__init__" 310),(.str "NoKind.__init__" 311),(.str "/claim/cut.py" 312),(.int 23 0),(.int 2 0),(.int 0 0),(.int 0 0),(.int 3 0),(.ref 104),(.bool true),(.int 181 0),(.ref 105),.none,(.ref 106),(.ref 107),(.ref 108),(.int 315 0),(.int 23 0),(.str "/claim/cut.py" 316)]),#[]⟩
noncomputable def x19 (_ : Params) : Obj := ⟨(.type "function"),none,(fnO (tc 6 0) "__init__" "NoKind.__init__" 3 [] .none .none .none (.str "sealpress.errors" 187) none (.ref 109) .none 0),#[]⟩
noncomputable def x20 (P : Params) : Obj := ⟨(.type "dict"),none,(.dict #[(en P "__module__" 305 (.str "sealpress.errors" 187)),(en P "__firstlineno__" 309 (.int 21 308)),(en P "__init__" 317 (.ref 110)),(en P "__static_attributes__" 319 (.ref 111)),(en P "__doc__" 320 .none)] 2),#[]⟩
noncomputable def x21 (_ : Params) : Obj := ⟨(.type "type"),none,(.cls ⟨"NoKind",[(.ref 24)],[(.ref 113),(.ref 24),(.type "ValueError"),(.type "Exception"),(.type "BaseException"),(.type "object")],112,"NoKind",true,[],[],false,none,false⟩),#[(some (.ref 97)),none,(some (.str "NoKind" 298)),(some (.str "NoKind" 306)),(some (.builtin "ValueError.__new__")),(some (.bool true))]⟩
noncomputable def x22 (_ : Params) : Obj := ⟨(.type "code"),none,(.fields #[(.str "need_text" 327),(.str "need_text" 328),(.str "/claim/cut.py" 329),(.int 28 0),(.int 1 0),(.int 0 0),(.int 0 0),(.int 3 0),(.ref 116),(.bool true),(.int 181 0),(.ref 117),.none,(.ref 118),(.ref 119),(.ref 120),(.int 333 0),(.int 28 0),(.str "/claim/cut.py" 334)]),#[]⟩
noncomputable def x23 (_ : Params) : Obj := ⟨(.type "function"),none,(fnO (tp 9) "need_text" "need_text" 3 [] .none .none .none (.str "sealpress.signs" 323) none (.ref 121) .none 0),#[]⟩
noncomputable def x24 (_ : Params) : Obj := ⟨(.type "code"),none,(.fields #[(.str "value_of" 340),(.str "value_of" 341),(.str "/claim/cut.py" 342),(.int 37 0),(.int 2 0),(.int 0 0),(.int 0 0),(.int 3 0),(.ref 123),(.bool true),(.int 181 0),(.ref 124),.none,(.ref 125),(.ref 126),(.ref 127),(.int 346 0),(.int 37 0),(.str "/claim/cut.py" 347)]),#[]⟩
noncomputable def x25 (_ : Params) : Obj := ⟨(.type "function"),none,(fnO (tp 12) "value_of" "value_of" 3 [] .none .none .none (.str "sealpress.values" 336) none (.ref 128) .none 0),#[]⟩
noncomputable def x26 (_ : Params) : Obj := ⟨(.type "code"),none,(.fields #[(.str "text_of" 349),(.str "text_of" 350),(.str "/claim/cut.py" 351),(.int 42 0),(.int 2 0),(.int 0 0),(.int 0 0),(.int 3 0),(.ref 130),(.bool true),(.int 181 0),(.ref 131),.none,(.ref 132),(.ref 133),(.ref 134),(.int 355 0),(.int 42 0),(.str "/claim/cut.py" 356)]),#[]⟩
noncomputable def x27 (_ : Params) : Obj := ⟨(.type "function"),none,(fnO (tp 13) "text_of" "text_of" 3 [] .none .none .none (.str "sealpress.values" 336) none (.ref 135) .none 0),#[]⟩
noncomputable def x28 (_ : Params) : Obj := ⟨(.type "code"),none,(.fields #[(.str "truth_of" 358),(.str "truth_of" 359),(.str "/claim/cut.py" 360),(.int 47 0),(.int 2 0),(.int 0 0),(.int 0 0),(.int 3 0),(.ref 137),(.bool true),(.int 181 0),(.ref 138),.none,(.ref 139),(.ref 140),(.ref 141),(.int 364 0),(.int 47 0),(.str "/claim/cut.py" 365)]),#[]⟩
noncomputable def x29 (_ : Params) : Obj := ⟨(.type "function"),none,(fnO (tp 14) "truth_of" "truth_of" 3 [] .none .none .none (.str "sealpress.values" 336) none (.ref 142) .none 0),#[]⟩
noncomputable def x30 (_ : Params) : Obj := ⟨(.type "code"),none,(.fields #[(.str "rows_of" 367),(.str "rows_of" 368),(.str "/claim/cut.py" 369),(.int 52 0),(.int 2 0),(.int 0 0),(.int 0 0),(.int 3 0),(.ref 144),(.bool true),(.int 181 0),(.ref 145),.none,.none,.none,(.ref 146),(.int 370 0),(.int 52 0),(.str "/claim/cut.py" 371)]),#[]⟩
noncomputable def x31 (_ : Params) : Obj := ⟨(.type "function"),none,(fnO (tp 15) "rows_of" "rows_of" 3 [] .none .none .none (.str "sealpress.values" 336) none (.ref 147) .none 0),#[]⟩
noncomputable def x32 (_ : Params) : Obj := ⟨(.type "code"),none,(.fields #[(.str "_law_cell_at" 375),(.str "_law_cell_at" 376),(.str "/claim/cut.py" 377),(.int 60 0),(.int 2 0),(.int 0 0),(.int 0 0),(.int 3 0),(.ref 149),(.bool true),(.int 181 0),(.ref 150),.none,(.ref 151),(.ref 152),(.ref 153),(.int 380 0),(.int 60 0),(.str "/claim/cut.py" 381)]),#[]⟩
noncomputable def x33 (_ : Params) : Obj := ⟨(.type "function"),none,(fnO (tp 17) "_law_cell_at" "_law_cell_at" 3 [] .none .none .none (.str "law_sealpress_k81_scopes" 373) none (.ref 154) .none 0),#[]⟩
noncomputable def x34 (_ : Params) : Obj := ⟨(.type "code"),none,(.fields #[(.str "_law_mixed" 383),(.str "_law_mixed" 384),(.str "/claim/cut.py" 385),(.int 64 0),(.int 2 0),(.int 0 0),(.int 0 0),(.int 3 0),(.ref 156),(.bool true),(.int 181 0),(.ref 157),.none,(.ref 158),(.ref 159),(.ref 160),(.int 391 0),(.int 64 0),(.str "/claim/cut.py" 392)]),#[]⟩
noncomputable def x35 (_ : Params) : Obj := ⟨(.type "function"),none,(fnO (tp 18) "_law_mixed" "_law_mixed" 3 [] .none .none .none (.str "law_sealpress_k81_scopes" 373) none (.ref 161) .none 0),#[]⟩
noncomputable def x36 (_ : Params) : Obj := ⟨(.type "code"),none,(.fields #[(.str "_law_rest" 394),(.str "_law_rest" 395),(.str "/claim/cut.py" 396),(.int 69 0),(.int 1 0),(.int 0 0),(.int 0 0),(.int 3 0),(.ref 163),(.bool true),(.int 181 0),(.ref 164),.none,(.ref 165),(.ref 166),(.ref 167),(.int 398 0),(.int 69 0),(.str "/claim/cut.py" 399)]),#[]⟩
noncomputable def x37 (_ : Params) : Obj := ⟨(.type "function"),none,(fnO (tp 19) "_law_rest" "_law_rest" 3 [] .none .none .none (.str "law_sealpress_k81_scopes" 373) none (.ref 168) .none 0),#[]⟩
noncomputable def x38 (_ : Params) : Obj := ⟨(.type "code"),none,(.fields #[(.str "_law_names" 401),(.str "_law_names" 402),(.str "/claim/cut.py" 403),(.int 73 0),(.int 1 0),(.int 0 0),(.int 0 0),(.int 3 0),(.ref 170),(.bool true),(.int 181 0),(.ref 171),.none,(.ref 172),(.ref 173),(.ref 174),(.int 412 0),(.int 73 0),(.str "/claim/cut.py" 413)]),#[]⟩
noncomputable def x39 (_ : Params) : Obj := ⟨(.type "function"),none,(fnO (tp 20) "_law_names" "_law_names" 3 [] .none .none .none (.str "law_sealpress_k81_scopes" 373) none (.ref 175) .none 0),#[]⟩
noncomputable def x40 (_ : Params) : Obj := ⟨(.type "code"),none,(.fields #[(.str "_law_value" 415),(.str "_law_value" 416),(.str "/claim/cut.py" 417),(.int 86 0),(.int 1 0),(.int 0 0),(.int 0 0),(.int 3 0),(.ref 177),(.bool true),(.int 181 0),(.ref 178),.none,.none,.none,(.ref 179),(.int 418 0),(.int 86 0),(.str "/claim/cut.py" 419)]),#[]⟩
noncomputable def x41 (_ : Params) : Obj := ⟨(.type "function"),none,(fnO (tp 21) "_law_value" "_law_value" 3 [] .none .none .none (.str "law_sealpress_k81_scopes" 373) none (.ref 180) .none 0),#[]⟩
noncomputable def x42 (_ : Params) : Obj := ⟨(.type "code"),none,(.fields #[(.str "_law_scopes" 421),(.str "_law_scopes" 422),(.str "/claim/cut.py" 423),(.int 95 0),(.int 2 0),(.int 0 0),(.int 0 0),(.int 3 0),(.ref 182),(.bool true),(.int 181 0),(.ref 183),.none,(.ref 184),(.ref 185),(.ref 186),(.int 431 0),(.int 95 0),(.str "/claim/cut.py" 432)]),#[]⟩
noncomputable def x43 (_ : Params) : Obj := ⟨(.type "function"),none,(fnO (tp 22) "_law_scopes" "_law_scopes" 3 [] .none .none .none (.str "law_sealpress_k81_scopes" 373) none (.ref 187) .none 0),#[]⟩
noncomputable def x44 (_ : Params) : Obj := ⟨(.type "code"),none,(.fields #[(.str "_law_foreign" 434),(.str "_law_foreign" 435),(.str "/claim/cut.py" 436),(.int 105 0),(.int 1 0),(.int 0 0),(.int 0 0),(.int 3 0),(.ref 189),(.bool true),(.int 181 0),(.ref 190),.none,.none,.none,(.ref 191),(.int 437 0),(.int 105 0),(.str "/claim/cut.py" 438)]),#[]⟩
noncomputable def x45 (_ : Params) : Obj := ⟨(.type "function"),none,(fnO (tp 23) "_law_foreign" "_law_foreign" 3 [] .none .none .none (.str "law_sealpress_k81_scopes" 373) none (.ref 192) .none 0),#[]⟩
noncomputable def x46 (_ : Params) : Obj := ⟨(.type "code"),none,(.fields #[(.str "_law_due" 440),(.str "_law_due" 441),(.str "/claim/cut.py" 442),(.int 108 0),(.int 3 0),(.int 0 0),(.int 0 0),(.int 3 0),(.ref 194),(.bool true),(.int 181 0),(.ref 195),.none,.none,.none,(.ref 196),(.int 443 0),(.int 108 0),(.str "/claim/cut.py" 444)]),#[]⟩
noncomputable def x47 (_ : Params) : Obj := ⟨(.type "function"),none,(fnO (tp 24) "_law_due" "_law_due" 3 [] .none .none .none (.str "law_sealpress_k81_scopes" 373) none (.ref 197) .none 0),#[]⟩
noncomputable def x48 (_ : Params) : Obj := ⟨(.type "code"),none,(.fields #[(.str "_law_found" 446),(.str "_law_found" 447),(.str "/claim/cut.py" 448),(.int 122 0),(.int 3 0),(.int 0 0),(.int 0 0),(.int 3 0),(.ref 199),(.bool true),(.int 181 0),(.ref 200),.none,(.ref 201),(.ref 202),(.ref 203),(.int 454 0),(.int 122 0),(.str "/claim/cut.py" 455)]),#[]⟩
noncomputable def x49 (_ : Params) : Obj := ⟨(.type "function"),none,(fnO (tp 25) "_law_found" "_law_found" 3 [] .none .none .none (.str "law_sealpress_k81_scopes" 373) none (.ref 204) .none 0),#[]⟩
noncomputable def x50 (_ : Params) : Obj := ⟨(.type "code"),none,(.fields #[(.str "_law_is_the_very" 457),(.str "_law_is_the_very" 458),(.str "/claim/cut.py" 459),(.int 136 0),(.int 2 0),(.int 0 0),(.int 0 0),(.int 3 0),(.ref 206),(.bool true),(.int 181 0),(.ref 207),.none,(.ref 208),(.ref 209),(.ref 210),(.int 465 0),(.int 136 0),(.str "/claim/cut.py" 466)]),#[]⟩
noncomputable def x51 (_ : Params) : Obj := ⟨(.type "function"),none,(fnO (tp 26) "_law_is_the_very" "_law_is_the_very" 3 [] .none .none .none (.str "law_sealpress_k81_scopes" 373) none (.ref 211) .none 0),#[]⟩
noncomputable def x52 (_ : Params) : Obj := ⟨(.type "code"),none,(.fields #[(.str "law" 468),(.str "law" 469),(.str "/claim/cut.py" 470),(.int 147 0),(.int 1 0),(.int 0 0),(.int 0 0),(.int 3 0),(.ref 213),(.bool true),(.int 181 0),(.ref 214),.none,.none,.none,(.ref 215),(.int 471 0),(.int 147 0),(.str "/claim/cut.py" 472)]),#[]⟩
noncomputable def x53 (_ : Params) : Obj := ⟨(.type "function"),none,(fnO (tp 27) "law" "law" 3 [] .none .none .none (.str "law_sealpress_k81_scopes" 373) none (.ref 216) .none 0),#[]⟩
noncomputable def kh0 (P : Params) : PySem.W.Frag := [(2, boot_o_2 P), (3, x0 P), (15, x1 P), (22, x2 P), (23, x3 P), (24, x4 P), (25, x5 P), (40, x6 P), (41, x7 P), (43, x8 P), (44, x9 P), (62, x10 P)]
noncomputable def kh1 (P : Params) : PySem.W.Frag := [(63, x11 P), (74, x12 P), (75, x13 P), (90, x14 P), (91, x15 P), (93, x16 P), (94, x17 P), (109, x18 P), (110, x19 P), (112, x20 P), (113, x21 P), (121, x22 P)]
noncomputable def kh2 (P : Params) : PySem.W.Frag := [(122, x23 P), (128, x24 P), (129, x25 P), (135, x26 P), (136, x27 P), (142, x28 P), (143, x29 P), (147, x30 P), (148, x31 P), (154, x32 P), (155, x33 P), (161, x34 P)]
noncomputable def kh3 (P : Params) : PySem.W.Frag := [(162, x35 P), (168, x36 P), (169, x37 P), (175, x38 P), (176, x39 P), (180, x40 P), (181, x41 P), (187, x42 P), (188, x43 P), (192, x44 P), (193, x45 P), (197, x46 P)]
noncomputable def kh4 (P : Params) : PySem.W.Frag := [(198, x47 P), (204, x48 P), (205, x49 P), (211, x50 P), (212, x51 P), (216, x52 P), (217, x53 P)]
noncomputable def KH (P : Params) : PySem.W.Frag := kh0 P ++ (kh1 P ++ (kh2 P ++ (kh3 P ++ (kh4 P))))
noncomputable def asL : List Addr := [2, 3, 15, 22, 23, 24, 25, 40, 41, 43, 44, 62, 63, 74, 75, 90, 91, 93, 94, 109, 110, 112, 113, 121, 122, 128, 129, 135, 136, 142, 143, 147, 148, 154, 155, 161, 162, 168, 169, 175, 176, 180, 181, 187, 188, 192, 193, 197, 198, 204, 205, 211, 212, 216, 217]
theorem as_eq (P : Params) : asL = (KH P).map (fun p => p.1) := by kernel_rfl
@[reducible] noncomputable def HK : Hook := kHook KH asL as_eq
noncomputable def obs0 (s : Shared) : List (Option Obj) := asL.map s.heap.get?
noncomputable def val0 (w : World) : List (Option Obj) := (KH w.params).map fun p => some p.2
noncomputable def tb0 (P : Params) : BT := .node (boot_o_0 P) (.node (boot_o_1 P) (.node (boot_o_3 P) (.node (boot_o_7 P) .nil .nil) (.node (o11 P) .nil .nil)) (.node (boot_o_5 P) (.node (boot_o_9 P) .nil .nil) (.node (o13 P) .nil .nil)))
  (.node (boot_o_2 P) (.node (boot_o_4 P) (.node (boot_o_8 P) .nil .nil) (.node (o12 P) .nil .nil)) (.node (boot_o_6 P) (.node (boot_o_10 P) .nil .nil) (.node (o14 P) .nil .nil)))
noncomputable def sB (w : World) (os : OsState) : SharedT := ⟨tb0 w.params, 15, {}, #[], {}, 187, os⟩
noncomputable def env0 : Env := { scope := pw.main.scope, locals := mainNs, globals := mainNs, cells := [], code := .ref 13, frame := some 14 }
noncomputable def body0 : List Stmt := behindTheImports pw
noncomputable def cE : Code := .body body0 env0
noncomputable def pos0 : Pos := ⟨0, 0, 0, 0⟩
noncomputable def B0 : List Frame := [topFrame pos0]
noncomputable def ann0 : Option Value := some (.ref 6)
noncomputable def qvw : Program := view pw [1, 2, 3, 4, 5, 6, 8, 9, 11, 12, 13, 14, 15, 17, 18, 19, 20, 21, 22, 23, 24, 25, 26, 27]
noncomputable def loose0 : List Str := []
noncomputable def mods : List Str := importedModules pw.main.body
noncomputable def Xt0 (s : Shared) : Bool := xlAt qvw [] s && recOk (RowW.records (OpenRow.toRowW (OpenLaw.row PySem.Challenge.rw_sealpress_k81_scopes))) s
noncomputable def lookF (w : World) (r : Flow × SharedT × Code × Pos) := (r.1, r.2.2.1, (staticsOk mods (boot_heap w.params) r.2.1.abs.heap && namesBound pw r.2.1.abs.heap && gensDone r.2.1.abs && laidKept (boot_heap w.params) r.2.1.abs.heap), obs0 r.2.1.abs)
noncomputable def lookG (r : Flow × SharedT × Code × Pos) := openSeen qvw loose0 mods Xt0 true r.2.1.abs
noncomputable def ck0 : List Stmt := body0
noncomputable def lhs (w : World) (os : OsState) := (segRunT treeTable pw w 11 ann0 1 2016 (sB w os) (piecesOf ck0 env0 cE pos0 B0)).map (lookF w)
noncomputable def rhs (w : World) (_ : OsState) := some (Flow.next, cE, true, val0 w)
noncomputable def lhsG (w : World) (os : OsState) := (segRunT treeTable pw w 11 ann0 1 2016 (sB w os) (piecesOf ck0 env0 cE pos0 B0)).map lookG
noncomputable def rhsG (_ : World) (_ : OsState) := some (openGood qvw loose0)
theorem lhs_r : @lhs = @lhs := rfl
theorem rhs_r : @rhs = @rhs := rfl
name_quick lhsQ for My.lhs by My.lhs_r
name_quick rhsQ for My.rhs by My.rhs_r
theorem kr (w : World) : PySem.W.Fast.lhsQ w = PySem.W.Fast.rhsQ w := by kernel_rfl
theorem run_all (w : World) : lhs w = rhs w := (congrFun PySem.W.Fast.lhsQ_eq w).trans ((kr w).trans (congrFun PySem.W.Fast.rhsQ_eq w).symm)
theorem lhsG_r : @lhsG = @lhsG := rfl
theorem rhsG_r : @rhsG = @rhsG := rfl
name_quick lhsGQ for My.lhsG by My.lhsG_r
name_quick rhsGQ for My.rhsG by My.rhsG_r
theorem krG (w : World) : PySem.W.Fast.lhsGQ w = PySem.W.Fast.rhsGQ w := by kernel_rfl
theorem run_allG (w : World) : lhsG w = rhsG w := (congrFun PySem.W.Fast.lhsGQ_eq w).trans ((krG w).trans (congrFun PySem.W.Fast.rhsGQ_eq w).symm)
noncomputable def lhs1 (w : World) (os : OsState) := topGo treeTable pw w 11 ann0 12 ⟨boot_heap w.params, #[], boot_drawn, boot_toks, os⟩ (topStub pw)
noncomputable def rhs1 (w : World) (os : OsState) : Option (Shared × Thread) := some ((sB w os).abs, ⟨denote treeTable cE, cE, pos0, B0⟩)
theorem lhs1_r : @lhs1 = @lhs1 := rfl
theorem rhs1_r : @rhs1 = @rhs1 := rfl
name_quick lhs1Q for My.lhs1 by My.lhs1_r
name_quick rhs1Q for My.rhs1 by My.rhs1_r
theorem kr1 (w : World) : PySem.W.Fast.lhs1Q w = PySem.W.Fast.rhs1Q w := by kernel_rfl
theorem run_1 (w : World) : lhs1 w = rhs1 w := (congrFun PySem.W.Fast.lhs1Q_eq w).trans ((kr1 w).trans (congrFun PySem.W.Fast.rhs1Q_eq w).symm)
noncomputable def lhs2 (w : World) (os : OsState) := segRun treeTable pw w 11 ann0 1 1 (sB w os).abs (blockOf body0 env0 cE pos0 B0)
noncomputable def rhs2 (w : World) (os : OsState) : Option (Flow × Shared × Code × Pos) := some (.next, (sB w os).abs, cE, pos0)
theorem lhs2_r : @lhs2 = @lhs2 := rfl
theorem rhs2_r : @rhs2 = @rhs2 := rfl
name_quick lhs2Q for My.lhs2 by My.lhs2_r
name_quick rhs2Q for My.rhs2 by My.rhs2_r
theorem kr2 (w : World) : PySem.W.Fast.lhs2Q w = PySem.W.Fast.rhs2Q w := by kernel_rfl
theorem run_2 (w : World) : lhs2 w = rhs2 w := (congrFun PySem.W.Fast.lhs2Q_eq w).trans ((kr2 w).trans (congrFun PySem.W.Fast.rhs2Q_eq w).symm)
noncomputable def lhs3 (w : World) : Bool × Nat × Option Value := ((boot_heap w.params).isNs mainGlobals && (#[] : Array GenState).size == 0, (boot_heap w.params).objs.size, (boot_heap w.params).nsMap mainGlobals "__annotations__")
theorem lhs3_r : @lhs3 = @lhs3 := rfl
name_quick lhs3Q for My.lhs3 by My.lhs3_r
theorem kr3 (w : World) : PySem.W.Fast.lhs3Q w = (true, 11, ann0) := by kernel_rfl
theorem run_3 (w : World) : lhs3 w = (true, 11, ann0) := (congrFun PySem.W.Fast.lhs3Q_eq w).trans (kr3 w)
theorem fin0 (w : World) (s : Shared) (q : Pos) : topRun treeTable pw w 11 ann0 2 s (restOf [] env0 cE q B0) = some s := rfl
theorem top_all (w : World) (os : OsState) : ∃ s : Shared, topRun treeTable pw w 11 ann0 (12 + (1 + (2016 + 2))) ⟨boot_heap w.params, #[], boot_drawn, boot_toks, os⟩ (topStub pw) = some s ∧
    (staticsOk mods (boot_heap w.params) s.heap && namesBound pw s.heap && gensDone s && laidKept (boot_heap w.params) s.heap) = true ∧ openSeen qvw loose0 mods Xt0 true s = openGood qvw loose0 ∧ obs0 s = val0 w := by
  obtain ⟨⟨f, s, c, q⟩, hr, hF⟩ := Option.map_eq_some_iff.mp (congrFun (run_all w) os)
  unfold lookF at hF
  simp only [Prod.mk.injEq] at hF
  obtain ⟨rfl, rfl, h1, h3⟩ := hF
  have h2 : openSeen qvw loose0 mods Xt0 true s.abs = openGood qvw loose0 := by
    have hG := congrFun (run_allG w) os
    unfold lhsG rhsG at hG
    rw [hr, Option.map_some] at hG
    exact Option.some.inj hG
  refine ⟨s.abs, ?_, h1, h2, h3⟩
  refine go_top (congrFun (run_1 w) os) (piece_block (congrFun (run_2 w) os) ?_)
  have k := piece_app (segRun_of hr) (fin0 w s.abs q)
  rw [List.append_nil] at k
  exact k
theorem boot0 (w : World) : (fencedOpening treeTable pw w 2131).map (fun s => (s.heap, s.gens, s.drawn, s.toks)) = some (boot_heap w.params, Array.mk [], boot_drawn, boot_toks) := boot_open (p := pw) (N := 2131) (by kernel_rfl) (by kernel_rfl) (fun _ => rfl) w
theorem left : LeftO pw qvw loose0 Xt0 HK.obs HK.val 2131 := L2.left_run (M := 12 + (1 + (2016 + 2))) (m0 := 11) (ann := ann0) boot0 run_3 top_all (by decide)
end My
set_option maxHeartbeats 1000000

namespace L2
open PySem PySem.Spec PyProof.Rows


abbrev Key := Sum Int Str
def keyIs : Key → Value → Bool
  | .inl k, v => Value.isInt k v
  | .inr x, v => Value.isStrOf x v
def keyH (w : World) : Key → Int
  | .inl k => hashInt k
  | .inr x => hashStr w x
theorem keyIs_shape : ∀ {k : Key} {v : Value}, keyIs k v = true → (∃ i t, k = Sum.inl i ∧ v = Value.int i t) ∨ (∃ x t, k = Sum.inr x ∧ v = Value.str x t)
  | .inl i, v, h => by
    obtain ⟨t, e⟩ := Value.isInt_shape (k := i) (v := v) h
    exact .inl ⟨i, t, rfl, e⟩
  | .inr x, v, h => by
    obtain ⟨t, e⟩ := Value.isStrOf_shape (x := x) (v := v) h
    exact .inr ⟨x, t, rfl, e⟩
theorem keyIs_int (i : Int) (t : Tok) : keyIs (.inl i) (.int i t) = true := by simp [keyIs, Value.isInt]
theorem keyIs_str (x : Str) (t : Tok) : keyIs (.inr x) (.str x t) = true := by simp [keyIs, Value.isStrOf]
theorem key_ll (a b : Int) : decide ((Sum.inl a : Key) = Sum.inl b) = (a == b) := by
  by_cases e : a = b
  · subst e; simp
  · have h : ¬ (Sum.inl a : Key) = Sum.inl b := fun q => e (Sum.inl.inj q)
    rw [decide_eq_false h]
    exact (beq_eq_false_iff_ne.mpr e).symm
theorem key_rr (a b : Str) : decide ((Sum.inr a : Key) = Sum.inr b) = decide (a = b) := by
  by_cases e : a = b
  · subst e; simp
  · have h : ¬ (Sum.inr a : Key) = Sum.inr b := fun q => e (Sum.inr.inj q)
    rw [decide_eq_false h, decide_eq_false e]
theorem key_lr (a : Int) (b : Str) : decide ((Sum.inl a : Key) = Sum.inr b) = false := decide_eq_false (fun q => nomatch q)
theorem key_rl (a : Str) (b : Int) : decide ((Sum.inr a : Key) = Sum.inl b) = false := decide_eq_false (fun q => nomatch q)

def mixKind (prog : Program) (w : World) : PySem.KeyKind prog w Key where
  is := keyIs
  hash := keyH w
  inj := fun v a b ha hb => by
    rcases keyIs_shape ha with ⟨i, t, rfl, rfl⟩ | ⟨x, t, rfl, rfl⟩
    · rcases keyIs_shape hb with ⟨j, u, rfl, e⟩ | ⟨y, u, rfl, e⟩
      · injection e with e1 _; rw [e1]
      · exact nomatch e
    · rcases keyIs_shape hb with ⟨j, u, rfl, e⟩ | ⟨y, u, rfl, e⟩
      · exact nomatch e
      · injection e with e1 _; rw [e1]
  byValue := fun k v h => by
    rcases keyIs_shape h with ⟨i, t, rfl, rfl⟩ | ⟨x, t, rfl, rfl⟩ <;> rfl
  pyHash := fun hv h => by
    rcases keyIs_shape hv with ⟨i, t, rfl, rfl⟩ | ⟨x, t, rfl, rfl⟩
    · exact wpAny_pyHash_int h
    · exact wpAny_pyHash_str h
  eqBool := fun hu hv h => by
    rcases keyIs_shape hu with ⟨i, t, rfl, rfl⟩ | ⟨x, t, rfl, rfl⟩
    · rcases keyIs_shape hv with ⟨j, u, rfl, rfl⟩ | ⟨y, u, rfl, rfl⟩
      · rw [key_ll] at h; exact wpAny_eqBool_int h
      · rw [key_lr] at h; exact SeqAt.EqAt.int_str i t y u _ _ _ _ h
    · rcases keyIs_shape hv with ⟨j, u, rfl, rfl⟩ | ⟨y, u, rfl, rfl⟩
      · rw [key_rl] at h; exact SeqAt.EqAt.str_int x t j u _ _ _ _ h
      · rw [key_rr] at h; exact wpAny_eqBool_str h
  «strs» := fun k x t v h => by
    rcases keyIs_shape h with ⟨i, u, rfl, e⟩ | ⟨y, u, rfl, e⟩
    · exact nomatch e
    · injection e with e1 _
      subst e1
      cases v <;> rfl

theorem mixKind_int (prog : Program) (w : World) (i : Int) (t : Tok) : (mixKind prog w).is (.inl i) (.int i t) = true := keyIs_int i t
theorem mixKind_str (prog : Program) (w : World) (x : Str) (t : Tok) : (mixKind prog w).is (.inr x) (.str x t) = true := keyIs_str x t
end L2

namespace L2
open PySem PySem.Spec PyProof.Rows


inductive V where
  | non | bl (b : Bool) | int (i : Int) | str (x : Str) | byt (b : Array UInt8) | flt (b : UInt64) | ref (a : Addr) | ty (n : String)
  deriving DecidableEq

def RelV : V → Value → Prop
  | .non, u => u = Value.none
  | .bl b, u => u = Value.bool b
  | .int i, u => ∃ t, u = Value.int i t
  | .str x, u => ∃ t, u = Value.str x t
  | .byt b, u => ∃ t, u = Value.bytes b t
  | .flt b, u => ∃ t, u = Value.float b t
  | .ref a, u => u = Value.ref a
  | .ty n, u => u = Value.type n

abbrev Vals : List V → List Value → Prop := Paired RelV
theorem Vals.length {xs : List V} {us : List Value} (r : Vals xs us) : xs.length = us.length := Paired.length r
theorem Vals.get : ∀ {xs : List V} {us : List Value} {i : Nat} {x : V}, Vals xs us → xs[i]? = some x → ∃ u, us[i]? = some u ∧ RelV x u
  | _, _, _, _, .nil, e => by simp at e
  | _, _, 0, _, .cons r _, e => by simp at e; subst e; exact ⟨_, rfl, r⟩
  | _, _, i + 1, x, .cons _ t, e => by
    obtain ⟨u, h1, h2⟩ := Vals.get (i := i) (x := x) t (by simpa using e)
    exact ⟨u, by simpa using h1, h2⟩
theorem Vals.set {x : V} {u : Value} (r : RelV x u) : ∀ {xs : List V} {us : List Value} (i : Nat), Vals xs us → Vals (xs.set i x) (us.set i u)
  | _, _, _, .nil => .nil
  | _, _, 0, .cons _ t => .cons r t
  | _, _, i + 1, .cons q t => .cons q (Vals.set r i t)
theorem Vals.append : ∀ {xs ys : List V} {us ws : List Value}, Vals xs us → Vals ys ws → Vals (xs ++ ys) (us ++ ws)
  | _, _, _, _, .nil, s => s
  | _, _, _, _, .cons r t, s => .cons r (Vals.append t s)
theorem Vals.take : ∀ {xs : List V} {us : List Value} (n : Nat), Vals xs us → Vals (xs.take n) (us.take n)
  | _, _, 0, _ => .nil
  | _, _, _ + 1, .nil => .nil
  | _, _, n + 1, .cons r t => .cons r (Vals.take n t)
theorem Vals.drop : ∀ {xs : List V} {us : List Value} (n : Nat), Vals xs us → Vals (xs.drop n) (us.drop n)
  | _, _, 0, r => r
  | _, _, _ + 1, .nil => .nil
  | _, _, n + 1, .cons _ t => Vals.drop n t
theorem Vals.none_of : ∀ {xs : List V} {us : List Value} {i : Nat}, Vals xs us → xs[i]? = none → us[i]? = none := fun {xs us i} r e => by
  have h1 := r.length
  have h2 : xs.length ≤ i := List.getElem?_eq_none_iff.mp e
  exact List.getElem?_eq_none_iff.mpr (by omega)

def RelO : Option V → Option Value → Prop
  | some v, some u => RelV v u
  | none, none => True
  | _, _ => False
def KV {κ : Type} : List (κ × V) → List (κ × Value) → Prop := Paired fun (p : κ × V) (q : κ × Value) => p.1 = q.1 ∧ RelV p.2 q.2


def kV : Key → V
  | .inl i => .int i
  | .inr x => .str x


inductive HO where
  
  | lst (xs : List V)
  
  | tup (xs : List V)
  
  | dK (kvs : List (Key × V)) | dT (kvs : List (List Key × V))
  
  | set (S : Int → Bool) (n : Nat)
  
  | ins (C dx : Addr) (fs : List (Str × V))
  
  | own (x : Addr)
  
  | xd (fs : List (Str × V))
  
  | met (f x : Addr)
  
  | rng (lo hi : Int)
  
  | frz (o : Obj) (u : HO)
  
  | tbl (ps : Array Value)
  
  | ext (φ : Heap → Prop)

abbrev Hp := Addr → Option HO
def upd (H : Hp) (a : Addr) (o : HO) : Hp := fun b => if b = a then some o else H b
theorem upd_same {H : Hp} {a : Addr} {o : HO} : upd H a o a = some o := by unfold upd; rw [if_pos rfl]
theorem upd_ne {H : Hp} {a b : Addr} {o : HO} (h : b ≠ a) : upd H a o b = H b := by unfold upd; rw [if_neg h]
theorem upd_upd {H : Hp} {a : Addr} {o u : HO} : upd (upd H a o) a u = upd H a u := by
  funext b; unfold upd; split <;> rfl

theorem ne_of {H : Hp} {a b : Addr} {o u : HO} (h : H a = some o) (h' : H b = some u) (d : o ≠ u) : a ≠ b := by
  intro e; subst e; rw [h] at h'; exact d (Option.some.inj h')
theorem ne_of_none {H : Hp} {a b : Addr} {o : HO} (h : H a = some o) (h' : H b = none) : a ≠ b := by
  intro e; subst e; rw [h] at h'; cases h'

section
variable (P : Program) (w : World)
def ObjOk (H : Hp) (h : Heap) (a : Addr) : HO → Prop
  | .lst xs => xs.length ≤ sizeLine ∧ ∃ (its : List Value) (n : Nat), Vals xs its ∧ h.get? a = some { cls := .type "list", data := .seq its.toArray n }
  | .tup xs => xs.length ≤ sizeLine ∧ ∃ its : List Value, Vals xs its ∧ IsTup h a its.toArray
  | .dK kvs => kvs.length ≤ sizeLine ∧ (a == sysModules) = false ∧ ∃ vs, KV kvs vs ∧ h.DictOf (mixKind P w) a vs
  | .dT kvs => kvs.length ≤ sizeLine ∧ (a == sysModules) = false ∧ ∃ xs : List (List Key × Addr × Value),
      Paired (fun (p : List Key × V) (q : List Key × Addr × Value) => p.1 = q.1 ∧ H q.2.1 = some (.tup (p.1.map kV)) ∧ RelV p.2 q.2.2) kvs xs ∧
      ∃ o es ep, h.get? a = some o ∧ o.ExactDict ∧ o.data = .dict es ep ∧ es.toList = xs.map (entryOfKey (tupleKind (mixKind P w))) ∧ (xs.map (·.1)).Nodup
  | .set S n => h.SetOf (intKind P w) a S n
  | .ins C dx fs => H dx = some (.own a) ∧ fs.length ≤ 1000 ∧ dx ≠ a ∧ h.get? a = some (PySem.W.instObj C dx) ∧
      ∃ mA, h.Ns1 dx mA ∧ (∀ f, RelO (fs.lookup f) (mA f)) ∧ PySem.Within mA (fs.map (·.1))
  | .own _ => ∃ o, h.get? a = some o
  | .xd fs => ∃ mA, h.Ns1 a mA ∧ ∀ f, RelO (fs.lookup f) (mA f)
  | .rng lo hi => ∃ t u v, h.get? a = some { cls := .type "range", data := .fields #[.int lo t, .int hi u, .int 1 v] }
  | .frz o u => h.get? a = some o ∧ ObjOk H h a u
  | .tbl ps => h.get? a = some { cls := .none, data := .fields ps }
  | .met f x => h.get? a = some (PySem.W.methodObj (.ref f) (.ref x))
  | .ext φ => φ h ∧ (∃ o, h.get? a = some o) ∧ ∀ h1 h2 : Heap, φ h1 → (∀ o, h1.get? a = some o → h2.get? a = some o) → φ h2

def HOk (H : Hp) (h : Heap) : Prop := ∀ a o, H a = some o → ObjOk P w H h a o
end

section
variable {P : Program} {w : World} {H H' : Hp} {h h' : Heap} {a : Addr} {o : HO}
theorem ObjOk.lt (x : ObjOk P w H h a o) : a < h.objs.size := by
  cases o with
  | lst xs => obtain ⟨_, _, _, _, e⟩ := x; exact Heap.lt_size e
  | tup xs => obtain ⟨_, _, _, p⟩ := x; exact p.lt
  | dK kvs => obtain ⟨_, _, _, _, o, _, _, e, _⟩ := x; exact Heap.lt_size e
  | dT kvs => obtain ⟨_, _, _, _, o, _, _, e, _⟩ := x; exact Heap.lt_size e
  | set S n => obtain ⟨o, _, _, _, e, _⟩ := x; exact Heap.lt_size e
  | ins C dx fs => obtain ⟨_, _, _, e, _⟩ := x; exact Heap.lt_size e
  | own y => obtain ⟨_, e⟩ := x; exact Heap.lt_size e
  | xd fs => obtain ⟨_, ⟨_, _, _, e, _⟩, _⟩ := x; exact Heap.lt_size e
  | rng lo hi => obtain ⟨_, _, _, e⟩ := x; exact Heap.lt_size e
  | frz ob u => obtain ⟨e, _⟩ := x; exact Heap.lt_size e
  | tbl ps => exact Heap.lt_size (show h.get? a = some _ from x)
  | met f y => exact Heap.lt_size (show h.get? a = some _ from x)
  | ext φ => obtain ⟨_, ⟨_, e⟩, _⟩ := x; exact Heap.lt_size e
theorem Paired.mapP {α β : Type} {F G : α → β → Prop} : ∀ {l₁ : List α} {l₂ : List β}, Paired F l₁ l₂ → (∀ a b, F a b → G a b) → Paired G l₁ l₂
  | _, _, .nil, _ => .nil
  | _, _, .cons r t, f => .cons (f _ _ r) (Paired.mapP t f)
theorem ObjOk.stay (x : ObjOk P w H h a o) (k : ∀ b u, (b = a ∨ H b = some (.own a)) → h.get? b = some u → h'.get? b = some u)
    (ho : ∀ b, H b = some (.own a) → H' b = some (.own a)) (ht : ∀ b xs, H b = some (.tup xs) → H' b = some (.tup xs)) : ObjOk P w H' h' a o := by
  induction o with
  | lst xs => obtain ⟨z, its, n, r, e⟩ := x; exact ⟨z, its, n, r, k _ _ (.inl rfl) e⟩
  | tup xs => obtain ⟨z, its, r, ob, e, c⟩ := x; exact ⟨z, its, r, ob, k _ _ (.inl rfl) e, c⟩
  | dK kvs => obtain ⟨z, y, vs, r, ob, es, ep, e, c⟩ := x; exact ⟨z, y, vs, r, ob, es, ep, k _ _ (.inl rfl) e, c⟩
  | dT kvs =>
    obtain ⟨z, y, xs, r, ob, es, ep, e, c⟩ := x
    exact ⟨z, y, xs, Paired.mapP r fun p q z => ⟨z.1, ht _ _ z.2.1, z.2.2⟩, ob, es, ep, k _ _ (.inl rfl) e, c⟩
  | set S n => obtain ⟨ob, es, ep, t, e, c⟩ := x; exact ⟨ob, es, ep, t, k _ _ (.inl rfl) e, c⟩
  | ins C dx fs =>
    obtain ⟨d, z, ne, e, mA, ⟨od, es, ep, e2, c⟩, r⟩ := x
    exact ⟨ho _ d, z, ne, k _ _ (.inl rfl) e, mA, ⟨od, es, ep, k _ _ (.inr d) e2, c⟩, r⟩
  | own y => obtain ⟨ob, e⟩ := x; exact ⟨ob, k _ _ (.inl rfl) e⟩
  | xd fs => obtain ⟨mA, ⟨od, es, ep, e, c⟩, r⟩ := x; exact ⟨mA, ⟨od, es, ep, k _ _ (.inl rfl) e, c⟩, r⟩
  | rng lo hi => obtain ⟨t, u, v, e⟩ := x; exact ⟨t, u, v, k _ _ (.inl rfl) e⟩
  | frz ob u ih => obtain ⟨e, q⟩ := x; exact ⟨k _ _ (.inl rfl) e, ih q⟩
  | tbl ps =>
    have e : h.get? a = some { cls := .none, data := .fields ps } := x
    show h'.get? a = some { cls := .none, data := .fields ps }
    exact k a _ (.inl rfl) e
  | met f y =>
    have e : h.get? a = some (PySem.W.methodObj (.ref f) (.ref y)) := x
    show h'.get? a = some (PySem.W.methodObj (.ref f) (.ref y))
    exact k a _ (.inl rfl) e
  | ext φ => obtain ⟨p, ⟨o, e⟩, st⟩ := x; exact ⟨st _ _ p fun o q => k _ _ (.inl rfl) q, ⟨o, k _ _ (.inl rfl) e⟩, st⟩
theorem HOk.lt (x : HOk P w H h) (e : H a = some o) : a < h.objs.size := (x a o e).lt
theorem HOk.fresh (x : HOk P w H h) (e : h.objs.size ≤ a) : H a = none := by
  cases q : H a with
  | none => rfl
  | some u => exact absurd (Nat.lt_of_lt_of_le (x.lt q) e) (Nat.lt_irrefl _)

theorem HOk.kept (x : HOk P w H h) (k : ∀ b u, h.get? b = some u → h'.get? b = some u) : HOk P w H h' := fun a o e =>
  (x a o e).stay (fun b u _ q => k b u q) (fun _ q => q) fun _ _ q => q

theorem HOk.laid (x : HOk P w H h) (k : ∀ b u, h.get? b = some u → h'.get? b = some u) (hp : h.objs.size ≤ a) (new : ObjOk P w (upd H a o) h' a o) : HOk P w (upd H a o) h' := fun b u e => by
  have hn := x.fresh hp
  by_cases hb : b = a
  · subst hb; rw [upd_same] at e; cases e; exact new
  · rw [upd_ne hb] at e
    exact (x b u e).stay (fun c v _ q => k c v q) (fun c q => by rw [upd_ne (ne_of_none q hn)]; exact q) fun c xs q => by rw [upd_ne (ne_of_none q hn)]; exact q
end


def Rd (H : Hp) (a : Addr) (u : HO) : Prop := H a = some u ∨ ∃ o, H a = some (.frz o u)
theorem Rd.of {H : Hp} {a : Addr} {u : HO} (h : H a = some u) : Rd H a u := .inl h
theorem Rd.ok {P : Program} {w : World} {H : Hp} {h : Heap} {a : Addr} {u : HO} (r : Rd H a u) (x : HOk P w H h) : ObjOk P w H h a u := by
  rcases r with r | ⟨o, r⟩
  · exact x a u r
  · obtain ⟨_, q⟩ := x a _ r
    exact q

def Mut : Option HO → Prop
  | some (.lst _) => True
  | some (.dK _) => True
  | some (.dT _) => True
  | some (.set _ _) => True
  | some (.ins _ _ _) => True
  | some (.ext _) => True
  | _ => False
section
variable {P : Program} {w : World} {H : Hp} {h h' : Heap} {x e : Addr} {o' : HO}

theorem HOk.write (ok : HOk P w H h) (mu : Mut (H x)) (he : e = x ∨ H e = some (.own x)) (k : ∀ b u, b ≠ e → h.get? b = some u → h'.get? b = some u) (heo : ∃ u, h'.get? e = some u)
    (new : ObjOk P w (upd H x o') h' x o') : HOk P w (upd H x o') h' := fun b u q => by
  have nown : ∀ c y, H c = some (.own y) → c ≠ x := fun c y r z => by subst z; rw [r] at mu; exact mu
  have ntup : ∀ c xs, H c = some (.tup xs) → c ≠ x := fun c xs r z => by subst z; rw [r] at mu; exact mu
  by_cases hb : b = x
  · subst hb; rw [upd_same] at q; cases q; exact new
  · rw [upd_ne hb] at q
    by_cases hbe : b = e
    · have q' : H b = some (.own x) := by
        rcases he with z | z
        · exact absurd (hbe.trans z) hb
        · rw [hbe]; exact z
      rw [q] at q'; cases q'
      obtain ⟨v, hv⟩ := heo
      exact ⟨v, by rw [hbe]; exact hv⟩
    · refine (ok b u q).stay (fun c v hc r => k c v ?_ r) (fun c r => by rw [upd_ne (nown c b r)]; exact r) fun c xs r => by rw [upd_ne (ntup c xs r)]; exact r
      rcases hc with rfl | hc
      · exact hbe
      · rintro rfl
        rcases he with z | z
        · exact nown c b hc z
        · rw [hc] at z; cases z; exact hb rfl
end


structure Un (fs ex : List Addr) (H H' : Hp) (h h' : Heap) : Prop where
  keep : ∀ b o, h.get? b = some o → H b = none → b ∉ fs → b ∉ ex → h'.get? b = some o
  slot : ∀ b o, h.get? b = some o → H b = none → b ∈ fs → b ∉ ex → ∃ sl, h'.get? b = some { o with slots := sl }
  free : ∀ b o, h.get? b = some o → H b = none → b ∉ ex → H' b = none
  there : ∀ b o, h.get? b = some o → b ∉ ex → ∃ o', h'.get? b = some o'
  tups : ∀ b xs, H b = some (.tup xs) → H' b = some (.tup xs)
  frzs : ∀ b o u, H b = some (.frz o u) → H' b = some (.frz o u)
  tbls : ∀ b ps, H b = some (.tbl ps) → ∃ more, H' b = some (.tbl (ps ++ more))
section
variable {fs fs' ex ex' : List Addr} {H H1 H2 : Hp} {h h1 h2 h' : Heap} {a x e : Addr} {o : HO}
theorem Un.any (u : Un fs ex H H1 h h1) {b : Addr} {ob : Obj} (q : h.get? b = some ob) (n : H b = none) (hx : b ∉ ex) : ∃ sl, h1.get? b = some { ob with slots := sl } := by
  by_cases hb : b ∈ fs
  · exact u.slot b ob q n hb hx
  · exact ⟨ob.slots, u.keep b ob q n hb hx⟩
theorem Un.trans (a : Un fs ex H H1 h h1) (b : Un fs ex H1 H2 h1 h2) : Un fs ex H H2 h h2 where
  keep := fun c ob q n hc hx => b.keep c ob (a.keep c ob q n hc hx) (a.free c ob q n hx) hc hx
  slot := fun c ob q n hc hx => by
    obtain ⟨sl, e1⟩ := a.slot c ob q n hc hx
    obtain ⟨sl', e2⟩ := b.slot c _ e1 (a.free c ob q n hx) hc hx
    exact ⟨sl', e2⟩
  free := fun c ob q n hx => by
    obtain ⟨o', e1⟩ := a.there c ob q hx
    exact b.free c o' e1 (a.free c ob q n hx) hx
  there := fun c ob q hx => by
    obtain ⟨o', e1⟩ := a.there c ob q hx
    exact b.there c o' e1 hx
  tups := fun c xs q => b.tups c xs (a.tups c xs q)
  frzs := fun c ob xs q => b.frzs c ob xs (a.frzs c ob xs q)
  tbls := fun c ps q => by
    obtain ⟨m1, e1⟩ := a.tbls c ps q
    obtain ⟨m2, e2⟩ := b.tbls c _ e1
    exact ⟨m1 ++ m2, by rw [e2, Array.append_assoc]⟩
theorem Un.kept (k : ∀ b u, h.get? b = some u → h'.get? b = some u) : Un fs ex H H h h' :=
  ⟨fun b ob q _ _ _ => k b ob q, fun b ob q _ _ _ => ⟨ob.slots, k b ob q⟩, fun _ _ _ n _ => n, fun b ob q _ => ⟨ob, k b ob q⟩, fun _ _ q => q, fun _ _ _ q => q, fun _ ps q => ⟨#[], by rw [q]; simp⟩⟩
theorem Un.refl : Un fs ex H H h h := Un.kept fun _ _ q => q
theorem Un.laid (k : ∀ b u, h.get? b = some u → h'.get? b = some u) (hp : h.objs.size ≤ a) (hn : H a = none) : Un fs ex H (upd H a o) h h' where
  keep := fun b u q _ _ _ => k b u q
  slot := fun b u q _ _ _ => ⟨u.slots, k b u q⟩
  free := fun b u q n _ => by rw [upd_ne (Nat.ne_of_lt (Nat.lt_of_lt_of_le (Heap.lt_size q) hp))]; exact n
  there := fun b u q _ => ⟨u, k b u q⟩
  tups := fun b xs q => by rw [upd_ne (ne_of_none q hn)]; exact q
  frzs := fun b u xs q => by rw [upd_ne (ne_of_none q hn)]; exact q
  tbls := fun b ps q => ⟨#[], by rw [upd_ne (ne_of_none q hn), q]; simp⟩
theorem Un.write (mu : Mut (H x)) (he : e = x ∨ H e = some (.own x)) (k : ∀ b u, b ≠ e → h.get? b = some u → h'.get? b = some u) (heo : ∃ u, h'.get? e = some u) : Un fs ex H (upd H x o) h h' := by
  have hx : ∀ b, H b = none → b ≠ x := fun b n z => by subst z; rw [n] at mu; exact mu
  have hb : ∀ b, H b = none → b ≠ e := fun b n z => by
    subst z
    rcases he with r | r
    · exact hx b n r
    · rw [n] at r; cases r
  have hm : ∀ b u, H b = some u → ¬ Mut (some u) → b ≠ x := fun b u q nm z => by subst z; rw [q] at mu; exact nm mu
  refine ⟨fun b u q n _ _ => k b u (hb b n) q, fun b u q n _ _ => ⟨u.slots, k b u (hb b n) q⟩, fun b u q n _ => by rw [upd_ne (hx b n)]; exact n, fun b u q _ => ?_,
    fun b xs q => by rw [upd_ne (hm b _ q fun z => z)]; exact q, fun b u xs q => by rw [upd_ne (hm b _ q fun z => z)]; exact q, fun b ps q => ⟨#[], by rw [upd_ne (hm b _ q fun z => z), q]; simp⟩⟩
  by_cases hbe : b = e
  · subst hbe; exact heo
  · exact ⟨u, k b u hbe q⟩
theorem Un.mono (u : Un fs ex H H1 h h1) (hs : ∀ b ∈ fs, b ∈ fs') (hx : ∀ b ∈ ex, b ∈ ex') : Un fs' ex' H H1 h h1 :=
  ⟨fun b ob q n hb he => u.keep b ob q n (fun z => hb (hs b z)) fun z => he (hx b z), fun _ _ q n _ he => u.any q n fun z => he (hx _ z), fun b ob q n he => u.free b ob q n fun z => he (hx b z), fun b ob q he => u.there b ob q fun z => he (hx b z), u.tups, u.frzs, u.tbls⟩
end


def trk (h : Heap) (H : Hp) : List Addr := (List.range h.objs.size).filter fun a => (H a).isSome
def hidT (h : Heap) (H : Hp) : Heap := PySem.W.hideAll h (trk h H)
theorem hidT_size (h : Heap) (H : Hp) : (hidT h H).objs.size = h.objs.size := PySem.W.hideAll_size _ _
theorem hidT_get {h : Heap} {H : Hp} {b : Addr} {o : Obj} (e : h.get? b = some o) (n : H b = none) : (hidT h H).get? b = some o :=
  PySem.W.hideAll_get _ e fun hm => by
    have q : (H b).isSome = true := (List.mem_filter.mp hm).2
    rw [n] at q; simp at q
theorem of_hidT {h : Heap} {H : Hp} {b : Addr} {o : Obj} (e : (hidT h H).get? b = some o) : h.get? b = some o ∧ H b = none := by
  have e' : h.get? b = some o := PySem.W.of_hideAll (trk h H) e
  refine ⟨e', ?_⟩
  cases q : H b with
  | none => rfl
  | some x =>
    have hm : b ∈ trk h H := List.mem_filter.mpr ⟨List.mem_range.mpr (Heap.lt_size e'), by simp [q]⟩
    have z : (hidT h H).get? b = none := PySem.W.hideAll_none (trk h H) hm
    rw [z] at e; cases e


def allNews (g h : Heap) (L : Addr) : List (Addr × Obj) := (List.range h.objs.size).filterMap fun a => if a = L ∨ (g.get? a).isSome = true then none else (h.get? a).map fun o => (a, o)
def rest (g h : Heap) (L d : Addr) : List (Addr × Obj) := (allNews g h L).filter fun p => decide (p.1 ≠ d)
end L2

namespace L2
open PySem PySem.Spec PyProof.Rows


structure Mod (K : PySem.W.Frag) (mg : Str → Option Value) (base : Heap) : Prop where
  kin : K.In base
  glob : base.Ns mainGlobals mg
  blt : ∃ mb, base.Ns builtinsNs mb ∧ ∀ x : Str, x ≠ "__name__" → mb x = bootBuiltins x
  nolimit : base.NoLimit


structure Cx where
  prog : Program
  w : World
  K : PySem.W.Frag
  mg : Str → Option Value
  base : Heap
  A : Around
  N : List Str
  s₀ : Shared
  H₀ : Hp
  env : Env
  outer : List Env
  stack : List Env
  ex : List Addr
  fn : Str → Bool
  calm : Bool
  pn : List (Addr × Obj)
  xe : Value → Shared → Prop

def frs (l : List Env) : List Addr := l.filterMap (·.frame)
abbrev Cx.fs (X : Cx) : List Addr := frs X.outer

def Vis (sc : Scope) (x : Str) : Prop := sc.names.lookup x = some .local ∨ sc.names.lookup x = some .cell ∨ sc.names.lookup x = some .free
def Loc (sc : Scope) (x : Str) : Prop := sc.names.lookup x = some .local ∨ sc.names.lookup x = some .cell
def Look (env : Env) (h : Heap) (m : Str → Option Value) (x : Str) (u : Value) : Prop :=
  (env.kindOf x = some .local ∧ m x = some u) ∨ ((env.kindOf x = some .cell ∨ env.kindOf x = some .free) ∧ ∃ c, env.cells.lookup x = some c ∧ h.IsCell c (some u))

structure Cx.Ok (X : Cx) : Prop where
  mod : Mod X.K X.mg X.base
  kind : X.env.scope.kind = .function
  glob : X.env.globals = mainGlobals
  blt : X.env.builtins = builtinsNs
  above : X.s₀.heap.objs.size ≤ X.env.locals
  inj : ∀ x y c, X.env.cells.lookup x = some c → X.env.cells.lookup y = some c → x = y
  has : ∀ x, (X.env.kindOf x = some .cell ∨ X.env.kindOf x = some .free) → ∃ c, X.env.cells.lookup x = some c
  cab : ∀ x c, X.fn x = true → X.env.cells.lookup x = some c → X.s₀.heap.objs.size ≤ c
  hd : X.calm = true → X.A.handled = none
  frames : X.A.frames = some X.stack
  stk : X.stack = X.outer ∨ (X.stack = X.env :: X.outer ∧ X.env.frame = some X.env.locals)
  exf : ∀ b ∈ X.ex, b ≠ X.env.locals ∧ ∀ x c, X.env.cells.lookup x = some c → c ≠ b
  bs : ∀ b o, X.base.get? b = some o → X.s₀.heap.get? b = some o ∧ X.H₀ b = none
  bsz : X.base.objs.size ≤ X.s₀.heap.objs.size
  noex : ∀ b o, X.base.get? b = some o → b ∉ X.ex
  exfs : ∀ b ∈ X.ex, b ∉ X.fs
  funs : X.s₀.heap.FunFrames X.base X.outer
  frf : ∀ b ∈ X.fs, X.H₀ b = none

structure Inv (X : Cx) (pins : List (Addr × Obj)) (σ : List (Option V)) (H : Hp) (s : Shared) : Prop where
  ok : X.Ok
  os : s.os = X.s₀.os
  bare : AllBare s.gens
  base : Un X.fs X.ex X.H₀ H X.s₀.heap s.heap
  loc : ∃ m, s.heap.Ns X.env.locals m ∧ ∀ (i : Nat) (x : Str) (v : V), X.N[i]? = some x → σ[i]? = some (some v) → Vis X.env.scope x → ∃ u, RelV v u ∧ Look X.env s.heap m x u
  cell : ∀ x c, X.env.cells.lookup x = some c → ∃ v, s.heap.IsCell c v
  free : H X.env.locals = none
  freeC : ∀ x c, X.env.cells.lookup x = some c → H c = none
  pin : ∀ p ∈ X.pn ++ pins, s.heap.get? p.1 = some p.2 ∧ H p.1 = none ∧ p.1 ≠ X.env.locals ∧ p.1 ∉ X.fs ∧ ∀ v, p.2.data ≠ .cell v
  hok : HOk X.prog X.w H s.heap
  len : σ.length = X.N.length

section
variable {X : Cx} {pins : List (Addr × Obj)} {σ : List (Option V)} {H H' : Hp} {s : Shared} {h' : Heap}

theorem Cx.Ok.nofr (ok : X.Ok) {b : Addr} {o : Obj} (e : X.base.get? b = some o) : b ∉ X.fs := fun hb => by
  have := (ok.funs.mem hb).1
  rw [e] at this; cases this
theorem Inv.bs (I : Inv X pins σ H s) : ∀ b o, X.base.get? b = some o → s.heap.get? b = some o ∧ H b = none := fun b o e =>
  ⟨I.base.keep b o (I.ok.bs b o e).1 (I.ok.bs b o e).2 (I.ok.nofr e) (I.ok.noex b o e), I.base.free b o (I.ok.bs b o e).1 (I.ok.bs b o e).2 (I.ok.noex b o e)⟩
theorem Inv.bk (I : Inv X pins σ H s) : ∀ b o, X.base.get? b = some o → s.heap.get? b = some o := fun b o e => (I.bs b o e).1
theorem Inv.mod (I : Inv X pins σ H s) : Mod X.K X.mg X.base := I.ok.mod
theorem Inv.kIn (I : Inv X pins σ H s) : X.K.In s.heap := I.ok.mod.kin.keeps I.bk
theorem Inv.nolimit (I : Inv X pins σ H s) : s.heap.NoLimit := I.ok.mod.nolimit.keeps I.bk

theorem Inv.lt (I : Inv X pins σ H s) : X.env.locals < s.heap.objs.size := let ⟨_, hn, _⟩ := I.loc; hn.lt
theorem Inv.sz (I : Inv X pins σ H s) : X.s₀.heap.objs.size ≤ s.heap.objs.size := Nat.le_trans I.ok.above (Nat.le_of_lt I.lt)
theorem Inv.nofs (I : Inv X pins σ H s) {a : Addr} (h : s.heap.objs.size ≤ a) : a ∉ X.fs := fun hb => by
  obtain ⟨_, o, ho, _⟩ := I.ok.funs.mem hb
  exact absurd (Nat.lt_of_lt_of_le (Heap.lt_size ho) (Nat.le_trans I.sz h)) (Nat.lt_irrefl _)
theorem Inv.cne (I : Inv X pins σ H s) : ∀ x c, X.env.cells.lookup x = some c → c ≠ X.env.locals := fun x c e z => by
  obtain ⟨v, o, ho, hd⟩ := I.cell x c e
  obtain ⟨m, ⟨o', es, ep, ho', hd', _⟩, _⟩ := I.loc
  rw [z, ho'] at ho; cases ho; rw [hd'] at hd; cases hd
theorem Inv.funs (I : Inv X pins σ H s) : s.heap.FunFrames X.base X.outer := by
  have all : ∀ (l : List Env), (∀ b ∈ frs l, b ∈ X.fs) → X.s₀.heap.FunFrames X.base l → s.heap.FunFrames X.base l := by
    intro l
    induction l with
    | nil => intro _ _; trivial
    | cons env r ih =>
      intro hs hl
      obtain ⟨hk, ⟨L, o, hf, hn, ho, hd⟩, hr⟩ := hl
      have hL : L ∈ X.fs := hs L (by unfold frs; rw [List.filterMap_cons, hf]; exact List.mem_cons_self)
      obtain ⟨sl, e⟩ := I.base.slot L o ho (I.ok.frf L hL) hL fun z => I.ok.exfs L z hL
      exact ⟨hk, ⟨L, _, hf, hn, e, hd⟩, ih (fun b hb => hs b (by unfold frs; rw [List.filterMap_cons, hf]; exact List.mem_cons_of_mem _ hb)) hr⟩
  exact all X.outer (fun _ hb => hb) I.ok.funs


theorem Inv.stack (I : Inv X pins σ H s) : s.heap.FunFrames X.base X.stack := by
  rcases I.ok.stk with e | ⟨e, hf⟩
  · rw [e]; exact I.funs
  · rw [e]
    obtain ⟨m, hn, _⟩ := I.loc
    refine .cons (by rw [I.ok.kind]; decide) hf hn ?_ I.funs
    exact Heap.get?_none_of_le (Nat.le_trans I.ok.bsz I.ok.above)
theorem Inv.stkSub (I : Inv X pins σ H s) : ∀ b ∈ frs X.stack, b ∈ X.env.locals :: X.fs := fun b hb => by
  rcases I.ok.stk with e | ⟨e, hf⟩
  · rw [e] at hb; exact List.mem_cons_of_mem _ hb
  · rw [e] at hb
    unfold frs at hb
    rw [List.filterMap_cons, hf] at hb
    exact hb
theorem Inv.stkFree (I : Inv X pins σ H s) : ∀ b ∈ frs X.stack, H b = none := fun b hb => by
  rcases List.mem_cons.mp (I.stkSub b hb) with e | hb
  · rw [e]; exact I.free
  · obtain ⟨_, o, ho, _⟩ := I.ok.funs.mem hb
    exact I.base.free b o ho (I.ok.frf b hb) fun z => I.ok.exfs b z hb


theorem Inv.step {g' : Array GenState} {t' : Nat} {d' : Drawn} {ch : List Addr} (I : Inv X pins σ H s)
    (hch : ∀ b ∈ ch, (b ∈ X.ex ∨ X.s₀.heap.objs.size ≤ b) ∧ b ≠ X.env.locals ∧ (∀ x c, X.env.cells.lookup x = some c → c ≠ b) ∧ ∀ p ∈ X.pn ++ pins, p.1 ≠ b)
    (keep : ∀ b o, b ≠ X.env.locals → b ∉ X.fs → b ∉ ch → s.heap.get? b = some o → H b = none → h'.get? b = some o)
    (slot : ∀ b o, b ≠ X.env.locals → b ∈ X.fs → b ∉ ch → s.heap.get? b = some o → H b = none → ∃ sl, h'.get? b = some { o with slots := sl }) (free : ∀ b o, b ∉ ch → s.heap.get? b = some o → H b = none → H' b = none)
    (there : ∀ b o, b ∉ ch → s.heap.get? b = some o → ∃ o', h'.get? b = some o')
    (tups : ∀ b xs, H b = some (.tup xs) → H' b = some (.tup xs)) (frzs : ∀ b o u, H b = some (.frz o u) → H' b = some (.frz o u)) (tbls : ∀ b ps, H b = some (.tbl ps) → ∃ more, H' b = some (.tbl (ps ++ more)))
    (ns : ∀ m, s.heap.Ns X.env.locals m → h'.Ns X.env.locals m) (hok : HOk X.prog X.w H' h') (hg : AllBare g') :
    Inv X pins σ H' { s with heap := h', gens := g', drawn := d', toks := t' } := by
  have neL : ∀ b o, X.s₀.heap.get? b = some o → b ≠ X.env.locals := fun b o e => Nat.ne_of_lt (Nat.lt_of_lt_of_le (Heap.lt_size e) I.ok.above)
  have neC : ∀ b o, X.s₀.heap.get? b = some o → b ∉ X.ex → b ∉ ch := fun b o e hx hb => by
    rcases (hch b hb).1 with z | z
    · exact hx z
    · exact absurd (Nat.lt_of_lt_of_le (Heap.lt_size e) z) (Nat.lt_irrefl _)
  have cellK : ∀ x c, X.env.cells.lookup x = some c → ∀ v, s.heap.IsCell c v → h'.IsCell c v := fun x c e v ⟨o, ho, hd⟩ => by
    have nch : c ∉ ch := fun z => (hch c z).2.2.1 x c e rfl
    by_cases hc : c ∈ X.fs
    · obtain ⟨sl, q⟩ := slot c o (I.cne x c e) hc nch ho (I.freeC x c e)
      exact ⟨_, q, hd⟩
    · exact ⟨o, keep c o (I.cne x c e) hc nch ho (I.freeC x c e), hd⟩
  refine ⟨I.ok, I.os, hg, ⟨fun b o e n hb hx => ?_, fun b o e n hb hx => ?_, fun b o e n hx => ?_, fun b o e hx => ?_, fun b xs e => tups b xs (I.base.tups b xs e), fun b o xs e => frzs b o xs (I.base.frzs b o xs e), fun b ps e => ?_⟩, ?_, fun x c e => ?_, ?_, fun x c e => ?_, fun p hp => ?_, hok, I.len⟩
  · exact keep b o (neL b o e) hb (neC b o e hx) (I.base.keep b o e n hb hx) (I.base.free b o e n hx)
  · obtain ⟨sl, e1⟩ := I.base.slot b o e n hb hx
    obtain ⟨sl', e2⟩ := slot b _ (neL b o e) hb (neC b o e hx) e1 (I.base.free b o e n hx)
    exact ⟨sl', e2⟩
  · obtain ⟨o', e1⟩ := I.base.there b o e hx
    exact free b o' (neC b o e hx) e1 (I.base.free b o e n hx)
  · obtain ⟨o', e1⟩ := I.base.there b o e hx
    exact there b o' (neC b o e hx) e1
  · obtain ⟨m1, e1⟩ := I.base.tbls b ps e
    obtain ⟨m2, e2⟩ := tbls b _ e1
    exact ⟨m1 ++ m2, by rw [e2, Array.append_assoc]⟩
  · obtain ⟨m, hn, hl⟩ := I.loc
    refine ⟨m, ns m hn, fun i x v e1 e2 e3 => ?_⟩
    obtain ⟨u, r, l⟩ := hl i x v e1 e2 e3
    refine ⟨u, r, ?_⟩
    rcases l with l | ⟨k, c, e, z⟩
    · exact .inl l
    · exact .inr ⟨k, c, e, cellK x c e _ z⟩
  · obtain ⟨v, z⟩ := I.cell x c e
    exact ⟨v, cellK x c e v z⟩
  · obtain ⟨m, ⟨o, _, _, ho, _⟩, _⟩ := I.loc
    exact free _ o (fun z => (hch _ z).2.1 rfl) ho I.free
  · obtain ⟨v, o, ho, hd⟩ := I.cell x c e
    exact free c o (fun z => (hch c z).2.2.1 x c e rfl) ho (I.freeC x c e)
  · obtain ⟨e, n, ne, nf, d⟩ := I.pin p hp
    have nch : p.1 ∉ ch := fun z => (hch p.1 z).2.2.2 p hp rfl
    exact ⟨keep p.1 p.2 ne nf nch e n, free p.1 p.2 nch e n, ne, nf, d⟩

theorem Inv.un {t' : Nat} (I : Inv X pins σ H s) (u : Un X.fs [] H H' s.heap h') (hok : HOk X.prog X.w H' h') : Inv X pins σ H' { s with heap := h', toks := t' } := by
  obtain ⟨m, ⟨o, es, ep, ho, r⟩, _⟩ := id I.loc
  obtain ⟨sl, hL⟩ := u.any ho I.free (by simp)
  exact I.step (g' := s.gens) (d' := s.drawn) (ch := []) (fun _ z => nomatch z) (fun b o _ hb _ e n => u.keep b o e n hb (by simp)) (fun b o _ hb _ e n => u.slot b o e n hb (by simp)) (fun b o _ e n => u.free b o e n (by simp)) (fun b o _ e => u.there b o e (by simp)) u.tups u.frzs u.tbls (fun m' hm => by
    obtain ⟨o', es', ep', ho', r'⟩ := hm
    rw [ho] at ho'; cases ho'
    exact ⟨_, es', ep', hL, r'⟩) hok I.bare

theorem Inv.call {g' : Array GenState} {t' : Nat} {d' : Drawn} {ch : List Addr} (I : Inv X pins σ H s) (u : Un (frs X.stack) ch H H' s.heap h') (hok : HOk X.prog X.w H' h') (hg : AllBare g')
    (hch : ∀ b ∈ ch, (b ∈ X.ex ∨ X.s₀.heap.objs.size ≤ b) ∧ b ≠ X.env.locals ∧ (∀ x c, X.env.cells.lookup x = some c → c ≠ b) ∧ ∀ p ∈ X.pn ++ pins, p.1 ≠ b) :
    Inv X pins σ H' { s with heap := h', gens := g', drawn := d', toks := t' } := by
  obtain ⟨m, ⟨o, es, ep, ho, r⟩, _⟩ := id I.loc
  obtain ⟨sl, hL⟩ := u.any ho I.free fun z => (hch _ z).2.1 rfl
  exact I.step (ch := ch) hch (fun b o hL hb hc e n => u.keep b o e n (fun z => (List.mem_cons.mp (I.stkSub b z)).elim hL hb) hc) (fun b o _ _ hc e n => u.any e n hc) (fun b o hc e n => u.free b o e n hc) (fun b o hc e => u.there b o e hc) u.tups u.frzs u.tbls (fun m' hm => by
    obtain ⟨o', es', ep', ho', r'⟩ := hm
    rw [ho] at ho'; cases ho'
    exact ⟨_, es', ep', hL, r'⟩) hok hg

theorem Inv.turned {t' : Nat} {it : Addr} (I : Inv X pins σ H s) (k : ∀ b o, b ≠ it → s.heap.get? b = some o → h'.get? b = some o) (hn : H it = none) (hL : it ≠ X.env.locals)
    (h1 : it ∈ X.ex ∨ X.s₀.heap.objs.size ≤ it) (h2 : ∀ x c, X.env.cells.lookup x = some c → c ≠ it) (h3 : ∀ p ∈ X.pn ++ pins, p.1 ≠ it) : Inv X pins σ H { s with heap := h', toks := t' } := by
  have nit : ∀ b u, H b = some u → b ≠ it := fun b u e z => by rw [z, hn] at e; cases e
  refine I.step (g' := s.gens) (d' := s.drawn) (ch := [it]) (fun b hb => ?_) (fun b o _ _ hc e _ => k b o (fun z => hc (by simp [z])) e) (fun b o _ _ hc e _ => ⟨o.slots, k b o (fun z => hc (by simp [z])) e⟩) (fun _ _ _ _ n => n)
    (fun b o hc e => ⟨o, k b o (fun z => hc (by simp [z])) e⟩) (fun _ _ e => e) (fun _ _ _ e => e) (fun b ps e => ⟨#[], by rw [e]; simp⟩) (fun m hm => ?_) (fun b u e => ?_) I.bare
  · have e : b = it := by simpa using hb
    subst e
    exact ⟨h1, hL, h2, h3⟩
  · obtain ⟨o, es, ep, ho, r⟩ := hm
    exact ⟨o, es, ep, k _ o (Ne.symm hL) ho, r⟩
  · refine (I.hok b u e).stay (fun c v hc q => k c v ?_ q) (fun _ q => q) fun _ _ q => q
    rcases hc with z | z
    · rw [z]; exact nit b u e
    · exact nit c _ z
theorem Inv.tok (I : Inv X pins σ H s) (t : Nat) : Inv X pins σ H { s with toks := t } := I.un (h' := s.heap) (t' := t) Un.refl I.hok

theorem Inv.kept {t' : Nat} (I : Inv X pins σ H s) (k : ∀ b u, s.heap.get? b = some u → h'.get? b = some u) : Inv X pins σ H { s with heap := h', toks := t' } := I.un (Un.kept k) (I.hok.kept k)

theorem Inv.laid {a : Addr} {o : HO} {t' : Nat} (I : Inv X pins σ H s) (k : ∀ b u, s.heap.get? b = some u → h'.get? b = some u) (hp : s.heap.objs.size ≤ a) (new : ObjOk X.prog X.w (upd H a o) h' a o) :
    Inv X pins σ (upd H a o) { s with heap := h', toks := t' } := I.un (Un.laid k hp (I.hok.fresh hp)) (I.hok.laid k hp new)

theorem Inv.write {x e : Addr} {o : HO} {t' : Nat} (I : Inv X pins σ H s) (mu : Mut (H x)) (he : e = x ∨ H e = some (.own x)) (k : ∀ b u, b ≠ e → s.heap.get? b = some u → h'.get? b = some u) (heo : ∃ u, h'.get? e = some u)
    (new : ObjOk X.prog X.w (upd H x o) h' x o) : Inv X pins σ (upd H x o) { s with heap := h', toks := t' } := I.un (Un.write mu he k heo) (I.hok.write mu he k heo new)

theorem Inv.pins_of {pins' : List (Addr × Obj)} (I : Inv X pins σ H s) (h : ∀ p ∈ pins', s.heap.get? p.1 = some p.2 ∧ H p.1 = none ∧ p.1 ≠ X.env.locals ∧ p.1 ∉ X.fs ∧ ∀ v, p.2.data ≠ .cell v) : Inv X pins' σ H s :=
  ⟨I.ok, I.os, I.bare, I.base, I.loc, I.cell, I.free, I.freeC, fun p hp => (List.mem_append.mp hp).elim (fun z => I.pin p (List.mem_append_left _ z)) (h p), I.hok, I.len⟩

theorem nodup_ix {N : List Str} (hN : N.Nodup) {i j : Nat} {x : Str} (a : N[i]? = some x) (b : N[j]? = some x) : i = j := by
  obtain ⟨h1, e1⟩ := List.getElem?_eq_some_iff.mp a
  obtain ⟨h2, e2⟩ := List.getElem?_eq_some_iff.mp b
  exact (List.getElem_inj hN).mp (e1.trans e2.symm)


theorem store_ok2 {M : Model} {A : Around} {E : Value → Shared → Prop} {i : Nat} {x : Str} {v : V} {u : Value} {Q : Unit → Shared → Prop} (I : Inv X pins σ H s) (hN : X.N.Nodup) (hi : X.N[i]? = some x) (hx : Loc X.env.scope x) (r : RelV v u)
    (h : ∀ s', Inv X pins (σ.set i (some v)) H s' → (∃ a, Heap.SameBut a s.heap s'.heap ∧ (a = X.env.locals ∨ X.env.cells.lookup x = some a)) → Q () s') (hf : X.fn x = true ∨ X.env.scope.names.lookup x = some .local := by first | exact .inl rfl | exact .inr rfl | assumption) : wpAny M A (storeName X.env x u) Q E s := by
  obtain ⟨m, hn, hl⟩ := id I.loc
  have hcls : (X.env.scope.kind == .class || (X.env.scope.kind == .module && X.env.locals != X.env.globals)) = false := by rw [I.ok.kind]; rfl
  have hiσ : i < σ.length := by rw [I.len]; exact (List.getElem?_eq_some_iff.mp hi).1
  have cne := I.cne
  have tracked : ∀ {a : Addr} {h' : Heap}, (∃ o, s.heap.get? a = some o ∧ H a = none) → Heap.SameBut a s.heap h' → HOk X.prog X.w H h' := fun {a h'} ha hs b ob e => by
    obtain ⟨_, _, hfree⟩ := ha
    refine (I.hok b ob e).stay (fun c w' hc q => (hs.2 c ?_).trans q) (fun _ q => q) fun _ _ q => q
    rintro rfl
    rcases hc with rfl | hc
    · rw [hfree] at e; cases e
    · rw [hfree] at hc; cases hc
  rcases hx with hk | hk
  · refine wpAny_storeName_local hk hn (fun h' hn' hs => ?_) hcls
    obtain ⟨oL, _, _, hoL, _⟩ := id hn
    refine h _ ⟨I.ok, I.os, I.bare, ⟨fun b o e n hb hx => ?_, fun b o e n hb hx => ?_, I.base.free, fun b o e hx => ?_, I.base.tups, I.base.frzs, I.base.tbls⟩, ⟨_, hn', fun j y v' e1 e2 e3 => ?_⟩, fun y c e => ?_, I.free, I.freeC, fun p hp => ?_, tracked ⟨oL, hoL, I.free⟩ hs, by simpa using I.len⟩ ⟨_, hs, .inl rfl⟩
    · exact (hs.2 b (Nat.ne_of_lt (Nat.lt_of_lt_of_le (Heap.lt_size e) I.ok.above))).trans (I.base.keep b o e n hb hx)
    · obtain ⟨sl, e1⟩ := I.base.slot b o e n hb hx
      exact ⟨sl, (hs.2 b (Nat.ne_of_lt (Nat.lt_of_lt_of_le (Heap.lt_size e) I.ok.above))).trans e1⟩
    · obtain ⟨o', e1⟩ := I.base.there b o e hx
      exact ⟨o', (hs.2 b (Nat.ne_of_lt (Nat.lt_of_lt_of_le (Heap.lt_size e) I.ok.above))).trans e1⟩
    · by_cases hj : j = i
      · subst hj
        rw [hi] at e1; cases e1
        rw [List.getElem?_set_self hiσ] at e2
        cases e2
        exact ⟨u, r, .inl ⟨hk, by simp⟩⟩
      · rw [List.getElem?_set_ne (Ne.symm hj)] at e2
        obtain ⟨u', r', q⟩ := hl j y v' e1 e2 e3
        refine ⟨u', r', ?_⟩
        rcases q with ⟨k, e⟩ | ⟨k, c, e, z⟩
        · refine .inl ⟨k, ?_⟩
          have : y ≠ x := fun e => hj (nodup_ix hN e1 (e ▸ hi))
          simp [this, e]
        · exact .inr ⟨k, c, e, z.sameBut hs (cne y c e)⟩
    · obtain ⟨w', z⟩ := I.cell y c e
      exact ⟨w', z.sameBut hs (cne y c e)⟩
    · obtain ⟨e, n, ne, nf, d⟩ := I.pin p hp
      exact ⟨(hs.2 p.1 ne).trans e, n, ne, nf, d⟩
  · have hfn : X.fn x = true := by
      rcases hf with z | z
      · exact z
      · rw [z] at hk; cases hk
    obtain ⟨c, hc⟩ := I.ok.has x (.inl hk)
    obtain ⟨w', z⟩ := I.cell x c hc
    refine wpAny_storeName_cell I.ok.kind hk hc z (fun h' hc' hs => ?_)
    obtain ⟨oc, hoc, hocd⟩ := id z
    refine h { s with heap := h' } ⟨I.ok, I.os, I.bare, ⟨fun b o e n hb hx => ?_, fun b o e n hb hx => ?_, I.base.free, fun b o e hx => ?_, I.base.tups, I.base.frzs, I.base.tbls⟩, ⟨m, hn.sameBut hs (Ne.symm (cne x c hc)), fun j y v' e1 e2 e3 => ?_⟩, fun y c' e => ?_, I.free, I.freeC, fun p hp => ?_, tracked ⟨oc, hoc, I.freeC x c hc⟩ hs, by simpa using I.len⟩ ⟨c, hs, .inr hc⟩
    · exact (hs.2 b (Nat.ne_of_lt (Nat.lt_of_lt_of_le (Heap.lt_size e) (I.ok.cab x c hfn hc)))).trans (I.base.keep b o e n hb hx)
    · obtain ⟨sl, e1⟩ := I.base.slot b o e n hb hx
      exact ⟨sl, (hs.2 b (Nat.ne_of_lt (Nat.lt_of_lt_of_le (Heap.lt_size e) (I.ok.cab x c hfn hc)))).trans e1⟩
    · obtain ⟨o', e1⟩ := I.base.there b o e hx
      exact ⟨o', (hs.2 b (Nat.ne_of_lt (Nat.lt_of_lt_of_le (Heap.lt_size e) (I.ok.cab x c hfn hc)))).trans e1⟩
    · by_cases hj : j = i
      · subst hj
        rw [hi] at e1; cases e1
        rw [List.getElem?_set_self hiσ] at e2
        cases e2
        exact ⟨u, r, .inr ⟨.inl hk, c, hc, hc'⟩⟩
      · rw [List.getElem?_set_ne (Ne.symm hj)] at e2
        obtain ⟨u', r', q⟩ := hl j y v' e1 e2 e3
        refine ⟨u', r', ?_⟩
        rcases q with q | ⟨k, c', e, z'⟩
        · exact .inl q
        · refine .inr ⟨k, c', e, z'.sameBut hs ?_⟩
          rintro rfl
          exact hj (nodup_ix hN e1 (I.ok.inj _ _ _ e hc ▸ hi))
    · by_cases hcc : c' = c
      · subst hcc; exact ⟨_, hc'⟩
      · obtain ⟨w2, z2⟩ := I.cell y c' e
        exact ⟨w2, z2.sameBut hs hcc⟩
    · obtain ⟨e, n, ne, nf, d⟩ := I.pin p hp
      refine ⟨(hs.2 p.1 ?_).trans e, n, ne, nf, d⟩
      intro q
      rw [q, hoc] at e
      have q' : oc = p.2 := Option.some.inj e
      exact d w' (by rw [← q']; exact hocd)
theorem store_ok {M : Model} {A : Around} {E : Value → Shared → Prop} {i : Nat} {x : Str} {v : V} {u : Value} {Q : Unit → Shared → Prop} (I : Inv X pins σ H s) (hN : X.N.Nodup) (hi : X.N[i]? = some x) (hx : Loc X.env.scope x) (r : RelV v u)
    (h : ∀ s', Inv X pins (σ.set i (some v)) H s' → Q () s') (hf : X.fn x = true ∨ X.env.scope.names.lookup x = some .local := by first | exact .inl rfl | exact .inr rfl | assumption) : wpAny M A (storeName X.env x u) Q E s :=
  store_ok2 I hN hi hx r (fun s' I' _ => h s' I') hf

theorem Inv.call' {s' : Shared} {ch : List Addr} (I : Inv X pins σ H s) (ho : s'.os = s.os) (u : Un (frs X.stack) ch H H' s.heap s'.heap) (hok : HOk X.prog X.w H' s'.heap) (hg : AllBare s'.gens)
    (hch : ∀ b ∈ ch, (b ∈ X.ex ∨ X.s₀.heap.objs.size ≤ b) ∧ b ≠ X.env.locals ∧ (∀ x c, X.env.cells.lookup x = some c → c ≠ b) ∧ ∀ p ∈ X.pn ++ pins, p.1 ≠ b) : Inv X pins σ H' s' := by
  obtain ⟨h', g', d', t', o'⟩ := s'
  have e : o' = s.os := ho
  subst e
  exact I.call (g' := g') (t' := t') (d' := d') u hok hg hch
end



abbrev XK := Value → Option Addr → Hp → Prop
abbrev St := List (Option V)
abbrev VK := V → Hp → Prop

abbrev TE := St → Hp → VK → Prop
abbrev TT := St → Hp → (Bool → Hp → Prop) → Prop
abbrev TA := St → Hp → (List V → Hp → Prop) → Prop

structure Ends where
  nx : St → Hp → Prop
  rt : VK
  bk : St → Hp → Prop := fun _ _ => False
  ct : St → Hp → Prop := fun _ _ => False
abbrev TS := Ends → St → Hp → Prop

def EP (X : Cx) (pins : List (Addr × Obj)) (σ : St) (Q : VK) (u : Value) (s' : Shared) : Prop := ∃ v H', Inv X pins σ H' s' ∧ RelV v u ∧ Q v H'
def TP (X : Cx) (pins : List (Addr × Obj)) (σ : St) (Q : Bool → Hp → Prop) (b : Bool) (s' : Shared) : Prop := ∃ H', Inv X pins σ H' s' ∧ Q b H'
def AP (X : Cx) (pins : List (Addr × Obj)) (σ : St) (Q : List V → Hp → Prop) (us : List Value) (s' : Shared) : Prop := ∃ vs H', Inv X pins σ H' s' ∧ Vals vs us ∧ Q vs H'
def SP (X : Cx) (pins : List (Addr × Obj)) (D : Ends) (f : Flow) (s' : Shared) : Prop :=
  match f with
  | .next => ∃ σ' H', Inv X pins σ' H' s' ∧ D.nx σ' H'
  | .brk => ∃ σ' H', Inv X pins σ' H' s' ∧ D.bk σ' H'
  | .cont => ∃ σ' H', Inv X pins σ' H' s' ∧ D.ct σ' H'
  | .ret u => ∃ v σ' H', Inv X pins σ' H' s' ∧ RelV v u ∧ D.rt v H'

def PE (X : Cx) (e : Expr) (t : TE) : Prop :=
  ∀ (pins : List (Addr × Obj)) (s : Shared) (σ : St) (H : Hp) (Q : VK), Inv X pins σ H s → t σ H Q → wpAny (model X.prog X.w) X.A (eval e X.env) (EP X pins σ Q) X.xe s
def PT (X : Cx) (e : Expr) (t : TT) : Prop :=
  ∀ (pins : List (Addr × Obj)) (s : Shared) (σ : St) (H : Hp) (Q : Bool → Hp → Prop), Inv X pins σ H s → t σ H Q → wpAny (model X.prog X.w) X.A (isTrue e X.env (eval e X.env)) (TP X pins σ Q) X.xe s

def PW (X : Cx) (e : Expr) (t : TT) : Prop :=
  ∀ (whole : Sem Value) (pins : List (Addr × Obj)) (s : Shared) (σ : St) (H : Hp) (Q : Bool → Hp → Prop), Inv X pins σ H s → t σ H Q → wpAny (model X.prog X.w) X.A (isTrue e X.env whole) (TP X pins σ Q) X.xe s
theorem PW.pt {X : Cx} {e : Expr} {t : TT} (h : PW X e t) : PT X e t := h _

def PA (X : Cx) (es : List Expr) (t : TA) : Prop :=
  ∀ (pos : Pos) (pins : List (Addr × Obj)) (s : Shared) (σ : St) (H : Hp) (Q : List V → Hp → Prop), Inv X pins σ H s → t σ H Q → wpAny (model X.prog X.w) X.A (spliced (backTo pos (starEach es X.env))) (AP X pins σ Q) X.xe s
def PS (X : Cx) (st : Stmt) (t : TS) : Prop :=
  ∀ (pins : List (Addr × Obj)) (s : Shared) (σ : St) (H : Hp) (D : Ends), Inv X pins σ H s → t D σ H → wpAny (model X.prog X.w) X.A (exec st X.env) (SP X pins D) X.xe s
def PSs (X : Cx) (st : List Stmt) (t : TS) : Prop :=
  ∀ (pins : List (Addr × Obj)) (s : Shared) (σ : St) (H : Hp) (D : Ends), Inv X pins σ H s → t D σ H → wpAny (model X.prog X.w) X.A (execs st X.env) (SP X pins D) X.xe s

theorem thn {α : Type} {t : Sem α} {Q Q' : α → Shared → Prop} {M : Model} {A : Around} {E : Value → Shared → Prop} {s : Shared} (h : wpAny M A t Q E s) (hQ : ∀ a s, Q a s → Q' a s) : wpAny M A t Q' E s := wpAny_mono h hQ fun _ _ x => x
end L2

namespace L2
open PySem PySem.Spec PyProof.Rows
section
variable {X : Cx}


def tVar (i : Nat) : TE := fun σ H Q => ∃ v, σ[i]? = some (some v) ∧ Q v H
def tC (v : V) : TE := fun _ H Q => Q v H
theorem pe_var {i : Nat} {x : Str} {pos : Pos} (hN : X.N[i]? = some x) (hv : Vis X.env.scope x) (hd : (x == ("__debug__" : Str)) = false := by decide) (hcd : (x == ("__classdict__" : Str)) = false := by decide) : PE X (.Name x pos) (tVar i) := by
  intro pins s σ H Q I h
  obtain ⟨v, e, h⟩ := h
  obtain ⟨m, hn, hl⟩ := I.loc
  obtain ⟨u, r, l⟩ := hl i x v hN e hv
  have fin : EP X pins σ Q u s := ⟨v, H, I, r, h⟩
  rcases l with ⟨hk, hm⟩ | ⟨hk, c, hc, hcell⟩
  · exact wpAny_Name (wpAny_loadName_local I.ok.kind hk hn hm fin) hd
  · rcases hk with hk | hk
    · exact wpAny_Name (wpAny_loadName_cell I.ok.kind hk hc hcell fin) hd
    · exact wpAny_Name (wpAny_loadName_free I.ok.kind hk hc hcell fin hcd) hd
theorem pe_int {i j pos} : PE X (.Constant (.int i) j pos) (tC (.int i)) := fun _ _ _ H _ I h => wpAny_Constant_int ⟨.int i, H, I.tok _, ⟨_, rfl⟩, h⟩
theorem pe_bl {b j pos} : PE X (.Constant (.bool b) j pos) (tC (.bl b)) := fun _ _ _ H _ I h => Constant_bool ⟨.bl b, H, I, rfl, h⟩
theorem pe_non {j pos} : PE X (.Constant .none j pos) (tC .non) := fun _ _ _ H _ I h => Constant_none ⟨.non, H, I, rfl, h⟩
theorem pe_str {x j pos} : PE X (.Constant (.str x) j pos) (tC (.str x)) := fun _ _ _ H _ I h => Calls.Constant_str ⟨.str x, H, I.tok _, ⟨_, rfl⟩, h⟩


def Gl (X : Cx) (x : Str) : Prop := X.env.kindOf x = some .globalImplicit
theorem ld_glob {E : Value → Shared → Prop} {pins : List (Addr × Obj)} {s : Shared} {σ : St} {H : Hp} {x : Str} {u : Value} {pos : Pos} {Q : Value → Shared → Prop} (I : Inv X pins σ H s) (hg : Gl X x) (hm : X.mg x = some u) (h : Q u s)
    (hd : (x == ("__debug__" : Str)) = false := by decide) : wpAny (model X.prog X.w) X.A (eval (.Name x pos) X.env) Q E s :=
  Calls.Name_function_global I.ok.kind hg (Calls.loadGlobal_global (by rw [I.ok.glob]; exact I.mod.glob.keeps I.bk) hm h) hd
theorem ld_blt {E : Value → Shared → Prop} {pins : List (Addr × Obj)} {s : Shared} {σ : St} {H : Hp} {x : Str} {u : Value} {pos : Pos} {Q : Value → Shared → Prop} (I : Inv X pins σ H s) (hg : Gl X x) (hm : X.mg x = none) (hv : bootBuiltins x = some u) (h : Q u s)
    (hn : x ≠ "__name__" := by decide) (hd : (x == ("__debug__" : Str)) = false := by decide) : wpAny (model X.prog X.w) X.A (eval (.Name x pos) X.env) Q E s := by
  obtain ⟨mb, h1, h2⟩ := I.mod.blt
  exact Calls.Name_function_global I.ok.kind hg (Calls.loadGlobal_builtin (by rw [I.ok.glob]; exact I.mod.glob.keeps I.bk) hm (by rw [I.ok.blt]; exact h1.keeps I.bk) ((h2 x hn).trans hv) h) hd

theorem pe_glob {x : Str} {v : V} {u : Value} {pos : Pos} (hg : Gl X x) (hm : X.mg x = some u) (r : RelV v u) (hd : (x == ("__debug__" : Str)) = false := by decide) : PE X (.Name x pos) (tC v) :=
  fun _ _ _ H _ I h => ld_glob I hg hm ⟨v, H, I, r, h⟩ hd
theorem pe_bltn {x : Str} {v : V} {u : Value} {pos : Pos} (hg : Gl X x) (hm : X.mg x = none) (hv : bootBuiltins x = some u) (r : RelV v u) (hn : x ≠ "__name__" := by decide) (hd : (x == ("__debug__" : Str)) = false := by decide) : PE X (.Name x pos) (tC v) :=
  fun _ _ _ H _ I h => ld_blt I hg hm hv ⟨v, H, I, r, h⟩ hn hd



variable {a b : Expr} {ta tb : TE} {pos : Pos}
def tB (t : TE) : TT := fun σ H Q => t σ H fun x H1 => ∃ c, x = .bl c ∧ Q c H1
theorem pt_val {e : Expr} {t : TE} (h : PE X e t) (he : ∀ whole, isTrue e X.env whole = (do let v ← whole; standAt e.pos; holding [v] (truthy v)) := by intro _; rfl) : PT X e (tB t) := by
  intro pins s σ H Q I hw
  refine isTrue_plain (thn (h pins s σ H _ I hw) fun v s1 ⟨x, H1, I1, r1, q1⟩ => ?_) (he _)
  obtain ⟨d, rfl, q⟩ := q1
  cases r1
  exact wpAny_truthy_bool ⟨H1, I1, q⟩


variable {tA tB' : TT} {rest : List Expr}
def tAnd (t u : TT) : TT := fun σ H Q => t σ H fun c H1 => if c = true then u σ H1 Q else Q false H1
def tOr (t u : TT) : TT := fun σ H Q => t σ H fun c H1 => if c = true then Q true H1 else u σ H1 Q
def tNot (t : TT) : TT := fun σ H Q => t σ H fun c H1 => Q (!c) H1
theorem pw_and1 (ha : PT X a tA) : PW X (.BoolOp .And [a] pos) tA := by
  intro wh pins s σ H Q I h
  refine isTrue_and (thn (ha pins s σ H Q I h) fun c s1 e => ?_)
  cases c with
  | true => exact isTrue_and_nil e
  | false => exact e
theorem pw_or1 (ha : PT X a tA) : PW X (.BoolOp .Or [a] pos) tA := by
  intro wh pins s σ H Q I h
  refine isTrue_or (thn (ha pins s σ H Q I h) fun c s1 e => ?_)
  cases c with
  | false => exact isTrue_or_nil e
  | true => exact e
theorem pw_and (ha : PT X a tA) (hb : PW X (.BoolOp .And (b :: rest) pos) tB') : PW X (.BoolOp .And (a :: b :: rest) pos) (tAnd tA tB') := by
  intro wh pins s σ H Q I h
  refine isTrue_and (thn (ha pins s σ H _ I h) fun c s1 ⟨H1, I1, q1⟩ => ?_)
  cases c with
  | true => exact hb wh pins s1 σ H1 Q I1 q1
  | false => exact ⟨H1, I1, q1⟩
theorem pw_or (ha : PT X a tA) (hb : PW X (.BoolOp .Or (b :: rest) pos) tB') : PW X (.BoolOp .Or (a :: b :: rest) pos) (tOr tA tB') := by
  intro wh pins s σ H Q I h
  refine isTrue_or (thn (ha pins s σ H _ I h) fun c s1 ⟨H1, I1, q1⟩ => ?_)
  cases c with
  | true => exact ⟨H1, I1, q1⟩
  | false => exact hb wh pins s1 σ H1 Q I1 q1
theorem pt_not (ha : PT X a tA) : PT X (.UnaryOp .Not a pos) (tNot tA) := by
  intro pins s σ H Q I h
  exact isTrue_not (ha pins s σ H (fun c H1 => Q (!c) H1) I h)

def tAndV (ta tb : TE) : TE := fun σ H Q => ta σ H fun x H1 => ∃ c, x = .bl c ∧ if c = true then tb σ H1 Q else Q (.bl false) H1
def tOrV (ta tb : TE) : TE := fun σ H Q => ta σ H fun x H1 => ∃ c, x = .bl c ∧ if c = true then Q (.bl true) H1 else tb σ H1 Q
def tNotV (ta : TE) : TE := fun σ H Q => ta σ H fun x H1 => ∃ c, x = .bl c ∧ Q (.bl (!c)) H1
theorem pe_one {op} {t : TE} (h : PE X a t) : PE X (.BoolOp op [a] pos) t := fun pins s σ H Q I hw => BoolOp_one (h pins s σ H Q I hw)
theorem pe_and (ha : PE X a ta) (hb : PE X (.BoolOp .And (b :: rest) pos) tb) : PE X (.BoolOp .And (a :: b :: rest) pos) (tAndV ta tb) := by
  intro pins s σ H Q I h
  refine BoolOp_and (thn (ha pins s σ H _ I h) fun v s1 ⟨x, H1, I1, r1, q1⟩ => ?_)
  obtain ⟨c, rfl, q1⟩ := q1
  cases r1
  refine wpAny_truthy_bool ?_
  cases c with
  | true => exact hb pins s1 σ H1 Q I1 q1
  | false => exact ⟨.bl false, H1, I1, rfl, q1⟩
def tIf (t : TT) (ta tb : TE) : TE := fun σ H Q => t σ H fun c H1 => if c = true then ta σ H1 Q else tb σ H1 Q
end
end L2

namespace L2
open PySem PySem.Spec PyProof.Rows


def SqL (K : PySem.W.Frag) (H : Hp) (a : Addr) (xs : List V) : Prop :=
  Rd H a (.lst xs) ∨
    ∃ (o : Obj) (its : Array Value) (n : Nat), K.lookup a = some o ∧ o.cls = .type "list" ∧ o.dict = none ∧ o.data = .seq its n ∧ its.size ≤ sizeLine ∧ Vals xs its.toList
def SqT (K : PySem.W.Frag) (H : Hp) (a : Addr) (xs : List V) : Prop :=
  Rd H a (.tup xs) ∨
    ∃ (o : Obj) (its : Array Value) (n : Nat), K.lookup a = some o ∧ o.cls = .type "tuple" ∧ o.data = .seq its n ∧ its.size ≤ sizeLine ∧ Vals xs its.toList
def absV : Value → Option V
  | .none => some .non
  | .bool b => some (.bl b)
  | .int i _ => some (.int i)
  | .str x _ => some (.str x)
  | .bytes b _ => some (.byt b)
  | .float b _ => some (.flt b)
  | .ref a => some (.ref a)
  | .type n => some (.ty n)
  | _ => none
theorem RelV.abs {x : V} {u : Value} (r : RelV x u) : absV u = some x := by
  cases x with
  | non => cases r; rfl
  | bl _ => cases r; rfl
  | int _ => obtain ⟨t, rfl⟩ := r; rfl
  | str _ => obtain ⟨t, rfl⟩ := r; rfl
  | byt _ => obtain ⟨t, rfl⟩ := r; rfl
  | flt _ => obtain ⟨t, rfl⟩ := r; rfl
  | ref _ => cases r; rfl
  | ty _ => cases r; rfl
theorem RelV.inj {x y : V} {u : Value} (r : RelV x u) (q : RelV y u) : x = y := Option.some.inj (r.abs.symm.trans q.abs)
theorem Vals.inj : ∀ {xs ys : List V} {us : List Value}, Vals xs us → Vals ys us → xs = ys
  | _, _, _, .nil, .nil => rfl
  | _, _, _, .cons r t, .cons r' t' => by rw [r.inj r', Vals.inj t t']
section
variable {X : Cx} {pins : List (Addr × Obj)} {σ : St} {H : Hp} {s : Shared} {a : Addr} {xs ys : List V}
theorem SqL.of {K : PySem.W.Frag} (h : H a = some (.lst xs)) : SqL K H a xs := .inl (.inl h)
theorem SqT.of {K : PySem.W.Frag} (h : H a = some (.tup xs)) : SqT K H a xs := .inl (.inl h)
theorem Inv.list (I : Inv X pins σ H s) (h : SqL X.K H a xs) : ∃ its : List Value, Vals xs its ∧ PlainL s.heap a its.toArray ∧ xs.length ≤ sizeLine := by
  rcases h with h | ⟨o, its, n, hk, hc, hd, hs, hz, r⟩
  · obtain ⟨z, its, n, r, e⟩ := h.ok I.hok
    exact ⟨its, r, ⟨_, n, e, rfl, rfl, rfl⟩, z⟩
  · refine ⟨its.toList, r, ⟨o, n, I.kIn a o hk, hc, hd, by simpa using hs⟩, ?_⟩
    have e := r.length
    simp only [Array.length_toList] at e
    omega
theorem Inv.tuple (I : Inv X pins σ H s) (h : SqT X.K H a xs) : ∃ its : List Value, Vals xs its ∧ IsTup s.heap a its.toArray ∧ xs.length ≤ sizeLine := by
  rcases h with h | ⟨o, its, n, hk, hc, hs, hz, r⟩
  · obtain ⟨z, its, r, p⟩ := h.ok I.hok
    exact ⟨its, r, p, z⟩
  · refine ⟨its.toList, r, ⟨o, I.kIn a o hk, hc, n, by simpa using hs⟩, ?_⟩
    have e := r.length
    simp only [Array.length_toList] at e
    omega
theorem Inv.list_inj (I : Inv X pins σ H s) (h : SqL X.K H a xs) (h' : SqL X.K H a ys) : xs = ys := by
  obtain ⟨its, r, ⟨o, n, e, _, _, d⟩, _⟩ := I.list h
  obtain ⟨its', r', ⟨o', n', e', _, _, d'⟩, _⟩ := I.list h'
  rw [e] at e'; cases e'
  rw [d] at d'
  injection d' with d1 _
  have : its = its' := by simpa using congrArg Array.toList d1
  subst this
  exact r.inj r'
end


abbrev Cx.wish (X : Cx) (E : Value → Shared → Prop) : Cx := { X with xe := E }

abbrev Cx.nox (X : Cx) : Cx := X.wish fun _ _ => False
theorem Cx.Ok.wish {X : Cx} (ok : X.Ok) (E : Value → Shared → Prop) : (X.wish E).Ok :=
  ⟨ok.mod, ok.kind, ok.glob, ok.blt, ok.above, ok.inj, ok.has, ok.cab, ok.hd, ok.frames, ok.stk, ok.exf, ok.bs, ok.bsz, ok.noex, ok.exfs, ok.funs, ok.frf⟩
theorem Cx.Ok.unwish {X : Cx} {E : Value → Shared → Prop} (ok : (X.wish E).Ok) : X.Ok :=
  ⟨ok.mod, ok.kind, ok.glob, ok.blt, ok.above, ok.inj, ok.has, ok.cab, ok.hd, ok.frames, ok.stk, ok.exf, ok.bs, ok.bsz, ok.noex, ok.exfs, ok.funs, ok.frf⟩
section
variable {X : Cx} {pins : List (Addr × Obj)} {σ : St} {H : Hp} {s : Shared} {E : Value → Shared → Prop}
theorem Inv.wish (I : Inv X pins σ H s) (E : Value → Shared → Prop) : Inv (X.wish E) pins σ H s := ⟨I.ok.wish E, I.os, I.bare, I.base, I.loc, I.cell, I.free, I.freeC, I.pin, I.hok, I.len⟩
theorem Inv.unwish (I : Inv (X.wish E) pins σ H s) : Inv X pins σ H s := ⟨I.ok.unwish, I.os, I.bare, I.base, I.loc, I.cell, I.free, I.freeC, I.pin, I.hok, I.len⟩
theorem SP.unwish {D : Ends} {f : Flow} {s' : Shared} (h : SP (X.wish E) pins D f s') : SP X pins D f s' := by
  cases f with
  | next => obtain ⟨σ', H', I, q⟩ := h; exact ⟨σ', H', I.unwish, q⟩
  | brk => obtain ⟨σ', H', I, q⟩ := h; exact ⟨σ', H', I.unwish, q⟩
  | cont => obtain ⟨σ', H', I, q⟩ := h; exact ⟨σ', H', I.unwish, q⟩
  | ret u => obtain ⟨v, σ', H', I, r, q⟩ := h; exact ⟨v, σ', H', I.unwish, r, q⟩
theorem PE.nox {e : Expr} {t : TE} (h : PE X.nox e t) : PE X e t := fun pins s σ H Q I hw =>
  wpAny_mono (h pins s σ H Q (I.wish _) hw) (fun _ _ ⟨v, H', I', r, q⟩ => ⟨v, H', I'.unwish, r, q⟩) fun _ _ z => False.elim z
theorem PT.nox {e : Expr} {t : TT} (h : PT X.nox e t) : PT X e t := fun pins s σ H Q I hw =>
  wpAny_mono (h pins s σ H Q (I.wish _) hw) (fun _ _ ⟨H', I', q⟩ => ⟨H', I'.unwish, q⟩) fun _ _ z => False.elim z
theorem PSs.nox {st : List Stmt} {t : TS} (h : PSs X.nox st t) : PSs X st t := fun pins s σ H D I hw =>
  wpAny_mono (h pins s σ H D (I.wish _) hw) (fun _ _ q => q.unwish) fun _ _ z => False.elim z
end


section
variable {X : Cx} {st : Stmt} {rest : List Stmt} {t u : TS} {e : Expr} {te : TE} {pos : Pos}
def tNext : TS := fun D σ H => D.nx σ H
def tSeq (t u : TS) : TS := fun D σ H => t { D with nx := u D } σ H
theorem pss_nil : PSs X [] tNext := fun _ _ σ H _ I h => wpAny_execs_nil ⟨σ, H, I, h⟩
theorem pss_cons (h1 : PS X st t) (h2 : PSs X rest u) : PSs X (st :: rest) (tSeq t u) := by
  intro pins s σ H D I h
  refine wpAny_execs_cons (thn (h1 pins s σ H { D with nx := u D } I h) fun f s1 q => ?_)
  cases f with
  | next =>
    obtain ⟨σ', H', I', q⟩ := q
    exact h2 pins s1 σ' H' D I' q
  | ret v => exact q
  | brk => exact q
  | cont => exact q
theorem pss_one (h1 : PS X st t) : PSs X [st] t := by
  intro pins s σ H D I h
  refine wpAny_execs_cons (thn (h1 pins s σ H D I h) fun f s1 q => ?_)
  cases f with
  | next => exact wpAny_execs_nil q
  | ret v => exact q
  | brk => exact q
  | cont => exact q
def tBreak : TS := fun D σ H => D.bk σ H
theorem Inv.quiet {pins : List (Addr × Obj)} {σ : St} {H : Hp} {s : Shared} (I : Inv X pins σ H s) : interactive X.env = false := by simp [interactive, I.ok.kind]

def tDrop (te : TE) : TS := fun D σ H => te σ H fun _ H1 => D.nx σ H1
theorem ps_expr (he : PE X e te) (hs : swapsWith e none pos.line X.env = pure false := by rfl) : PS X (.Expr e pos) (tDrop te) := by
  intro pins s σ H D I h
  exact wpAny_Expr_any (thn (he pins s σ H _ I h) fun v s1 ⟨x, H1, I1, r1, q1⟩ => ⟨σ, H1, I1, q1⟩) I.quiet hs
def tRet (te : TE) : TS := fun D σ H => te σ H D.rt
theorem ps_ret (he : PE X e te) : PS X (.Return (some e) pos) (tRet te) := by
  intro pins s σ H D I h
  exact wpAny_Return_some (thn (he pins s σ H _ I h) fun v s1 ⟨x, H1, I1, r1, q1⟩ => ⟨x, σ, H1, I1, r1, q1⟩)
def tRetN : TS := fun D _ H => D.rt .non H
def tIfS (c : TT) (t u : TS) : TS := fun D σ H => c σ H fun b H1 => if b = true then t D σ H1 else u D σ H1
theorem ps_if {c : Expr} {a b : List Stmt} {tc : TT} (hc : PT X c tc) (ha : PSs X a t) (hb : PSs X b u) : PS X (.If c a b pos) (tIfS tc t u) := by
  intro pins s σ H D I h
  refine wpAny_If (thn (hc pins s σ H _ I h) fun d s1 ⟨H1, I1, q1⟩ => ?_)
  cases d with
  | true => exact ha pins s1 σ H1 D I1 q1
  | false => exact hb pins s1 σ H1 D I1 q1

def tNever : TS := fun _ _ _ => False
end


abbrev TG := V → St → Hp → (St → Hp → Prop) → Prop
abbrev TGs := List V → St → Hp → (St → Hp → Prop) → Prop
def PG (X : Cx) (target : Expr) (t : TG) : Prop :=
  ∀ (pins : List (Addr × Obj)) (s : Shared) (σ : St) (H : Hp) (v : V) (u : Value) (Q : St → Hp → Prop), Inv X pins σ H s → RelV v u → t v σ H Q →
    wpAny (model X.prog X.w) X.A (assign target X.env u) (fun _ s' => ∃ σ' H', Inv X pins σ' H' s' ∧ Q σ' H') X.xe s

def PGs (X : Cx) (ts : List Expr) (t : TGs) : Prop :=
  ∀ (pins : List (Addr × Obj)) (s : Shared) (σ : St) (H : Hp) (vs : List V) (us : List Value) (Q : St → Hp → Prop), Inv X pins σ H s → Vals vs us → t vs σ H Q →
    wpAny (model X.prog X.w) X.A (assignInOrder ((assignEach ts X.env).map (·.2)) us) (fun _ s' => ∃ σ' H', Inv X pins σ' H' s' ∧ Q σ' H') X.xe s

abbrev TSet := V → V → V → Hp → (Hp → Prop) → Prop
def PSet (X : Cx) (t : TSet) : Prop :=
  ∀ (pins : List (Addr × Obj)) (s : Shared) (σ : St) (H : Hp) (o i v : V) (ov iv u : Value) (Q : Hp → Prop), Inv X pins σ H s → RelV o ov → RelV i iv → RelV v u → t o i v H Q →
    wpAny (model X.prog X.w) X.A (setItem ov iv u) (fun _ s' => ∃ H', Inv X pins σ H' s' ∧ Q H') X.xe s

abbrev TIp := V → V → Hp → VK → Prop
section
variable {X : Cx} {pos : Pos}
def gName (i : Nat) : TG := fun v σ H Q => Q (σ.set i (some v)) H
theorem pg_name {i : Nat} {x : Str} (hN : X.N.Nodup) (hi : X.N[i]? = some x) (hx : Loc X.env.scope x) (hf : X.fn x = true ∨ X.env.scope.names.lookup x = some .local := by first | exact .inl rfl | exact .inr rfl | assumption) : PG X (.Name x pos) (gName i) := by
  intro pins s σ H v u Q I r h
  exact wpAny_assign_Name (store_ok I hN hi hx r (fun s' I' => ⟨_, H, I', h⟩) hf)
def gNil : TGs := fun vs σ H Q => vs = [] ∧ Q σ H
def gCons (t : TG) (u : TGs) : TGs := fun vs σ H Q => ∃ v r, vs = v :: r ∧ t v σ H fun σ' H' => u r σ' H' Q
theorem pgs_nil : PGs X [] gNil := by
  intro pins s σ H vs us Q I r h
  obtain ⟨e, h⟩ := h
  subst e
  cases r
  exact assignInOrder_nil ⟨σ, H, I, h⟩
theorem pgs_cons {e : Expr} {es : List Expr} {t : TG} {u : TGs} (h1 : PG X e t) (h2 : PGs X es u)
    (hs : (assignEach (e :: es) X.env).map (·.2) = assign e X.env :: (assignEach es X.env).map (·.2) := by rfl) : PGs X (e :: es) (gCons t u) := by
  intro pins s σ H vs us Q I r h
  obtain ⟨v, vr, e1, h⟩ := h
  subst e1
  cases r with
  | cons r rr =>
    rw [hs]
    refine assignInOrder_cons (thn (h1 pins s σ H _ _ _ I r h) fun _ s1 ⟨σ1, H1, I1, q1⟩ => ?_)
    exact h2 pins s1 σ1 H1 _ _ Q I1 rr q1

def gTup (K : PySem.W.Frag) (n : Nat) (t : TGs) : TG := fun v σ H Q => ∃ a xs, v = .ref a ∧ SqT K H a xs ∧ xs.length = n ∧ t xs σ H Q
theorem pg_tup {es : List Expr} {k : Nat} {t : TGs} {n : Nat} (hc : X.calm = true) (h : PGs X es t)
    (hn : (assignEach es X.env).length = n := by rfl) (hst : (assignEach es X.env).findIdx? (·.1) = none := by rfl) : PG X (.Tuple es k pos) (gTup X.K n t) := by
  intro pins s σ H v u Q I r hw
  obtain ⟨a, xs, e1, hq, hl, hw⟩ := hw
  subst e1
  cases r
  obtain ⟨its, rv, ht, hz⟩ := I.tuple hq
  refine assign_Tuple_tuple (I.ok.hd hc) ht (by simp [hn, ← hl, rv.length]) hst fun h' hx => ?_
  have I1 : Inv X pins σ H { s with heap := h' } := I.kept (t' := s.toks) fun b o e => hx b o (Nat.ne_of_lt (Heap.lt_size e)) e
  exact h pins _ σ H xs _ Q I1 (by simpa using rv) hw

def gSub (to ti : TE) (t : TSet) : TG := fun v σ H Q => to σ H fun o H1 => ti σ H1 fun i H2 => t o i v H2 fun H3 => Q σ H3
theorem pg_sub {o i : Expr} {to ti : TE} {t : TSet} (ho : PE X o to) (hi : PE X i ti) (hs : PSet X t)
    (ha : ∀ v, assign (.Subscript o i pos) X.env v = (do
      let ov ← holding [v] (eval o X.env)
      let iv ← holding [v, ov] (eval i X.env)
      standAt pos
      holding [v, ov, iv] (setItem ov iv v)
      release [v, ov, iv] []) := by intro _; rfl) : PG X (.Subscript o i pos) (gSub to ti t) := by
  intro pins s σ H v u Q I r h
  rw [ha]
  refine wpAny_bind (wpAny_holding (thn (ho pins s σ H _ I h) fun ov s1 ⟨x, H1, I1, r1, q1⟩ => ?_))
  refine wpAny_bind (wpAny_holding (thn (hi pins s1 σ H1 _ I1 q1) fun iv s2 ⟨y, H2, I2, r2, q2⟩ => ?_))
  refine wpAny_bind (wpAny_standAt (wpAny_bind (wpAny_holding (thn (hs pins s2 σ H2 x y v ov iv u _ I2 r1 r2 r q2) fun _ s3 ⟨H3, I3, q3⟩ => ?_))))
  exact wpAny_release ⟨σ, H3, I3, q3⟩

def tAsg (te : TE) (g : TG) : TS := fun D σ H => te σ H fun x H1 => g x σ H1 D.nx
theorem ps_asg {tg e : Expr} {te : TE} {g : TG} (he : PE X e te) (hg : PG X tg g) (hs : swapsWithSole [tg] e pos.line X.env = pure false := by rfl) (hw : swappedStores [tg] e X.env = pure none := by rfl)
    (h1 : (assignEach [tg] X.env).map (·.2) = [assign tg X.env] := by rfl) : PS X (.Assign [tg] e pos) (tAsg te g) := by
  intro pins s σ H D I h
  refine wpAny_Assign_stores (thn (he pins s σ H _ I h) fun v s1 ⟨x, H1, I1, r1, q1⟩ => ?_) hs hw
  rw [h1]
  exact thn (hg pins s1 σ H1 x v _ I1 r1 q1) fun _ s2 q => q

theorem ps_set {i : Nat} {x : Str} {e : Expr} {te : TE} {pos' : Pos} (hN : X.N.Nodup) (hi : X.N[i]? = some x) (hx : Loc X.env.scope x) (he : PE X e te) (hs : swapsWith e (some (.Name x pos')) pos.line X.env = pure false := by rfl) (hf : X.fn x = true ∨ X.env.scope.names.lookup x = some .local := by first | exact .inl rfl | exact .inr rfl | assumption) :
    PS X (.Assign [.Name x pos'] e pos) (tAsg te (gName i)) := by
  intro pins s σ H D I h
  refine wpAny_Assign_Name (thn (he pins s σ H _ I h) fun v s1 ⟨y, H1, I1, r1, q1⟩ => ?_) hs
  exact store_ok I1 hN hi hx r1 (fun s2 I2 => ⟨_, H1, I2, q1⟩) hf

def tAug (i : Nat) (te : TE) (ti : TIp) : TS := fun D σ H => ∃ x, σ[i]? = some (some x) ∧ te σ H fun y H1 => ti x y H1 fun z H2 => D.nx (σ.set i (some z)) H2
def ipI (f : Int → Int → Int) : TIp := fun x y H Q => ∃ i j, x = .int i ∧ y = .int j ∧ Q (.int (f i j)) H
end


section
variable {X : Cx} {pos : Pos}

def tWhile (c : TT) (tb : TS) : TS := fun D σ H => ∃ W : Nat → St → Hp → Prop, (∃ m, W m σ H) ∧ ∀ m σ H, W m σ H →
  c σ H fun b H1 => if b = true then ∃ N : St → Hp → Prop, (∀ σ' H', N σ' H' → ∃ m', m' < m ∧ W m' σ' H') ∧ tb { D with nx := N, ct := N, bk := D.nx } σ H1 else D.nx σ H1
end



structure It where
  go : Nat → Hp → Prop
  yld : Nat → Hp → V → Hp → Prop
  stop : Nat → Hp → Prop

def FpOk (X : Cx) (pins : List (Addr × Obj)) (H : Hp) (b : Addr) : Prop :=
  H b = none ∧ b ≠ X.env.locals ∧ b ∉ X.fs ∧ (b ∈ X.ex ∨ X.s₀.heap.objs.size ≤ b) ∧ (∀ x c, X.env.cells.lookup x = some c → c ≠ b) ∧ ∀ p ∈ X.pn ++ pins, p.1 ≠ b
theorem Inv.fpOk {X : Cx} {pins : List (Addr × Obj)} {σ : St} {H H' : Hp} {s : Shared} {b : Addr} (I : Inv X pins σ H s) (hb : s.heap.objs.size ≤ b) (hn : H' b = none) : FpOk X pins H' b := by
  refine ⟨hn, Nat.ne_of_gt (Nat.lt_of_lt_of_le I.lt hb), I.nofs hb, .inr (Nat.le_trans I.sz hb), fun x c e z => ?_, fun p hp z => ?_⟩
  · obtain ⟨v, q⟩ := I.cell x c e
    exact absurd (Nat.lt_of_lt_of_le q.lt (by rw [z]; exact hb)) (Nat.lt_irrefl _)
  · exact absurd (Nat.lt_of_lt_of_le (Heap.lt_size (I.pin p hp).1) (by rw [z]; exact hb)) (Nat.lt_irrefl _)
structure Turn (P : Program) (w : World) (K : PySem.W.Frag) (tg : Expr) (J : It) (fp : List Addr) (it : Addr) (tn : Nat → Heap → Prop) : Prop where
  mem : it ∈ fp
  obj : ∀ i h, tn i h → ∀ b ∈ fp, ∃ o, h.get? b = some o ∧ ∀ v, o.data ≠ .cell v
  keep : ∀ i h h', tn i h → (∀ b ∈ fp, ∀ o, h.get? b = some o → h'.get? b = some o) → tn i h'
  item : ∀ (X : Cx), X.prog = P → X.w = w → X.K = K → X.calm = true → ∀ (i : Nat) (pins : List (Addr × Obj)) (s : Shared) (σ : St) (H : Hp) (E : Value → Shared → Prop), Inv X pins σ H s → (∀ b ∈ fp, FpOk X pins H b) → tn i s.heap → J.go i H →
    wpAny (model P w) X.A (pyNext (.ref it)) (fun r s1 => ∃ u, r = some u ∧
      wpAny (model P w) X.A (letOwnedTupleGo tg (.ref it) u) (fun _ s2 => ∃ x H', Inv X pins σ H' s2 ∧ RelV x u ∧ J.yld i H x H' ∧ tn (i + 1) s2.heap ∧ ∀ b ∈ fp, H' b = none) E s1) E s
  done : ∀ (X : Cx), X.prog = P → X.w = w → X.K = K → X.calm = true → ∀ (i : Nat) (pins : List (Addr × Obj)) (s : Shared) (σ : St) (H : Hp) (E : Value → Shared → Prop), Inv X pins σ H s → (∀ b ∈ fp, FpOk X pins H b) → tn i s.heap → J.stop i H →
    wpAny (model P w) X.A (pyNext (.ref it)) (fun r s1 => r = none ∧ Inv X pins σ H s1) E s
  self : ∀ (A : Around) (i : Nat) (s : Shared) (Q : Value → Shared → Prop) (E : Value → Shared → Prop), tn i s.heap → Q (.ref it) s → wpAny (model P w) A (pyIter (.ref it)) Q E s
abbrev TI := St → Hp → (It → Hp → Prop) → Prop

def PIE (X : Cx) (pins : List (Addr × Obj)) (σ : St) (tg : Expr) (R : It → Hp → Prop) (itv : Value) (s2 : Shared) : Prop :=
  ∃ (it : Addr) (fp : List Addr) (tn : Nat → Heap → Prop) (J : It) (H' : Hp), itv = .ref it ∧ Inv X pins σ H' s2 ∧ Turn X.prog X.w X.K tg J fp it tn ∧ tn 0 s2.heap ∧ (∀ b ∈ fp, FpOk X pins H' b) ∧ R J H'
def PI (X : Cx) (tg iter : Expr) (wi : TI) : Prop :=
  ∀ (pins : List (Addr × Obj)) (s : Shared) (σ : St) (H : Hp) (R : It → Hp → Prop), Inv X pins σ H s → wi σ H R →
    wpAny (model X.prog X.w) X.A (eval iter X.env) (fun v s1 => wpAny (model X.prog X.w) X.A (pyIter v) (PIE X pins σ tg R) X.xe s1) X.xe s


theorem go_of {M : Model} {A : Around} {E : Value → Shared → Prop} {s : Shared} {tg : Expr} {it : Addr} {u : Value} {o : Obj} {n : String} {vs : Array Value} {Q : Unit → Shared → Prop} (ho : s.heap.get? it = some o) (hc : o.cls = .type n) (hd : o.data = .fields vs)
    (hn : ["enumerate", "zip", "dict_itemiterator", "dict_reverseitemiterator", "odict_iterator", "itertools.zip_longest", "itertools.pairwise"].contains n = false) (hQ : Q () s) : wpAny M A (letOwnedTupleGo tg (.ref it) u) Q E s := by
  unfold letOwnedTupleGo
  cases tg <;> first
    | exact wpAny_pure hQ
    | (cases u <;> first
        | exact wpAny_pure hQ
        | (refine wpAny_bind (wpAny_load ho ?_)
           rw [hc, hd]
           show wpAny M A (if (["enumerate", "zip", "dict_itemiterator", "dict_reverseitemiterator", "odict_iterator", "itertools.zip_longest", "itertools.pairwise"].contains n && vs[0]? == some (rawInt _)) = true then _ else _) Q E s
           rw [if_neg (by intro h; rw [hn, Bool.false_and] at h; cases h)]
           exact wpAny_pure hQ))


def Itl (K : PySem.W.Frag) (a : Addr) : It :=
  ⟨fun i H => ∃ xs x, SqL K H a xs ∧ xs[i]? = some x, fun i H x H' => H' = H ∧ ∀ xs, SqL K H a xs → xs[i]? = some x, fun i H => ∃ xs, SqL K H a xs ∧ xs.length ≤ i⟩
def Itt (K : PySem.W.Frag) (a : Addr) : It :=
  ⟨fun i H => ∃ xs x, SqT K H a xs ∧ xs[i]? = some x, fun i H x H' => H' = H ∧ ∀ xs, SqT K H a xs → xs[i]? = some x, fun i H => ∃ xs, SqT K H a xs ∧ xs.length ≤ i⟩

def Itr (lo : Int) (n : Nat) : It := ⟨fun i _ => i < n, fun i H x H' => H' = H ∧ x = .int (lo + i), fun i _ => n ≤ i⟩
theorem turn_list {P : Program} {w : World} {K : PySem.W.Frag} {tg : Expr} (a it : Addr) : Turn P w K tg (Itl K a) [it] it (fun i h => h.IsListIter it a i) where
  mem := by simp
  obj := fun i h st b hb => by
    have e : b = it := by simpa using hb
    subst e
    obtain ⟨o, e, c, d⟩ := st
    exact ⟨o, e, fun v z => by rw [d] at z; cases z⟩
  keep := fun i h h' st k => st.at fun o e => k it (by simp) o e
  item := by
    intro X hP hw hK hc i pins s σ H E I hf st hg
    subst hP hw hK
    obtain ⟨xs, x, hq, hx⟩ := hg
    obtain ⟨its, rv, p, hz⟩ := I.list hq
    obtain ⟨u, hu, ru⟩ := rv.get hx
    obtain ⟨f0, f1, f2, f3, f4, f5⟩ := hf it (by simp)
    refine wpAny_pyNext_list_item st p.isList (x := u) (by simpa using hu) fun h' st' sb => ?_
    have I1 : Inv X pins σ H { s with heap := h' } := I.turned (t' := s.toks) (fun b o hb e => (sb.2 b hb).trans e) f0 f1 f3 f4 f5
    obtain ⟨o, e, c, d⟩ := id st'
    exact ⟨u, rfl, go_of (s := { s with heap := h' }) e c d (by decide) ⟨x, H, I1, ru, ⟨rfl, fun ys hy => by rw [I.list_inj hy hq]; exact hx⟩, st', fun b hb => (hf b hb).1⟩⟩
  done := by
    intro X hP hw hK hc i pins s σ H E I hf st hg
    subst hP hw hK
    obtain ⟨xs, hq, hx⟩ := hg
    obtain ⟨its, rv, p, hz⟩ := I.list hq
    obtain ⟨f0, f1, f2, f3, f4, f5⟩ := hf it (by simp)
    have hl := rv.length
    exact wpAny_pyNext_list_end (I.ok.hd hc) st p.isList (by simp; omega) fun h' eb => ⟨rfl, I.turned (t' := s.toks) (fun b o hb e => eb b o hb e) f0 f1 f3 f4 f5⟩
  self := fun _ _ _ _ _ st h => wpAny_pyIter_listiter st h
theorem turn_range {P : Program} {w : World} {K : PySem.W.Frag} {tg : Expr} (it : Addr) (lo : Int) (n : Nat) : Turn P w K tg (Itr lo n) [it] it (fun i h => IsRangeIter h it (lo + (i : Nat) * 1) ((n : Int) - (i : Nat)) 1) where
  mem := by simp
  obj := fun i h st b hb => by
    have e : b = it := by simpa using hb
    subst e
    exact ⟨_, st, fun v z => by
      have z' : Data.fields _ = Data.cell v := z
      cases z'⟩
  keep := fun i h h' st k => k it (by simp) _ st
  item := by
    intro X hP hw hK hc i pins s σ H E I hf st hg
    subst hP hw hK
    obtain ⟨f0, f1, f2, f3, f4, f5⟩ := hf it (by simp)
    have W := Walks.range (prog := X.prog) (w := X.w) (I.ok.hd hc) it lo 1 n
    refine W.item i s _ _ hg st fun v h' tk hv st' kk => ?_
    obtain ⟨t, rfl⟩ := hv
    have I1 : Inv X pins σ H { s with heap := h', toks := tk } := I.turned (fun b o hb e => kk b o (by simpa using hb) e) f0 f1 f3 f4 f5
    refine ⟨_, rfl, go_of (s := { s with heap := h', toks := tk }) (n := "range_iterator") st' rfl rfl (by decide) ⟨.int (lo + i), H, I1, ⟨t, ?_⟩, ⟨rfl, rfl⟩, st', fun b hb => (hf b hb).1⟩⟩
    rw [Int.mul_one]
  done := by
    intro X hP hw hK hc i pins s σ H E I hf st hg
    subst hP hw hK
    obtain ⟨f0, f1, f2, f3, f4, f5⟩ := hf it (by simp)
    exact wpAny_pyNext_range_end (I.ok.hd hc) st (by have : n ≤ i := hg; omega) fun h' eb => ⟨rfl, I.turned (t' := s.toks) (fun b o hb e => eb b o hb e) f0 f1 f3 f4 f5⟩
  self := fun _ _ _ _ _ st h => wpAny_pyIter_rangeiter st h
end L2

namespace L2
open PySem PySem.Spec PyProof.Rows
section
variable {X : Cx} {tg : Expr}
def iList (K : PySem.W.Frag) (tl : TE) : TI := fun σ H R => tl σ H fun x H1 => ∃ a, x = .ref a ∧ (∃ xs, SqL K H1 a xs) ∧ R (Itl K a) H1
def iTup (K : PySem.W.Frag) (tl : TE) : TI := fun σ H R => tl σ H fun x H1 => ∃ a, x = .ref a ∧ (∃ xs, SqT K H1 a xs) ∧ R (Itt K a) H1
theorem pi_list {l : Expr} {tl : TE} (hl : PE X l tl) : PI X tg l (iList X.K tl) := by
  intro pins s σ H R I h
  refine thn (hl pins s σ H _ I h) fun v s1 ⟨x, H1, I1, r1, q1⟩ => ?_
  obtain ⟨a, e, ⟨xs, hq⟩, q⟩ := q1
  subst e
  cases r1
  obtain ⟨its, rv, p, hz⟩ := I1.list hq
  refine wpAny_pyIter_list p.isList ?_
  refine ⟨s1.heap.objs.size, [s1.heap.objs.size], _, _, H1, rfl, I1.kept (t' := s1.toks) fun b o e => Heap.get?_push_of_some _ e, turn_list a _, ⟨_, Heap.get?_push_size _ rfl, rfl, rfl⟩, fun b hb => ?_, q⟩
  have e : b = s1.heap.objs.size := by simpa using hb
  subst e
  exact I1.fpOk (Nat.le_refl _) (I1.hok.fresh (Nat.le_refl _))
theorem range_it {pins : List (Addr × Obj)} {σ : St} {H : Hp} {s : Shared} {R : It → Hp → Prop} {E : Value → Shared → Prop} {lo hi : Int} {t u v : Tok} {tk : Nat} (I : Inv X pins σ H s) (h1 : -(2 ^ 62) ≤ lo) (h2 : lo < 2 ^ 62) (h3 : -(2 ^ 62) ≤ hi) (h4 : hi < 2 ^ 62)
    (q : R (Itr lo (hi - lo).toNat) H) : wpAny (model X.prog X.w) X.A (pyIter (.ref s.heap.objs.size)) (PIE X pins σ tg R) E { s with heap := s.heap.push { cls := .type "range", data := .fields #[.int lo t, .int hi u, .int 1 v] }, toks := tk } := by
  refine wpAny_pyIter_range (IsRange.new ..) (small_one h1 h2 h3 h4) ?_
  have I1 : Inv X pins σ H { s with heap := s.heap.push { cls := .type "range", data := .fields #[.int lo t, .int hi u, .int 1 v] }, toks := tk } := I.kept fun b o e => Heap.get?_push_of_some _ e
  refine ⟨(s.heap.push { cls := .type "range", data := .fields #[.int lo t, .int hi u, .int 1 v] }).objs.size, [(s.heap.push { cls := .type "range", data := .fields #[.int lo t, .int hi u, .int 1 v] }).objs.size], _, _, H, rfl,
    I1.kept (t' := tk) fun b o e => Heap.get?_push_of_some _ e, turn_range _ lo (hi - lo).toNat, ?_, fun b hb => ?_, q⟩
  · have e1 : lo + ((0 : Nat) : Int) * 1 = lo := by simp
    have e2 : (((hi - lo).toNat : Nat) : Int) - ((0 : Nat) : Int) = Builtin.Range.rangeSize lo hi 1 := by rw [rangeSize_one]; split <;> omega
    show IsRangeIter _ _ (lo + ((0 : Nat) : Int) * 1) ((((hi - lo).toNat : Nat) : Int) - ((0 : Nat) : Int)) 1
    rw [e1, e2]
    exact Heap.get?_push_size _ rfl
  · have e : b = (s.heap.push { cls := .type "range", data := .fields #[.int lo t, .int hi u, .int 1 v] }).objs.size := by simpa using hb
    subst e
    exact I1.fpOk (Nat.le_refl _) (I1.hok.fresh (Nat.le_refl _))
def iRng1 (ta : TA) : TI := fun σ H R => ta σ H fun vs H1 => ∃ j : Int, vs = [.int j] ∧ -(2 ^ 62) ≤ j ∧ j < 2 ^ 62 ∧ R (Itr 0 j.toNat) H1
def iRng2 (ta : TA) : TI := fun σ H R => ta σ H fun vs H1 => ∃ i j : Int, vs = [.int i, .int j] ∧ (-(2 ^ 62) ≤ i ∧ i < 2 ^ 62 ∧ -(2 ^ 62) ≤ j ∧ j < 2 ^ 62) ∧ R (Itr i (j - i).toNat) H1
theorem pi_range1 {a : Expr} {ta : TA} {p pos : Pos} (hg : Gl X "range") (hm : X.mg "range" = none) (ha : PA X [a] ta) (hs : starEach [a] X.env = [(false, eval a X.env)] := by rfl) : PI X tg (.Call (.Name "range" p) [a] [] pos) (iRng1 ta) := by
  intro pins s σ H R I h
  refine Call_ (ld_blt I hg hm boot_range (PyProof.Rows.callWith_type1 (thn (ha pos pins s σ H _ I h) fun us s1 ⟨vs, H1, I1, r1, q1⟩ => ?_) hs rfl))
  obtain ⟨j, e, q1, q2, q⟩ := q1
  subst e
  cases r1 with
  | cons r rr =>
    cases rr
    obtain ⟨t, rfl⟩ := r
    exact call_range_1 (range_it I1 (by omega) (by omega) q1 q2 (by simpa using q))
def tFor (wi : TI) (g : TG) (tb : TS) : TS := fun D σ H => wi σ H fun J H1 => ∃ W : Nat → Nat → St → Hp → Prop, (∃ m, W 0 m σ H1) ∧ ∀ i m σ H, W i m σ H →
  (J.stop i H ∧ D.nx σ H) ∨ (J.go i H ∧ ∃ N : St → Hp → Prop, (∀ σ' H', N σ' H' → ∃ m', m' < m ∧ W (i + 1) m' σ' H') ∧ ∀ x H', J.yld i H x H' → g x σ H' fun σ2 H2 => tb { D with nx := N, ct := N, bk := D.nx } σ2 H2)

def pinsAt (fp : List Addr) (h : Heap) : List (Addr × Obj) := fp.filterMap fun b => (h.get? b).map fun o => (b, o)
theorem mem_pinsAt {fp : List Addr} {h : Heap} {b : Addr} {o : Obj} (hb : b ∈ fp) (e : h.get? b = some o) : (b, o) ∈ pinsAt fp h := List.mem_filterMap.mpr ⟨b, hb, by rw [e]; rfl⟩
theorem of_pinsAt {fp : List Addr} {h : Heap} {p : Addr × Obj} (hp : p ∈ pinsAt fp h) : p.1 ∈ fp ∧ h.get? p.1 = some p.2 := by
  obtain ⟨b, hb, e⟩ := List.mem_filterMap.mp hp
  cases q : h.get? b with
  | none => rw [q] at e; cases e
  | some o =>
    rw [q] at e
    have e' : (b, o) = p := Option.some.inj e
    subst e'
    exact ⟨hb, q⟩
theorem Inv.pinned {pins : List (Addr × Obj)} {σ : St} {H : Hp} {s : Shared} {fp : List Addr} (I : Inv X pins σ H s) (hf : ∀ b ∈ fp, FpOk X pins H b) (ho : ∀ b ∈ fp, ∃ o, s.heap.get? b = some o ∧ ∀ v, o.data ≠ .cell v) : Inv X (pins ++ pinsAt fp s.heap) σ H s :=
  I.pins_of fun p hp => (List.mem_append.mp hp).elim (fun z => I.pin p (List.mem_append_right _ z)) fun z => by
    obtain ⟨hb, e⟩ := of_pinsAt z
    obtain ⟨f0, f1, f2, _⟩ := hf p.1 hb
    obtain ⟨o, e', d⟩ := ho p.1 hb
    rw [e] at e'; cases e'
    exact ⟨e, f0, f1, f2, d⟩
theorem Inv.unpinned {pins pl : List (Addr × Obj)} {σ : St} {H : Hp} {s : Shared} (I : Inv X (pins ++ pl) σ H s) : Inv X pins σ H s := I.pins_of fun p hp => I.pin p (List.mem_append_right _ (List.mem_append_left _ hp))
theorem ps_for {iter : Expr} {body : List Stmt} {wi : TI} {g : TG} {tb : TS} {pos : Pos} (hp : PassesOwn (model X.prog X.w) X.A X.env X.xe) (hc : X.calm = true) (hi : PI X tg iter wi) (hg : PG X tg g) (hb : PSs X body tb)
    (hs : ∀ x, foldedSetIterable iter X.env x = pure x := by intro _; rfl) : PS X (.For tg iter body [] pos) (tFor wi g tb) := by
  intro pins s σ H D I h
  refine wpAny_For (thn (hi pins s σ H _ I h) fun v s1 h1 => thn h1 fun itv s2 h2 => ?_) hs
  obtain ⟨it, fp, tn, J, H2, e, I2, T, st2, f2, W, ⟨m0, w0⟩, turn⟩ := h2
  subst e
  -- what stays true of the iterator's objects through the loop
  have stat : ∀ {H' : Hp}, (∀ b ∈ fp, H' b = none) → ∀ b ∈ fp, FpOk X pins H' b := fun hn b hb => ⟨hn b hb, (f2 b hb).2⟩
  refine codeAny_forLoop_any (fun n s' => ∃ i σ' H', Inv X pins σ' H' s' ∧ tn i s'.heap ∧ (∀ b ∈ fp, H' b = none) ∧ W i n σ' H') ?_ m0 ⟨0, σ, H2, I2, st2, fun b hb => (f2 b hb).1, w0⟩
  rintro n s3 ⟨i, σ3, H3, I3, st3, fr3, w3⟩
  rcases turn i n σ3 H3 w3 with ⟨stop, qn⟩ | ⟨go, N, hN, step⟩
  · refine wpAny_passesOwn hp (thn (T.done X rfl rfl rfl hc i pins s3 σ3 H3 X.xe I3 (stat fr3) st3 stop) fun r s4 ⟨hr, I4⟩ => ?_)
    subst hr
    exact wpAny_execs_nil ⟨σ3, H3, I4, qn⟩
  · refine wpAny_passesOwn hp (thn (T.item X rfl rfl rfl hc i pins s3 σ3 H3 X.xe I3 (stat fr3) st3 go) fun r s4 ⟨u, hr, h4⟩ => ?_)
    subst hr
    refine wpAny_passesOwn hp (thn h4 fun _ s5 ⟨x, H5, I5, r5, y5, st5, fr5⟩ => ?_)
    have I5' := I5.pinned (stat fr5) (T.obj _ _ st5)
    refine wpAny_passesOwn hp (thn (hg _ s5 σ3 H5 x u _ I5' r5 (step x H5 y5)) fun _ s6 ⟨σ6, H6, I6, q6⟩ => ?_)
    refine wpAny_passesOwn hp (thn (hb _ s6 σ6 H6 _ I6 q6) fun f s7 q7 => ?_)
    have again : ∀ {σ7 : St} {H7 : Hp}, Inv X (pins ++ pinsAt fp s5.heap) σ7 H7 s7 → N σ7 H7 → ∃ m, m < n ∧ ∃ i σ' H', Inv X pins σ' H' s7 ∧ tn i s7.heap ∧ (∀ b ∈ fp, H' b = none) ∧ W i m σ' H' := fun {σ7 H7} I7 n7 => by
      obtain ⟨m', hm, w7⟩ := hN σ7 H7 n7
      refine ⟨m', hm, i + 1, σ7, H7, I7.unpinned, T.keep _ _ _ st5 fun b hb o e => (I7.pin (b, o) (List.mem_append_right _ (List.mem_append_right _ (mem_pinsAt hb e)))).1, fun b hb => ?_, w7⟩
      obtain ⟨o, e, d⟩ := T.obj _ _ st5 b hb
      exact (I7.pin (b, o) (List.mem_append_right _ (List.mem_append_right _ (mem_pinsAt hb e)))).2.1
    cases f with
    | next => obtain ⟨σ7, H7, I7, n7⟩ := q7; exact again I7 n7
    | cont => obtain ⟨σ7, H7, I7, n7⟩ := q7; exact again I7 n7
    | brk => obtain ⟨σ7, H7, I7, q7⟩ := q7; exact ⟨σ7, H7, I7.unpinned, q7⟩
    | ret v => obtain ⟨x7, σ7, H7, I7, r7, q7⟩ := q7; exact ⟨x7, σ7, H7, I7.unpinned, r7, q7⟩
end



theorem for_list {K : PySem.W.Frag} {a : Addr} {xs : List V} {g : TG} {tb : TS} {D : Ends} {σ : St} {H : Hp} (Pv : Nat → St → Hp → Prop) (h0 : Pv 0 σ H) (hl : ∀ i σ H, i ≤ xs.length → Pv i σ H → SqL K H a xs)
    (hs : ∀ i x σ H, xs[i]? = some x → Pv i σ H → g x σ H fun σ2 H2 => tb { D with nx := Pv (i + 1), ct := Pv (i + 1), bk := D.nx } σ2 H2) (hd : ∀ σ H, Pv xs.length σ H → D.nx σ H) :
    ∃ W : Nat → Nat → St → Hp → Prop, (∃ m, W 0 m σ H) ∧ ∀ i m σ H, W i m σ H →
      ((Itl K a).stop i H ∧ D.nx σ H) ∨ ((Itl K a).go i H ∧ ∃ N : St → Hp → Prop, (∀ σ' H', N σ' H' → ∃ m', m' < m ∧ W (i + 1) m' σ' H') ∧ ∀ x H', (Itl K a).yld i H x H' → g x σ H' fun σ2 H2 => tb { D with nx := N, ct := N, bk := D.nx } σ2 H2) := by
  refine ⟨fun i m σ H => m = xs.length - i ∧ i ≤ xs.length ∧ Pv i σ H, ⟨xs.length, by simp, Nat.zero_le _, h0⟩, ?_⟩
  rintro i m σ H ⟨rfl, hi, p⟩
  have q := hl i σ H hi p
  by_cases hlt : i < xs.length
  · refine .inr ⟨⟨xs, xs[i], q, by simp [hlt]⟩, Pv (i + 1), fun σ' H' p' => ⟨xs.length - (i + 1), by omega, rfl, hlt, p'⟩, fun x H' y => ?_⟩
    obtain ⟨e, y⟩ := y
    subst e
    exact hs i x σ _ (y xs q) p
  · have e : i = xs.length := by omega
    subst e
    exact .inl ⟨⟨xs, q, Nat.le_refl _⟩, hd σ H p⟩
end L2

namespace L2
open PySem PySem.Spec PyProof.Rows

abbrev R2 := V → V → Hp → VK → Prop

def OpR (X : Cx) (f : Value → Value → Sem Value) (r : R2) : Prop :=
  ∀ (pins : List (Addr × Obj)) (s : Shared) (σ : St) (H : Hp) (x y : V) (v u : Value) (Q : VK), Inv X pins σ H s → RelV x v → RelV y u → r x y H Q →
    wpAny (model X.prog X.w) X.A (f v u) (EP X pins σ Q) X.xe s

def UnR (X : Cx) (f : Value → Sem Value) (r : V → Hp → VK → Prop) : Prop :=
  ∀ (pins : List (Addr × Obj)) (s : Shared) (σ : St) (H : Hp) (x : V) (v : Value) (Q : VK), Inv X pins σ H s → RelV x v → r x H Q →
    wpAny (model X.prog X.w) X.A (f v) (EP X pins σ Q) X.xe s

def CallR (X : Cx) (f : Value) (r : List V → Hp → VK → Prop) : Prop :=
  ∀ (pins : List (Addr × Obj)) (s : Shared) (σ : St) (H : Hp) (xs : List V) (us : List Value) (Q : VK), Inv X pins σ H s → Vals xs us → r xs H Q →
    wpAny (model X.prog X.w) X.A (call f us) (EP X pins σ Q) X.xe s

def tOp (r : R2) (ta tb : TE) : TE := fun σ H Q => ta σ H fun x H1 => tb σ H1 fun y H2 => r x y H2 Q
def tUn (r : V → Hp → VK → Prop) (ta : TE) : TE := fun σ H Q => ta σ H fun x H1 => r x H1 Q

def rI (C : Int → Int → Prop) (g : Int → Int → V) : R2 := fun x y H Q => ∃ i j, x = .int i ∧ y = .int j ∧ C i j ∧ Q (g i j) H
def rI0 (g : Int → Int → V) : R2 := fun x y H Q => ∃ i j, x = .int i ∧ y = .int j ∧ Q (g i j) H
def rU (g : Int → V) : V → Hp → VK → Prop := fun x H Q => ∃ i, x = .int i ∧ Q (g i) H

section
variable {X : Cx} {a b c : Expr} {ta tb tc : TE} {pos : Pos}

theorem binT (ha : PE X a ta) (hb : PE X b tb) {pins : List (Addr × Obj)} {s : Shared} {σ : St} {H : Hp} {R : V → V → Hp → Prop} (I : Inv X pins σ H s)
    (h : ta σ H fun x H1 => tb σ H1 fun y H2 => R x y H2) {Q : Value → Shared → Prop} {f : Value → Value → Sem Value}
    (hf : ∀ v u s2 x y H2, Inv X pins σ H2 s2 → RelV x v → RelV y u → R x y H2 → wpAny (model X.prog X.w) X.A (f v u) Q X.xe s2) :
    wpAny (model X.prog X.w) X.A (eval a X.env) (fun v s₁ => wpAny (model X.prog X.w) X.A (eval b X.env) (fun u s₂ => wpAny (model X.prog X.w) X.A (f v u) Q X.xe s₂) X.xe s₁) X.xe s := by
  refine thn (ha pins s σ H _ I h) fun v s1 ⟨x, H1, I1, r1, q1⟩ => ?_
  refine thn (hb pins s1 σ H1 _ I1 q1) fun u s2 ⟨y, H2, I2, r2, q2⟩ => ?_
  exact hf v u s2 x y H2 I2 r1 r2 q2

theorem pe_op {op : Operator} {r : R2} (ho : OpR X (binaryOp op) r) (ha : PE X a ta) (hb : PE X b tb) : PE X (.BinOp a op b pos) (tOp r ta tb) := by
  intro pins s σ H Q I h
  exact wpAny_BinOp (binT ha hb I h fun v u s2 x y H2 I2 rx ry q => ho pins s2 σ H2 x y v u Q I2 rx ry q)
theorem pe_un {op : UnaryOp} {r : V → Hp → VK → Prop} (ho : UnR X (unaryOp op) r) (ha : PE X a ta) : PE X (.UnaryOp op a pos) (tUn r ta) := by
  intro pins s σ H Q I h
  exact UnaryOp_ (thn (ha pins s σ H _ I h) fun v s1 ⟨x, H1, I1, r1, q1⟩ => ho pins s1 σ H1 x v Q I1 r1 q1)

theorem opI {f : Value → Value → Sem Value} {C : Int → Int → Prop} {g : Int → Int → Int}
    (rule : ∀ (i j : Int) (t u : Tok) (s : Shared) (Q : Value → Shared → Prop) (E : Value → Shared → Prop), C i j → Q (.int (g i j) s.toks) { s with toks := s.toks + 1 } → wpAny (model X.prog X.w) X.A (f (.int i t) (.int j u)) Q E s) :
    OpR X f (rI C fun i j => .int (g i j)) := by
  intro pins s σ H x y v u Q I rx ry h
  obtain ⟨i, j, rfl, rfl, hc, q⟩ := h
  obtain ⟨t, rfl⟩ := rx
  obtain ⟨t', rfl⟩ := ry
  exact rule i j t t' s _ _ hc ⟨.int (g i j), H, I.tok _, ⟨_, rfl⟩, q⟩
theorem opI0 {f : Value → Value → Sem Value} {g : Int → Int → Int}
    (rule : ∀ (i j : Int) (t u : Tok) (s : Shared) (Q : Value → Shared → Prop) (E : Value → Shared → Prop), Q (.int (g i j) s.toks) { s with toks := s.toks + 1 } → wpAny (model X.prog X.w) X.A (f (.int i t) (.int j u)) Q E s) :
    OpR X f (rI0 fun i j => .int (g i j)) := by
  intro pins s σ H x y v u Q I rx ry h
  obtain ⟨i, j, rfl, rfl, q⟩ := h
  obtain ⟨t, rfl⟩ := rx
  obtain ⟨t', rfl⟩ := ry
  exact rule i j t t' s _ _ ⟨.int (g i j), H, I.tok _, ⟨_, rfl⟩, q⟩
theorem opB0 {f : Value → Value → Sem Value} {g : Int → Int → Bool}
    (rule : ∀ (i j : Int) (t u : Tok) (s : Shared) (Q : Value → Shared → Prop) (E : Value → Shared → Prop), Q (.bool (g i j)) s → wpAny (model X.prog X.w) X.A (f (.int i t) (.int j u)) Q E s) :
    OpR X f (rI0 fun i j => .bl (g i j)) := by
  intro pins s σ H x y v u Q I rx ry h
  obtain ⟨i, j, rfl, rfl, q⟩ := h
  obtain ⟨t, rfl⟩ := rx
  obtain ⟨t', rfl⟩ := ry
  exact rule i j t t' s _ _ ⟨.bl (g i j), H, I, rfl, q⟩

def CDiv (i j : Int) : Prop := 0 < j ∧ j < 1073741824
def CPow (i j : Int) : Prop := 0 ≤ j ∧ j ≤ 1000000 ∧ i.natAbs < 2 ^ 64
def CMul (i j : Int) : Prop := (-(2 ^ 64) < i ∧ i < 2 ^ 64) ∨ (-(2 ^ 64) < j ∧ j < 2 ^ 64)
theorem CMul.ok {i j : Int} (h : CMul i j) : IntMulOk i j := by
  rcases h with ⟨h1, h2⟩ | ⟨h1, h2⟩
  · exact .of_left (intBits_le_64 h1 h2)
  · exact .of_right (intBits_le_64 h1 h2)
theorem op_add : OpR X (binaryOp .Add) (rI0 fun i j => .int (i + j)) := opI0 fun _ _ _ _ _ _ _ q => add_int q
theorem op_fdiv : OpR X (binaryOp .FloorDiv) (rI CDiv fun i j => .int (i / j)) := opI fun i j _ _ _ _ _ hc q => by
  have h1 : (0 : Int) < j := hc.1
  have h2 : j < 1073741824 := hc.2
  exact floordiv_int (by omega) (by rw [Int.fdiv_eq_ediv_of_nonneg i (by omega)]; exact q) (.inl (PyProof.noPylong_small (by omega)))
theorem op_mod : OpR X (binaryOp .Mod) (rI (fun _ j => 0 < j) fun i j => .int (i % j)) := opI fun i j _ _ _ _ _ hc q => by
  have h1 : (0 : Int) < j := hc
  exact mod_int' (by omega) (by rw [Int.fmod_eq_emod_of_nonneg i (by omega)]; exact q)
theorem op_pow : OpR X (binaryOp .Pow) (rI CPow fun i j => .int (i ^ j.toNat)) := opI fun _ _ _ _ _ _ _ hc q => pow_int_small hc.1 hc.2.1 hc.2.2 q
theorem unI {f : Value → Sem Value} {g : Int → Int}
    (rule : ∀ (i : Int) (t : Tok) (s : Shared) (Q : Value → Shared → Prop) (E : Value → Shared → Prop), Q (.int (g i) s.toks) { s with toks := s.toks + 1 } → wpAny (model X.prog X.w) X.A (f (.int i t)) Q E s) :
    UnR X f (rU fun i => .int (g i)) := by
  intro pins s σ H x v Q I rx h
  obtain ⟨i, rfl, q⟩ := h
  obtain ⟨t, rfl⟩ := rx
  exact rule i t s _ _ ⟨.int (g i), H, I.tok _, ⟨_, rfl⟩, q⟩
theorem un_neg : UnR X (unaryOp .USub) (rU fun i => .int (-i)) := unI fun _ _ _ _ _ q => neg_int q
end



def scal : V → V → Bool
  | .non, .non => true | .non, .int _ => true | .int _, .non => true | .non, .bl _ => true | .bl _, .non => true | .non, .str _ => true | .str _, .non => true
  | .int _, .int _ => true | .bl _, .bl _ => true | .str _, .str _ => true | .byt _, .byt _ => true
  | .int _, .str _ => true | .str _, .int _ => true | .bl _, .str _ => true | .str _, .bl _ => true
  | _, _ => false
def rEq : R2 := fun x y H Q => scal x y = true ∧ Q (.bl (decide (x = y))) H
def rNe : R2 := fun x y H Q => scal x y = true ∧ Q (.bl (!decide (x = y))) H

theorem dec_int {i j : Int} : decide (V.int i = V.int j) = (i == j) := by
  rw [Bool.eq_iff_iff]
  simp
theorem dec_bl {i j : Bool} : decide (V.bl i = V.bl j) = (i == j) := by
  rw [Bool.eq_iff_iff]
  simp
theorem dec_str {i j : Str} : decide (V.str i = V.str j) = (i == j) := by
  rw [Bool.eq_iff_iff]
  simp
theorem dec_byt {i j : Array UInt8} : decide (V.byt i = V.byt j) = (i.toList == j.toList) := by
  rw [Bool.eq_iff_iff]
  cases i
  cases j
  simp

section
variable {X : Cx} {a b c : Expr} {ta tb tc : TE} {pos : Pos}
theorem fin_bl {pins : List (Addr × Obj)} {σ : St} {H : Hp} {s : Shared} {Q : VK} {k k' : Bool} (I : Inv X pins σ H s) (q : Q (.bl k) H) (e : k = k') : EP X pins σ Q (.bool k') s := by
  subst e
  exact ⟨.bl k, H, I, rfl, q⟩
theorem op_eq : OpR X (compareOp .Eq) rEq := by
  intro pins s σ H x y v u Q I rx ry h
  obtain ⟨hs, q⟩ := h
  cases x with
  | non =>
    cases rx
    cases y with
    | non => cases ry; exact PySem.EqNone.eq_none_none (fin_bl I q (by simp))
    | bl j => cases ry; exact PySem.EqNone.eq_none_bool (fin_bl I q (by simp))
    | int j => obtain ⟨t', rfl⟩ := ry; exact PySem.EqNone.eq_none_int (fin_bl I q (by simp))
    | str j => obtain ⟨t', rfl⟩ := ry; exact PySem.EqNone.eq_none_str (fin_bl I q (by simp))
    | _ => exact absurd (show false = true from hs) Bool.false_ne_true
  | bl i =>
    cases rx
    cases y with
    | non => cases ry; exact PySem.EqNone.eq_bool_none (fin_bl I q (by simp))
    | bl j => cases ry; exact eq_bool (fin_bl I q dec_bl)
    | str j => obtain ⟨t', rfl⟩ := ry; exact PySem.EqMixed.eq_bool_str (fin_bl I q (by simp))
    | _ => exact absurd (show false = true from hs) Bool.false_ne_true
  | int i =>
    obtain ⟨t, rfl⟩ := rx
    cases y with
    | non => cases ry; exact PySem.EqNone.eq_int_none (fin_bl I q (by simp))
    | int j => obtain ⟨t', rfl⟩ := ry; exact eq_int (fin_bl I q dec_int)
    | str j => obtain ⟨t', rfl⟩ := ry; exact PySem.EqMixed.eq_int_str (fin_bl I q (by simp))
    | _ => exact absurd (show false = true from hs) Bool.false_ne_true
  | str i =>
    obtain ⟨t, rfl⟩ := rx
    cases y with
    | non => cases ry; exact PySem.EqNone.eq_str_none (fin_bl I q (by simp))
    | bl j => cases ry; exact PySem.EqMixed.eq_str_bool (fin_bl I q (by simp))
    | int j => obtain ⟨t', rfl⟩ := ry; exact PySem.EqMixed.eq_str_int (fin_bl I q (by simp))
    | str j => obtain ⟨t', rfl⟩ := ry; exact eq_str (fin_bl I q dec_str)
    | _ => exact absurd (show false = true from hs) Bool.false_ne_true
  | byt i =>
    obtain ⟨t, rfl⟩ := rx
    cases y with
    | byt j => obtain ⟨t', rfl⟩ := ry; exact PySem.W.eq_bytes (fin_bl I q dec_byt)
    | _ => exact absurd (show false = true from hs) Bool.false_ne_true
  | _ => cases y <;> exact absurd (show false = true from hs) Bool.false_ne_true
theorem op_ne : OpR X (compareOp .NotEq) rNe := by
  intro pins s σ H x y v u Q I rx ry h
  obtain ⟨hs, q⟩ := h
  cases x with
  | non =>
    cases rx
    cases y with
    | non => cases ry; exact PySem.EqNone.ne_none_none (fin_bl I q (by simp))
    | bl j => cases ry; exact PySem.EqNone.ne_none_bool (fin_bl I q (by simp))
    | int j => obtain ⟨t', rfl⟩ := ry; exact PySem.EqNone.ne_none_int (fin_bl I q (by simp))
    | str j => obtain ⟨t', rfl⟩ := ry; exact PySem.EqNone.ne_none_str (fin_bl I q (by simp))
    | _ => exact absurd (show false = true from hs) Bool.false_ne_true
  | bl i =>
    cases rx
    cases y with
    | non => cases ry; exact PySem.EqNone.ne_bool_none (fin_bl I q (by simp))
    | bl j => cases ry; exact ne_bool (fin_bl I q (congrArg not dec_bl))
    | str j => obtain ⟨t', rfl⟩ := ry; exact PySem.EqMixed.ne_bool_str (fin_bl I q (by simp))
    | _ => exact absurd (show false = true from hs) Bool.false_ne_true
  | int i =>
    obtain ⟨t, rfl⟩ := rx
    cases y with
    | non => cases ry; exact PySem.EqNone.ne_int_none (fin_bl I q (by simp))
    | int j => obtain ⟨t', rfl⟩ := ry; exact ne_int (fin_bl I q (congrArg not dec_int))
    | str j => obtain ⟨t', rfl⟩ := ry; exact PySem.EqMixed.ne_int_str (fin_bl I q (by simp))
    | _ => exact absurd (show false = true from hs) Bool.false_ne_true
  | str i =>
    obtain ⟨t, rfl⟩ := rx
    cases y with
    | non => cases ry; exact PySem.EqNone.ne_str_none (fin_bl I q (by simp))
    | bl j => cases ry; exact PySem.EqMixed.ne_str_bool (fin_bl I q (by simp))
    | int j => obtain ⟨t', rfl⟩ := ry; exact PySem.EqMixed.ne_str_int (fin_bl I q (by simp))
    | str j => obtain ⟨t', rfl⟩ := ry; exact ne_str (fin_bl I q (congrArg not dec_str))
    | _ => exact absurd (show false = true from hs) Bool.false_ne_true
  | byt i =>
    obtain ⟨t, rfl⟩ := rx
    cases y with
    | byt j => obtain ⟨t', rfl⟩ := ry; exact PySem.W.ne_bytes (fin_bl I q (congrArg not dec_byt))
    | _ => exact absurd (show false = true from hs) Bool.false_ne_true
  | _ => cases y <;> exact absurd (show false = true from hs) Bool.false_ne_true

theorem op_lt : OpR X (compareOp .Lt) (rI0 fun i j => .bl (decide (i < j))) := opB0 fun _ _ _ _ _ _ _ q => lt_int q
theorem op_gt : OpR X (compareOp .Gt) (rI0 fun i j => .bl (decide (j < i))) := opB0 fun _ _ _ _ _ _ _ q => gt_int q
theorem op_ge : OpR X (compareOp .GtE) (rI0 fun i j => .bl (decide (j ≤ i))) := opB0 fun _ _ _ _ _ _ _ q => ge_int q
theorem op_in_str : OpR X (compareOp .In) (fun x y H Q => ∃ i j, x = .str i ∧ y = .str j ∧ Q (.bl (!(Builtin.Str.occurrences j i 0 j.length 1).isEmpty)) H) := by
  intro pins s σ H x y v u Q I rx ry h
  obtain ⟨i, j, rfl, rfl, q⟩ := h
  obtain ⟨t, rfl⟩ := rx
  obtain ⟨t', rfl⟩ := ry
  exact in_str (fin_bl I q rfl)


theorem op_notin_str : OpR X (compareOp .NotIn) (fun x y H Q => ∃ i j, x = .str i ∧ y = .str j ∧ Q (.bl (!(!(Builtin.Str.occurrences j i 0 j.length 1).isEmpty))) H) := by
  intro pins s σ H x y v u Q I rx ry h
  obtain ⟨i, j, rfl, rfl, q⟩ := h
  obtain ⟨t, rfl⟩ := rx
  obtain ⟨t', rfl⟩ := ry
  exact notIn_str (fin_bl I q rfl)

theorem OpR.or {f : Value → Value → Sem Value} {r r' : R2} (h : OpR X f r) (h' : OpR X f r') : OpR X f (fun x y H Q => r x y H Q ∨ r' x y H Q) := by
  intro pins s σ H x y v u Q I rx ry q
  rcases q with q | q
  · exact h pins s σ H x y v u Q I rx ry q
  · exact h' pins s σ H x y v u Q I rx ry q

theorem nomark (b : Expr) {op : CmpOp} (h : op ≠ .In := by decide) (h2 : op ≠ .NotIn := by decide) : behindInMarks op b = false := by
  have e1 : (op == CmpOp.In) = false := by cases op <;> first | rfl | exact absurd rfl h
  have e2 : (op == CmpOp.NotIn) = false := by cases op <;> first | rfl | exact absurd rfl h2
  cases b <;> simp [behindInMarks, e1, e2]

theorem pe_cmpR {op : CmpOp} {r : R2} (ho : OpR X (compareOp op) r) (ha : PE X a ta) (hb : PE X b tb) (hm : behindInMarks op b = false) : PE X (.Compare a [op] [b] pos) (tOp r ta tb) := by
  intro pins s σ H Q I h
  exact wpAny_Compare1 (binT ha hb I h fun v u s2 x y H2 I2 rx ry q => ho pins s2 σ H2 x y v u Q I2 rx ry q) hm

def tTest (t : TE) : TT := fun σ H Q => t σ H fun x H' => ∃ k, x = .bl k ∧ Q k H'
theorem pt_cmpR {op : CmpOp} {r : R2} (ho : OpR X (compareOp op) r) (ha : PE X a ta) (hb : PE X b tb) (hm : behindInMarks op b = false) : PT X (.Compare a [op] [b] pos) (tTest (tOp r ta tb)) := by
  intro pins s σ H Q I h
  refine wpAny_isTrue_Compare1 (thn (ha pins s σ H _ I h) fun v s1 ⟨x, H1, I1, r1, q1⟩ => thn (hb pins s1 σ H1 _ I1 q1) fun u s2 ⟨y, H2, I2, r2, q2⟩ =>
    thn (ho pins s2 σ H2 x y v u _ I2 r1 r2 q2) fun c s3 ⟨z, H3, I3, r3, k, e, q3⟩ => ?_) hm
  subst e
  cases r3
  exact wpAny_truthy_bool ⟨H3, I3, q3⟩

def tChain (r r' : R2) (ta tb tc : TE) : TE := fun σ H Q => ta σ H fun x H1 => tb σ H1 fun y H2 => r x y H2 fun z H3 => ∃ k, z = .bl k ∧
  (if k = true then tc σ H3 fun w' H4 => r' y w' H4 Q else Q (.bl false) H3)
def TruV (K : PySem.W.Frag) (x : V) (H : Hp) (k : Bool) : Prop :=
  match x with
  | .non => k = false
  | .bl b => k = b
  | .int i => k = (i != 0)
  | .str y => y.length ≤ sizeLine ∧ k = ((y.length : Int) != 0)
  | .byt y => y.size ≤ sizeLine ∧ k = ((y.size : Int) != 0)
  | .ref p => (∃ xs, SqL K H p xs ∧ k = !xs.isEmpty) ∨ (∃ xs, SqT K H p xs ∧ k = !xs.isEmpty) ∨ ∃ kvs, H p = some (.dK kvs) ∧ k = !kvs.isEmpty
  | _ => False
theorem line63 : (sizeLine : Nat) < 2 ^ 63 := by rw [sizeLine_eq]; decide
theorem op_add_str : OpR X (binaryOp .Add) (fun x y H Q => ∃ i j, x = .str i ∧ y = .str j ∧ i.length + j.length ≤ sizeLine ∧ Q (.str (i ++ j)) H) := by
  intro pins s σ H x y v u Q I rx ry h
  obtain ⟨i, j, rfl, rfl, hz, q⟩ := h
  obtain ⟨t, rfl⟩ := rx
  obtain ⟨t', rfl⟩ := ry
  exact add_str (fun t' tk => ⟨.str (i ++ j), H, I.tok _, ⟨_, rfl⟩, q⟩) hz
theorem vals1 {x : V} {us : List Value} (r : Vals [x] us) : ∃ u, us = [u] ∧ RelV x u := by
  cases r with
  | cons r1 r2 => cases r2; exact ⟨_, rfl, r1⟩
theorem vals2 {x y : V} {us : List Value} (r : Vals [x, y] us) : ∃ u w', us = [u, w'] ∧ RelV x u ∧ RelV y w' := by
  cases r with
  | cons r1 r2 =>
    cases r2 with
    | cons r3 r4 => cases r4; exact ⟨_, _, rfl, r1, r3⟩
theorem call_int1 : CallR X (.type "int") (fun xs H Q => (∃ i, xs = [.int i] ∧ Q (.int i) H) ∨ ∃ k, xs = [.bl k] ∧ Q (.int (if k then 1 else 0)) H) := by
  intro pins s σ H xs us Q I r h
  rcases h with ⟨i, rfl, q⟩ | ⟨k, rfl, q⟩
  · obtain ⟨u, rfl, t, rfl⟩ := vals1 r
    exact call_int_int ⟨.int i, H, I, ⟨_, rfl⟩, q⟩
  · obtain ⟨u, rfl, r1⟩ := vals1 r
    cases r1
    exact call_int_bool ⟨.int (if k then 1 else 0), H, I.tok _, ⟨_, rfl⟩, q⟩
theorem call_str_int : CallR X (.type "str") (fun xs H Q => ∃ i, xs = [.int i] ∧ i.natAbs.log2 < 1920 ∧ Q (.str (toString i)) H) := by
  intro pins s σ H xs us Q I r h
  obtain ⟨i, rfl, hz, q⟩ := h
  obtain ⟨u, rfl, t, rfl⟩ := vals1 r
  exact PySem.P.str_of_int hz ⟨.str _, H, I.tok _, ⟨_, rfl⟩, q⟩
end
end L2

namespace L2
open PySem PySem.Spec PyProof.Rows


structure ObjM (h : Heap) (x dx C : Addr) (mA : Str → Option Value) : Prop where
  obj : h.get? x = some (PySem.W.instObj C dx)
  ns : h.Ns1 dx mA
  ne : dx ≠ x

theorem lookIn_ns {h : Heap} {dx : Addr} {mA : Str → Option Value} (n : h.Ns1 dx mA) : ∃ od, h.get? dx = some od ∧ ∀ name, PySem.W.lookIn name od = some (mA name) := by
  obtain ⟨o, es, ep, ho, hd, hk, _, hm⟩ := n
  refine ⟨o, ho, fun name => ?_⟩
  have e := hm name
  unfold nsFind findBy at e
  rw [← Array.find?_toList] at e
  unfold PySem.W.lookIn
  rw [hd]
  dsimp only
  split
  · rename_i y q
    rw [q] at e
    exact congrArg some e
  · rename_i q
    rw [q] at e
    have a : es.toList.any (·.refKey) = false := by
      rw [List.any_eq_false]
      intro y hy
      obtain ⟨z, t, hkey⟩ := hk y (Array.mem_toList_iff.mp hy)
      simp [DictEntry.refKey, hkey]
    have a' : ¬ es.toList.any (·.refKey) = true := by rw [a]; exact Bool.false_ne_true
    rw [if_neg a']
    exact congrArg some e

theorem ObjM.look {h : Heap} {x dx C : Addr} {mA : Str → Option Value} (I : ObjM h x dx C mA) : ∃ od, PySem.W.InstAt h x (PySem.W.instObj C dx) C (some od) ∧ ∀ name, PySem.W.lookIn name od = some (mA name) :=
  let ⟨od, ho, hl⟩ := lookIn_ns I.ns
  ⟨od, ⟨I.obj, rfl, rfl, ho⟩, hl⟩

section
variable {prog : Program} {w : World} {A : Around} {E : Value → Shared → Prop} {s : Shared} {K : PySem.W.Frag} {x dx C f : Addr} {mA : Str → Option Value} {name : Str} {v : Value}

end


theorem RelO.some_of {v : V} {o : Option Value} (r : RelO (some v) o) : ∃ u, o = some u ∧ RelV v u := by
  cases o with
  | none => exact (show False from r).elim
  | some u => exact ⟨u, rfl, r⟩
theorem RelO.none_of {o : Option Value} (r : RelO none o) : o = none := by
  cases o with
  | none => rfl
  | some u => exact (show False from r).elim
theorem handed_of {v : V} {u : Value} (r : RelV v u) : PySem.W.handedIn u = true := by
  cases v with
  | non => cases (show u = Value.none from r); rfl
  | bl b => cases (show u = Value.bool b from r); rfl
  | int i => obtain ⟨t, e⟩ := (show ∃ t, u = Value.int i t from r); cases e; rfl
  | str x => obtain ⟨t, e⟩ := (show ∃ t, u = Value.str x t from r); cases e; rfl
  | byt b => obtain ⟨t, e⟩ := (show ∃ t, u = Value.bytes b t from r); cases e; rfl
  | flt b => obtain ⟨t, e⟩ := (show ∃ t, u = Value.float b t from r); cases e; rfl
  | ref a => cases (show u = Value.ref a from r); rfl
  | ty n => cases (show u = Value.type n from r); rfl

section
variable {P : Program} {w : World} {H H' : Hp} {h h' : Heap} {a C dx : Addr} {fs fs' : List (Str × V)}
theorem ins_get (hok : HOk P w H h) (e : H a = some (.ins C dx fs)) : ∃ mA, ObjM h a dx C mA ∧ (∀ f, RelO (fs.lookup f) (mA f)) ∧ PySem.Within mA (fs.map (·.1)) ∧ fs.length ≤ 1000 ∧ H dx = some (.own a) := by
  obtain ⟨d, z, ne, ob, mA, n, r, q⟩ := (show ObjOk P w H h a (.ins C dx fs) from hok a _ e)
  exact ⟨mA, ⟨ob, n, ne⟩, r, q, z, d⟩
end


structure Cls (K : PySem.W.Frag) (C : Addr) : Prop where
  pg : PySem.W.plainGet K C Str.empty = true
  hd : PySem.W.hasDictIn K C = true
  po : PySem.W.plainOver K C = true
  sa : PySem.W.findIn K (.ref C) "__setattr__" = some (some (.builtin "object.__setattr__"))
theorem Cls.get {K : PySem.W.Frag} {C : Addr} (c : Cls K C) (f : Str) : PySem.W.plainGet K C f = true := c.pg

section
variable {X : Cx} {pins : List (Addr × Obj)} {σ : St} {H : Hp} {s : Shared} {a C dx : Addr} {fs : List (Str × V)} {f : Str} {v : V} {A : Around} {E : Value → Shared → Prop}

theorem attr_of {prog : Program} {w : World} {env : Env} {e : Expr} {f : Str} {pos : Pos} {s : Shared} {Q : Value → Shared → Prop} (hb : attributeBase e f env (eval e env) = eval e env)
    (h : wpAny (model prog w) A (eval e env) (fun o s₁ => wpAny (model prog w) A (getAttr o f true) Q E s₁) E s) : wpAny (model prog w) A (eval (.Attribute e f pos) env) Q E s :=
  Attribute_any_ h (by rw [arm_eval_Attribute, hb])
end



section
variable {X : Cx} {o e value : Expr} {f : Str} {pos pos' tpos : Pos} {ta tv : TE}
end


section
variable {X : Cx} {pins : List (Addr × Obj)} {σ : St} {H : Hp} {s : Shared} {A : Around} {E : Value → Shared → Prop} {Q : Value → Shared → Prop} {c : Value} {b : Bool}

inductive TyOf (K : PySem.W.Frag) (H : Hp) : V → Value → Prop where
  | non : TyOf K H .non (.type "NoneType")
  | bl (x : Bool) : TyOf K H (.bl x) (.type "bool")
  | int (i : Int) : TyOf K H (.int i) (.type "int")
  | str (x : Str) : TyOf K H (.str x) (.type "str")
  | flt (x : UInt64) : TyOf K H (.flt x) (.type "float")
  | lst {a : Addr} {xs : List V} (e : H a = some (.lst xs)) : TyOf K H (.ref a) (.type "list")
  | frz {a : Addr} {o : Obj} {xs : List V} (e : H a = some (.frz o (.lst xs))) : TyOf K H (.ref a) (.type "list")
  | tup {a : Addr} {xs : List V} (e : H a = some (.tup xs)) : TyOf K H (.ref a) (.type "tuple")
  | dK {a : Addr} {kvs : List (Key × V)} (e : H a = some (.dK kvs)) : TyOf K H (.ref a) (.type "dict")
  | dT {a : Addr} {kvs : List (List Key × V)} (e : H a = some (.dT kvs)) : TyOf K H (.ref a) (.type "dict")
  | ins {a C dx : Addr} {fs : List (Str × V)} (e : H a = some (.ins C dx fs)) (cl : Cls K C) (ha : PySem.W.findIn K (.ref C) "__class__" = some (some (.builtin "object.__class__")))
      (hn : PySem.W.specialIn K (.builtin "object.__class__") "__get__" = some (some (.builtin "getset_descriptor.__get__"))) (htk : PySem.W.takesIn K (.builtin "object.__class__") = some true)
      (hm : PySem.W.mroIn K C (.type "object") = some true) : TyOf K H (.ref a) (.ref C)

theorem isinst_ok {x : V} {u t : Value} (I : Inv X pins σ H s) (rx : RelV x u) (ty : TyOf X.K H x t) (e : PySem.W.kitOne X.K t c = some b) (h : ∀ tk, Q (.bool b) { s with toks := tk }) :
    wpAny (model X.prog X.w) A (call (.builtin "isinstance") [u, c]) Q E s := by
  cases ty with
  | non => cases (show u = Value.none from rx); exact PySem.W.kia_one PySem.W.kitx_none I.kIn True.intro e (fun z => nomatch z) h
  | bl y => cases (show u = Value.bool y from rx); exact PySem.W.kia_one PySem.W.kitx_bool I.kIn True.intro e (fun z => nomatch z) h
  | int i => obtain ⟨t, q⟩ := (show ∃ t, u = Value.int i t from rx); cases q; exact PySem.W.kia_one PySem.W.kitx_int I.kIn True.intro e (fun z => nomatch z) h
  | str y => obtain ⟨t, q⟩ := (show ∃ t, u = Value.str y t from rx); cases q; exact PySem.W.kia_one PySem.W.kitx_str I.kIn True.intro e (fun z => nomatch z) h
  | flt y => obtain ⟨t, q⟩ := (show ∃ t, u = Value.float y t from rx); cases q; exact PySem.W.kia_one PySem.W.kitx_float I.kIn True.intro e (fun z => nomatch z) h
  | @lst a xs ea =>
    cases (show u = Value.ref a from rx)
    obtain ⟨_, _, n, _, h1⟩ := (show ObjOk X.prog X.w H s.heap a (.lst xs) from I.hok a _ ea)
    exact PySem.W.kia_one PySem.W.kitx_list I.kIn ⟨_, h1, rfl⟩ e (fun z => nomatch z) h
  | @frz a ob xs ea =>
    cases (show u = Value.ref a from rx)
    obtain ⟨_, _, _, n, _, h1⟩ := (show ObjOk X.prog X.w H s.heap a (.frz ob (.lst xs)) from I.hok a _ ea)
    exact PySem.W.kia_one PySem.W.kitx_list I.kIn ⟨_, h1, rfl⟩ e (fun z => nomatch z) h
  | @tup a xs ea =>
    cases (show u = Value.ref a from rx)
    obtain ⟨_, _, _, p⟩ := (show ObjOk X.prog X.w H s.heap a (.tup xs) from I.hok a _ ea)
    obtain ⟨o, h1, h2, _⟩ := p
    exact PySem.W.kia_one PySem.W.kitx_tuple I.kIn ⟨o, h1, h2⟩ e (fun z => nomatch z) h
  | @dK a kvs ea =>
    cases (show u = Value.ref a from rx)
    obtain ⟨_, _, vs, _, p⟩ := (show ObjOk X.prog X.w H s.heap a (.dK kvs) from I.hok a _ ea)
    obtain ⟨o, es, ep, h1, h2, _⟩ := p
    exact PySem.W.kia_one PySem.W.kitx_dict I.kIn ⟨o, h1, h2.1⟩ e (fun z => nomatch z) h
  | @dT a kvs ea =>
    cases (show u = Value.ref a from rx)
    obtain ⟨_, _, xs, _, o, es, ep, h1, h2, _⟩ := (show ObjOk X.prog X.w H s.heap a (.dT kvs) from I.hok a _ ea)
    exact PySem.W.kia_one PySem.W.kitx_dict I.kIn ⟨o, h1, h2.1⟩ e (fun z => nomatch z) h
  | @ins a C dx fs ea cl ha hn htk hm =>
    cases (show u = Value.ref a from rx)
    obtain ⟨mA, O, _⟩ := ins_get I.hok ea
    obtain ⟨od, J, _⟩ := O.look
    exact PySem.W.kia_one (PySem.W.kitx_own (cl.get _) cl.hd ha hn htk hm) I.kIn J e (fun z => nomatch z) h
end
end L2

namespace L2
open PySem PySem.Spec PyProof.Rows


structure Room (k : Nat) (A : Around) : Prop where
  hd : A.handled = none
  dp : A.depth + 3 * k + 5 < recursionLimit
  un : A.units + 16 * k + 200 < cLine
  gd : A.guards = some []
theorem Room.mono {j k : Nat} {A : Around} (r : Room k A) (h : j ≤ k) : Room j A := ⟨r.hd, by have := r.dp; omega, by have := r.un; omega, r.gd⟩
theorem Room.deeper {k : Nat} {A : Around} (r : Room (k + 1) A) (env : Env) : Room k (A.deeper env) :=
  ⟨r.hd, by have := r.dp; show A.depth + 1 + 3 * k + 5 < _; omega, by have := r.un; show A.units + 3 + 16 * k + 200 < _; omega, r.gd⟩
theorem Room.in1 {k : Nat} {A : Around} (r : Room (k + 1) A) : Room k A.in1 :=
  ⟨r.hd, by have := r.dp; show A.depth + 3 * k + 5 < _; omega, by have := r.un; show A.units + 1 + 16 * k + 200 < _; omega, r.gd⟩
theorem make_depth {A : Around} {C : Addr} {us : List Value} {kw : List (Str × Value)} : (A.under (.builtin "type.__call__" ⟨.ref C :: us, kw⟩)).depth = A.depth + 1 := by
  first | rfl | simp [Around.under, Code.weight, Code.isCreation, Code.isGuard, Code.isCaller, Code.frames, Code.isFrame, guardIds]
theorem make_units {A : Around} {C : Addr} {us : List Value} {kw : List (Str × Value)} : (A.under (.builtin "type.__call__" ⟨.ref C :: us, kw⟩)).units = A.units + 1 := by
  first | rfl | simp [Around.under, Code.cUnits, Code.frames, Code.isFrame]
theorem make_guards {A : Around} {C : Addr} {us : List Value} {kw : List (Str × Value)} : (A.under (.builtin "type.__call__" ⟨.ref C :: us, kw⟩)).guards = A.guards := by
  first | rfl | simp [Around.under, Code.weight, Code.isCreation, Code.isGuard, Code.isCaller, Code.frames, Code.isFrame, guardIds]
theorem Room.make {k : Nat} {A : Around} (r : Room (k + 1) A) (C : Addr) (us : List Value) (kw : List (Str × Value)) : Room k (A.under (.builtin "type.__call__" ⟨.ref C :: us, kw⟩)) :=
  ⟨r.hd, by have := r.dp; rw [make_depth]; omega, by have := r.un; rw [make_units]; omega, by rw [make_guards]; exact r.gd⟩
theorem Room.depth {k : Nat} {A : Around} (r : Room k A) : A.depth < recursionLimit := by have := r.dp; omega
theorem Room.units {k : Nat} {A : Around} (r : Room k A) : A.units + 64 < cLine := by have := r.un; omega
def tNil : TA := fun _ H Q => Q [] H
def tCons (ta : TE) (tr : TA) : TA := fun σ H Q => ta σ H fun x H1 => tr σ H1 fun xs H2 => Q (x :: xs) H2
section
variable {X : Cx} {e : Expr} {es : List Expr} {te : TE} {t : TA} {pos : Pos}
theorem pa_nil : PA X [] tNil := fun _ _ _ _ H Q I h => Calls.spliced_nil ⟨[], H, I, .nil, h⟩
theorem pa_cons (ha : PE X e te) (hr : PA X es t) (hs : starEach (e :: es) X.env = (false, eval e X.env) :: starEach es X.env := by rfl) : PA X (e :: es) (tCons te t) := by
  intro pos pins s σ H Q I h
  rw [hs]
  show wpAny _ _ (spliced ((false, eval e X.env) :: backTo pos (starEach es X.env))) _ _ s
  refine Calls.spliced_cons (thn (ha pins s σ H _ I h) fun u s1 ⟨x, H1, I1, r1, q1⟩ => ?_)
  exact thn (hr pos pins s1 σ H1 _ I1 q1) fun us s2 ⟨xs, H2, I2, r2, q2⟩ => ⟨x :: xs, H2, I2, .cons r1 r2, q2⟩


def tTup (t : TA) : TE := fun σ H Q => t σ H fun xs H1 => xs.length ≤ sizeLine ∧ ∀ p, H1 p = none → Q (.ref p) (upd H1 p (.tup xs))
def tLst (t : TA) : TE := fun σ H Q => t σ H fun xs H1 => xs.length ≤ sizeLine ∧ ∀ p, H1 p = none → Q (.ref p) (upd H1 p (.lst xs))
theorem pe_tup {x1} (h : PA X es t) : PE X (.Tuple es x1 pos) (tTup t) := by
  intro pins s σ H Q I hq
  refine wpAny_Tuple_spliced (thn (h pos pins s σ H _ I hq) fun us s1 ⟨xs, H1, I1, r, z, q⟩ => ⟨by rw [← r.length]; exact z, ?_⟩)
  have hf : H1 s1.heap.objs.size = none := I1.hok.fresh (Nat.le_refl _)
  refine ⟨.ref s1.heap.objs.size, upd H1 s1.heap.objs.size (.tup xs), I1.laid (t' := s1.toks) (fun b u e => Heap.get?_push_of_some _ e) (Nat.le_refl _) ?_, rfl, q _ hf⟩
  exact ⟨z, us, r, ⟨_, Heap.get?_push_size _ rfl, rfl, _, rfl⟩⟩
theorem pe_lst (h : PA X es t) : PE X (.List es pos) (tLst t) := by
  intro pins s σ H Q I hq
  refine wpAny_List_spliced (thn (h pos pins s σ H _ I hq) fun us s1 ⟨xs, H1, I1, r, z, q⟩ => ⟨by rw [← r.length]; exact z, ?_⟩)
  have hf : H1 s1.heap.objs.size = none := I1.hok.fresh (Nat.le_refl _)
  refine ⟨.ref s1.heap.objs.size, upd H1 s1.heap.objs.size (.lst xs), I1.laid (t' := s1.toks) (fun b u e => Heap.get?_push_of_some _ e) (Nat.le_refl _) ?_, rfl, q _ hf⟩
  exact ⟨z, us, 0, r, Heap.get?_push_size _ rfl⟩
end



abbrev Sp := List V → Hp → VK → XK → Prop

abbrev CXT := List Env → Hp → Shared → XK → Value → Shared → Prop


structure Env0 (P : Program) (w : World) (K : PySem.W.Frag) (mg : Str → Option Value) (base : Heap) (A : Around) (outer : List Env) (s : Shared) (H : Hp) : Prop where
  frames : A.frames = some outer
  mod : Mod K mg base
  bs : ∀ b o, base.get? b = some o → s.heap.get? b = some o ∧ H b = none
  bsz : base.objs.size ≤ s.heap.objs.size
  funs : s.heap.FunFrames base outer
  frf : ∀ b ∈ frs outer, H b = none
  hok : HOk P w H s.heap
  bare : AllBare s.gens

def CE (outer : List Env) (P : Program) (w : World) (H : Hp) (s : Shared) (Q : VK) (u : Value) (s' : Shared) : Prop :=
  ∃ v H', s'.os = s.os ∧ AllBare s'.gens ∧ Un (frs outer) [] H H' s.heap s'.heap ∧ HOk P w H' s'.heap ∧ RelV v u ∧ Q v H'
def CR (CX : CXT) (outer : List Env) (P : Program) (w : World) (H : Hp) (s : Shared) (Q : VK) (E : XK) (r : Result) (s' : Shared) : Prop :=
  match r with
  | .ok (.ret u) => CE outer P w H s Q u s'
  | .ok _ => False
  | .error e => CX outer H s E e s'
structure FnOk (P : Program) (w : World) (K : PySem.W.Frag) (mg : Str → Option Value) (base : Heap) (CX : CXT) (k : Nat) (f : Addr) (fd : FuncData) (ps : List Str) (sp : Sp) : Prop where
  len : ∀ vs H Q E, sp vs H Q E → vs.length = ps.length
  run : ∀ (A : Around) (outer : List Env) (s : Shared) (H : Hp) (args : Args) (us : List Value) (vs : List V) (Q : VK) (E : XK), Room k A → Env0 P w K mg base A outer s H → BindsTo s fd args (ps.zip us) → Vals vs us → sp vs H Q E →
    codeAny (model P w) A (.call (.ref f) args) (CR CX outer P w H s Q E) s
theorem FnOk.mono {P : Program} {w : World} {K : PySem.W.Frag} {mg : Str → Option Value} {base : Heap} {CX : CXT} {j k : Nat} {f : Addr} {fd : FuncData} {ps : List Str} {sp : Sp} (F : FnOk P w K mg base CX j f fd ps sp) (h : j ≤ k) :
    FnOk P w K mg base CX k f fd ps sp := ⟨F.len, fun A outer s H args us vs Q E hr => F.run A outer s H args us vs Q E (hr.mono h)⟩

theorem FnOk.imp {P : Program} {w : World} {K : PySem.W.Frag} {mg : Str → Option Value} {base : Heap} {CX : CXT} {k : Nat} {f : Addr} {fd : FuncData} {ps : List Str} {sp sp' : Sp} (F : FnOk P w K mg base CX k f fd ps sp)
    (h : ∀ vs H Q E, sp' vs H Q E → sp vs H Q E) : FnOk P w K mg base CX k f fd ps sp' :=
  ⟨fun vs H Q E q => F.len vs H Q E (h _ _ _ _ q), fun A outer s H args us vs Q E hr he hb hv hs => F.run A outer s H args us vs Q E hr he hb hv (h _ _ _ _ hs)⟩

theorem Env0.make {P : Program} {w : World} {K : PySem.W.Frag} {mg : Str → Option Value} {base : Heap} {A : Around} {outer : List Env} {s : Shared} {H : Hp} (e : Env0 P w K mg base A outer s H) (C : Addr) (us : List Value) (kw : List (Str × Value)) :
    Env0 P w K mg base (A.under (.builtin "type.__call__" ⟨.ref C :: us, kw⟩)) outer s H := ⟨by first | exact e.frames | (simpa [Around.under, Code.envs, Code.isFrame, pushEnvs] using e.frames), e.mod, e.bs, e.bsz, e.funs, e.frf, e.hok, e.bare⟩
theorem Env0.in1 {P : Program} {w : World} {K : PySem.W.Frag} {mg : Str → Option Value} {base : Heap} {A : Around} {outer : List Env} {s : Shared} {H : Hp} (e : Env0 P w K mg base A outer s H) :
    Env0 P w K mg base A.in1 outer s H := ⟨e.frames, e.mod, e.bs, e.bsz, e.funs, e.frf, e.hok, e.bare⟩

section
variable {X : Cx} {pins : List (Addr × Obj)} {σ : St} {H : Hp} {s s' : Shared}

theorem Inv.env0 (I : Inv X pins σ H s) : Env0 X.prog X.w X.K X.mg X.base X.A X.stack s H :=
  ⟨I.ok.frames, I.ok.mod, I.bs, Nat.le_trans I.ok.bsz I.sz, I.stack, I.stkFree, I.hok, I.bare⟩

theorem Inv.after {Q : VK} {u : Value} (I : Inv X pins σ H s) (h : CE X.stack X.prog X.w H s Q u s') : EP X pins σ Q u s' := by
  obtain ⟨v, H', os, bare, un, hok, r, q⟩ := h
  obtain ⟨hh, g, d, t, os'⟩ := s'
  obtain rfl : os' = s.os := os
  exact ⟨v, H', I.call (h' := hh) (g' := g) (d' := d) (t' := t) (ch := []) un hok bare (fun b z => absurd z (by simp)), r, q⟩
end



def tCall (sp : Sp) (dvs : List V) (E : XK) (t : TA) : TE := fun σ H Q => t σ H fun vs H1 => sp (vs ++ dvs) H1 Q E

def Binds (K : PySem.W.Frag) (fd : FuncData) (ps : List Str) (ds : List Value) : Prop :=
  ∀ (s : Shared) (us : List Value), K.In s.heap → (us ++ ds).length = ps.length → BindsTo s fd ⟨us, []⟩ (ps.zip (us ++ ds))

theorem Binds.all {K : PySem.W.Frag} {fd : FuncData} {ps : List Str} (h : ∀ us : List Value, us.length = ps.length → bindArgs fd ⟨us, []⟩ = pure (ps.zip us)) : Binds K fd ps [] := fun s us _ hl => by
  rw [List.append_nil] at hl ⊢
  exact .of_eq (h us hl)


def Passes (CX : CXT) (X : Cx) (E : XK) : Prop := ∀ (pins : List (Addr × Obj)) (σ : St) (H : Hp) (s : Shared) (e : Value) (s' : Shared), Inv X pins σ H s → CX X.stack H s E e s' → X.xe e s'

section
variable {X : Cx} {CX : CXT} {k : Nat} {f C : Addr} {fd : FuncData} {ps : List Str} {sp : Sp} {dvs : List V} {ds : List Value} {E : XK} {x m : Str} {p pos apos : Pos} {e o : Expr} {es : List Expr} {ta : TE} {t : TA}


theorem run_fn {pins : List (Addr × Obj)} {σ : St} {H : Hp} {s : Shared} {Q : VK} {us : List Value} {vs : List V} (F : FnOk X.prog X.w X.K X.mg X.base CX k f fd ps sp) (hr : Room k X.A) (hb : Binds X.K fd ps ds) (hd : Vals dvs ds) (hx : Passes CX X E)
    (I : Inv X pins σ H s) (r : Vals vs us) (h : sp (vs ++ dvs) H Q E) : wpAny (model X.prog X.w) X.A (call (.ref f) us) (EP X pins σ Q) X.xe s := by
  have r2 : Vals (vs ++ dvs) (us ++ ds) := r.append hd
  have hl : (us ++ ds).length = ps.length := by rw [← r2.length]; exact F.len _ _ _ _ h
  refine wpAny_call (codeAny_mono (F.run X.A X.stack s H ⟨us, []⟩ (us ++ ds) (vs ++ dvs) Q E hr I.env0 (hb s us I.kIn hl) r2 h) fun r s' hq => ?_)
  cases r with
  | error e => exact hx pins σ H s e s' I hq
  | ok fl =>
    cases fl with
    | ret u => exact I.after hq
    | next => exact False.elim hq
    | brk => exact False.elim hq
    | cont => exact False.elim hq

theorem pe_call (F : FnOk X.prog X.w X.K X.mg X.base CX k f fd ps sp) (hr : Room k X.A) (hg : Gl X x) (hm : X.mg x = some (.ref f)) (hk : PySem.W.keepIn X.K (.ref f) = true) (hb : Binds X.K fd ps ds) (hd : Vals dvs ds) (hx : Passes CX X E)
    (ha : PA X (e :: es) t) (hdb : (x == ("__debug__" : Str)) = false := by decide) (he : starEach (e :: es) X.env = (false, eval e X.env) :: starEach es X.env := by rfl) (hpl : (backTo pos (starEach es X.env)).any (·.1) = false := by rfl) :
    PE X (.Call (.Name x p) (e :: es) [] pos) (tCall sp dvs E t) := by
  intro pins s σ H Q I h
  refine wpAny_Call_Name_kw (ld_glob I hg hm ?_ hdb)
  refine PySem.W.callWith_K (h₀ := X.base) I.ok.mod.kin hk (thn (ha pos pins s σ H _ I h) fun us s1 ⟨vs, H1, I1, r, q⟩ => ⟨I1.kIn, ?_⟩) he hpl
  exact run_fn F hr hb hd hx I1 r q
end



section
variable {X : Cx} {CX : CXT} {k : Nat} {f C : Addr} {fd : FuncData} {ps ks : List Str} {sp : Sp} {E : XK} {x m : Str} {p pos apos kpos : Pos} {e o : Expr} {es : List Expr} {kws : List Keyword} {te ta : TE} {t tk : TA} {nm : Option Str}
variable {g : List Value → List Value → List Value} {gV : List V → List V → List V}
end



structure FnScope (N P : List Str) (sc : Scope) : Prop where
  kind : sc.kind = .function
  co : sc.isCoroutine = false
  gen : sc.isGenerator = false
  nd : N.Nodup
  pre : N.take P.length = P
  par : ∀ x ∈ P, sc.names.lookup x = some .local ∨ sc.names.lookup x = some .cell
  nofree : ∀ y ∈ sc.names, y.2 ≠ .free

theorem bindL_out {kindOf : Str → Option NameKind} {x : Str} : ∀ {binds : List (Str × Value)} {m : Str → Option Value}, (∀ v, (x, v) ∉ binds) → bindL kindOf binds m x = m x
  | [], _, _ => rfl
  | (n, v) :: r, m, h => by
    unfold bindL
    rw [bindL_out fun w hw => h w (List.mem_cons_of_mem _ hw)]
    split
    · have : x ≠ n := by rintro rfl; exact h v List.mem_cons_self
      simp [this]
    · rfl
theorem bindC_out {kindOf : Str → Option NameKind} {x : Str} : ∀ {binds : List (Str × Value)} {m : Str → Option Value}, (∀ v, (x, v) ∉ binds) → bindC kindOf binds m x = m x
  | [], _, _ => rfl
  | (n, v) :: r, m, h => by
    unfold bindC
    rw [bindC_out fun w hw => h w (List.mem_cons_of_mem _ hw)]
    split
    · rfl
    · have : x ≠ n := by rintro rfl; exact h v List.mem_cons_self
      simp [this]
theorem bindL_get {kindOf : Str → Option NameKind} {x : Str} {v : Value} : ∀ {P : List Str} {vs : List Value} {i : Nat} {m : Str → Option Value}, P.Nodup → P[i]? = some x → vs[i]? = some v → kindOf x = some .local →
    bindL kindOf (P.zip vs) m x = some v
  | [], _, _, _, _, h, _, _ => by simp at h
  | _ :: _, [], _, _, _, _, h, _ => by simp at h
  | p :: P, w :: vs, 0, m, nd, h1, h2, hk => by
    simp at h1 h2; subst h1; subst h2
    show bindL kindOf ((p, w) :: P.zip vs) m p = _
    unfold bindL
    rw [bindL_out fun v hv => (List.nodup_cons.mp nd).1 (List.of_mem_zip hv).1, if_pos hk]
    simp
  | p :: P, w :: vs, i + 1, m, nd, h1, h2, hk => by
    show bindL kindOf ((p, w) :: P.zip vs) m x = _
    unfold bindL
    exact bindL_get (i := i) (List.nodup_cons.mp nd).2 (by simpa using h1) (by simpa using h2) hk
theorem bindC_get {kindOf : Str → Option NameKind} {x : Str} {v : Value} : ∀ {P : List Str} {vs : List Value} {i : Nat} {m : Str → Option Value}, P.Nodup → P[i]? = some x → vs[i]? = some v → kindOf x ≠ some .local →
    bindC kindOf (P.zip vs) m x = some v
  | [], _, _, _, _, h, _, _ => by simp at h
  | _ :: _, [], _, _, _, _, h, _ => by simp at h
  | p :: P, w :: vs, 0, m, nd, h1, h2, hk => by
    simp at h1 h2; subst h1; subst h2
    show bindC kindOf ((p, w) :: P.zip vs) m p = _
    unfold bindC
    rw [bindC_out fun v hv => (List.nodup_cons.mp nd).1 (List.of_mem_zip hv).1, if_neg hk]
    simp
  | p :: P, w :: vs, i + 1, m, nd, h1, h2, hk => by
    show bindC kindOf ((p, w) :: P.zip vs) m x = _
    unfold bindC
    exact bindC_get (i := i) (List.nodup_cons.mp nd).2 (by simpa using h1) (by simpa using h2) hk


def start (N : List Str) (vs : List V) : St := vs.map some ++ List.replicate (N.length - vs.length) none


def cxOf (CX : CXT) (P : Program) (w : World) (K : PySem.W.Frag) (mg : Str → Option Value) (base : Heap) (N : List Str) (qual : Str) (scope : Scope) (f : Addr) (cd : Value) (A : Around) (outer : List Env) (s : Shared) (H : Hp) (E : XK) : Cx where
  prog := P
  w := w
  K := K
  mg := mg
  base := base
  A := A.deeper (envOfC qual scope s.heap.objs.size f cd)
  N := N
  s₀ := s
  H₀ := H
  env := envOfC qual scope s.heap.objs.size f cd
  outer := outer
  stack := envOfC qual scope s.heap.objs.size f cd :: outer
  ex := []
  calm := true
  fn := fun _ => true
  pn := []
  xe := fun e s' => wpAny (model P w) (A.deeper (envOfC qual scope s.heap.objs.size f cd)) (leaving (envOfC qual scope s.heap.objs.size f cd) e) (fun _ s'' => CX outer H s E e s'') (fun e' s'' => CX outer H s E e' s'') s'

theorem cell_has {sc : Scope} {n : Nat} {x : Str} (h : sc.names.lookup x = some .cell) : ∃ c, (cellsFrom n sc.names []).lookup x = some c := by
  have q := PySem.W.cellsFrom_some sc.names n [] (.inl h)
  exact Option.isSome_iff_exists.mp q

theorem inv_start {CX : CXT} {P : Program} {w : World} {K : PySem.W.Frag} {mg : Str → Option Value} {base : Heap} {N ps : List Str} {qual : Str} {scope : Scope} {f : Addr} {cd : Value} {A : Around} {outer : List Env} {s s1 : Shared} {H : Hp} {E : XK} {us : List Value} {vs : List V}
    (S : FnScope N ps scope) (hd : A.handled = none) (e0 : Env0 P w K mg base A outer s H) (hl : vs.length = ps.length) (r : Vals vs us)
    (x : InCallC s s.heap.objs.size (bindL (envOfC qual scope s.heap.objs.size f cd).kindOf (ps.zip us) fun _ => none) (cellsFrom (s.heap.objs.size + 1) scope.names []) (bindC (envOfC qual scope s.heap.objs.size f cd).kindOf (ps.zip us) fun _ => none) s1) :
    Inv (cxOf CX P w K mg base N qual scope f cd A outer s H E) [] (start N vs) H s1 := by
  have hpl : ps.length ≤ N.length := by have := congrArg List.length S.pre; rw [List.length_take] at this; omega
  obtain ⟨h1, tk, rfl, hk⟩ := x.done
  have noA : ∀ b : Addr, b ∉ (cxOf CX P w K mg base N qual scope f cd A outer s H E).ex := fun b z => absurd (show b ∈ ([] : List Addr) from z) (by simp)
  refine ⟨⟨e0.mod, S.kind, rfl, rfl, Nat.le_refl _, fun y z c h1 h2 => ?_, fun y hy => ?_, fun y c _ h => ?_, fun _ => hd, Around.frames_deeper e0.frames, .inr ⟨rfl, rfl⟩, fun b z => absurd z (noA b), e0.bs, e0.bsz, fun b _ _ => noA b, fun b z => absurd z (noA b), e0.funs, e0.frf⟩,
    rfl, e0.bare, Un.kept hk, ⟨_, x.toInCall.ns, fun i y v h1 h2 h3 => ?_⟩, fun y c h => ⟨_, x.cell y c h⟩, e0.hok.fresh (Nat.le_refl _), fun y c h => ?_, fun p hp => absurd (show p ∈ ([] : List (Addr × Obj)) from hp) (by simp), e0.hok.kept hk, ?_⟩
  · exact name_of_addr x.apart (PySem.mem_of_lookup h1) (PySem.mem_of_lookup h2)
  · have hy : scope.names.lookup y = some .cell ∨ scope.names.lookup y = some .free := hy
    rcases hy with hy | hy
    · exact cell_has hy
    · exact absurd rfl (S.nofree _ (PySem.mem_of_lookup hy))
  · exact Nat.le_of_lt (x.above y c (PySem.mem_of_lookup h))
  · have hi : i < vs.length := by
      unfold start at h2
      by_cases hi : i < vs.length
      · exact hi
      · rw [List.getElem?_append_right (by simpa using hi)] at h2
        rw [List.getElem?_replicate] at h2
        split at h2 <;> cases h2
    have ha : vs[i]? = some v := by
      unfold start at h2
      rw [List.getElem?_append_left (by simpa using hi), List.getElem?_map] at h2
      cases e : vs[i]? with
      | none => rw [e] at h2; cases h2
      | some a => rw [e] at h2; cases h2; rfl
    obtain ⟨u, hu, rv⟩ := r.get ha
    have hp : ps[i]? = some y := by
      rw [← S.pre, List.getElem?_take_of_lt (by omega)]; exact h1
    have ndP : ps.Nodup := by rw [← S.pre]; exact S.nd.sublist (List.take_sublist _ _)
    refine ⟨u, rv, ?_⟩
    rcases S.par y (List.mem_of_getElem? hp) with k | k
    · exact .inl ⟨k, bindL_get ndP hp hu k⟩
    · obtain ⟨c, e⟩ := cell_has (n := s.heap.objs.size + 1) k
      refine .inr ⟨.inl k, c, e, ?_⟩
      have q := x.cell y c e
      rw [bindC_get ndP hp hu (by show scope.names.lookup y ≠ _; rw [k]; decide)] at q
      exact q
  · exact e0.hok.fresh (Nat.le_of_lt (x.above y c (PySem.mem_of_lookup h)))
  · unfold start
    show _ = N.length
    rw [List.length_append, List.length_map, List.length_replicate]
    omega


theorem fn_of {CX : CXT} {P : Program} {w : World} {K : PySem.W.Frag} {mg : Str → Option Value} {base : Heap} {k : Nat} {f : Addr} {name qual : Str} {params : Arguments} {body : List Stmt} {scope : Scope} {dV kV doc pm cdv ct oc : Value} {an od : Option Addr}
    {osl : Array (Option Value)} {N ps : List Str} {sp : Sp} (lk : K.lookup f = some ⟨oc, od, .func (PySem.W.fnOf name qual params body scope dV kV doc pm an cdv ct), osl⟩) (hcd : PySem.W.codeIn K cdv qual = true) (S : FnScope N ps scope)
    (len : ∀ vs H Q E, sp vs H Q E → vs.length = ps.length)
    (hbody : ∀ (A : Around) (outer : List Env) (s : Shared) (H : Hp) (vs : List V) (Q : VK) (E : XK), Room k (A.deeper (envOfC qual scope s.heap.objs.size f cdv)) → sp vs H Q E →
      ∃ t, PSs (cxOf CX P w K mg base N qual scope f cdv A outer s H E) body t ∧ t { nx := fun _ H' => Q .non H', rt := Q } (start N vs) H) :
    FnOk P w K mg base CX (k + 1) f (PySem.W.fnOf name qual params body scope dV kV doc pm an cdv ct) ps sp := by
  refine ⟨len, fun A outer s H args us vs Q E hr e0 hb r hsp => ?_⟩
  have hl := len _ _ _ _ hsp
  have KX : K.In s.heap := e0.mod.kin.keeps fun b o e => (e0.bs b o e).1
  have lim : s.heap.NoLimit := e0.mod.nolimit.keeps fun b o e => (e0.bs b o e).1
  have hkind : ∀ y ∈ ps.zip us, scope.names.lookup y.1 = some .local ∨ (scope.names.lookup y.1 = some .cell ∧ ((cellsFrom (s.heap.objs.size + 1) scope.names []).lookup y.1).isSome = true) := fun ⟨n, v⟩ hy => by
    rcases S.par n (List.of_mem_zip hy).1 with q | q
    · exact .inl q
    · exact .inr ⟨q, PySem.W.cellsFrom_some _ _ _ (.inl q)⟩
  refine codeAny_call_function hr.depth (KX _ _ lk) rfl S.co S.gen rfl (PySem.W.codeRec_of KX hcd) (hb _ _ _ _ ?_)
  refine wpAny_newFunctionEnv_cells S.kind hkind fun env he s1 x => ?_
  subst he
  refine ⟨lim.keeps x.toInCall.keep, codeAny_func ?_⟩
  obtain ⟨t, ht, hq⟩ := hbody A outer s H vs Q E (hr.deeper _) hsp
  have I : Inv (cxOf CX P w K mg base N qual scope f cdv A outer s H E) [] (start N vs) H s1 := inv_start S hr.hd e0 hl r x
  refine wpAny_mono (ht [] s1 (start N vs) H _ I hq) (fun fl s' hs => ?_) fun e s' hs => hs
  have fin : ∀ {σ' : St} {H' : Hp} {v : V} {u : Value}, Inv (cxOf CX P w K mg base N qual scope f cdv A outer s H E) [] σ' H' s' → RelV v u → Q v H' → CE outer P w H s Q u s' :=
    fun {σ' H' v u} J rv q => ⟨v, H', J.os, J.bare, J.base, J.hok, rv, q⟩
  cases fl with
  | ret u =>
    obtain ⟨v, σ', H', J, rv, q⟩ := hs
    exact fin J rv q
  | next =>
    obtain ⟨σ', H', J, q⟩ := hs
    exact fin (v := V.non) (u := Value.none) J rfl q
  | brk =>
    obtain ⟨_, _, _, q⟩ := hs
    exact False.elim q
  | cont =>
    obtain ⟨_, _, _, q⟩ := hs
    exact False.elim q
end L2

namespace L2
open PySem PySem.Spec PyProof.Rows
section
variable {X : Cx} {x : Str} {p pos : Pos} {e : Expr} {es : List Expr} {t : TA} {id T : String} {r : List V → Hp → VK → Prop}

def tCB (r : List V → Hp → VK → Prop) (t : TA) : TE := fun σ H Q => t σ H fun vs H1 => r vs H1 Q

theorem pe_callB (hc : CallR X (.builtin id) r) (hg : Gl X x) (hm : X.mg x = none) (hv : bootBuiltins x = some (.builtin id)) (ha : PA X (e :: es) t) (hn : x ≠ "__name__" := by decide) (hdb : (x == ("__debug__" : Str)) = false := by decide)
    (he : starEach (e :: es) X.env = (false, eval e X.env) :: starEach es X.env := by rfl) (hpl : (backTo pos (starEach es X.env)).any (·.1) = false := by rfl) : PE X (.Call (.Name x p) (e :: es) [] pos) (tCB r t) := by
  intro pins s σ H Q I h
  refine wpAny_Call_Name_kw (ld_blt I hg hm hv ?_ hn hdb)
  exact PyProof.Rows.callWith_builtin1 (thn (ha pos pins s σ H _ I h) fun us s1 ⟨vs, H1, I1, r1, q1⟩ => hc pins s1 σ H1 vs us Q I1 r1 q1) he hpl

theorem pe_callTy (hc : CallR X (.type T) r) (hg : Gl X x) (hm : X.mg x = none) (hv : bootBuiltins x = some (.type T)) (ha : PA X (e :: es) t) (hn : x ≠ "__name__" := by decide) (hdb : (x == ("__debug__" : Str)) = false := by decide)
    (he : starEach (e :: es) X.env = (false, eval e X.env) :: starEach es X.env := by rfl) (hpl : (backTo pos (starEach es X.env)).any (·.1) = false := by rfl) : PE X (.Call (.Name x p) (e :: es) [] pos) (tCB r t) := by
  intro pins s σ H Q I h
  refine wpAny_Call_Name_kw (ld_blt I hg hm hv ?_ hn hdb)
  exact PyProof.Rows.callWith_type1 (thn (ha pos pins s σ H _ I h) fun us s1 ⟨vs, H1, I1, r1, q1⟩ => hc pins s1 σ H1 vs us Q I1 r1 q1) he hpl

end
end L2

namespace HT
open PySem PyProof.Rows


section
open PySem.SeqAt
open PySem.AutoSeq1 (wpAny_loadPart')
open PySem.MeetsSeq PySem.MeetsSeq2 PySem.MeetsSeq3

end

section
variable {prog : Program} {w : World} {A : Around} {E : Value → Shared → Prop} {s : Shared}

def sIx (n d : Nat) : Option Int → Nat
  | none => d
  | some v => if v < 0 then (v + (n : Int)).toNat else min v.toNat n
theorem sIx_none (n d : Nat) : sIx n d none = d := rfl
theorem sIx_nat (n d k : Nat) : sIx n d (some (k : Int)) = min k n := by
  show (if (k : Int) < 0 then ((k : Int) + (n : Int)).toNat else min (k : Int).toNat n) = min k n
  rw [if_neg (by omega), Int.toNat_natCast]
theorem sIx_le (n d : Nat) (hd : d ≤ n) (o : Option Int) : sIx n d o ≤ n := by
  cases o with
  | none => exact hd
  | some v =>
    show (if v < 0 then (v + (n : Int)).toNat else min v.toNat n) ≤ n
    by_cases hv : v < 0
    · rw [if_pos hv]; omega
    · rw [if_neg hv]; exact Nat.min_le_right _ _
end
end HT

namespace L2
open PySem PySem.Spec PyProof.Rows


abbrev TO := St → Hp → (Option Int → Hp → Prop) → Prop

def PO (X : Cx) (e : Option Expr) (t : TO) : Prop :=
  ∀ (pins : List (Addr × Obj)) (s : Shared) (σ : St) (H : Hp) (Q : Option Int → Hp → Prop), Inv X pins σ H s → t σ H Q →
    wpAny (model X.prog X.w) X.A (evalPart e X.env) (fun u s' => ∃ o H', Inv X pins σ H' s' ∧ IsPart u o ∧ Q o H') X.xe s
def tNoPart : TO := fun _ H Q => Q none H
def tPart (t : TE) : TO := fun σ H Q => t σ H fun x H1 => ∃ i, x = .int i ∧ Q (some i) H1

section
variable {X : Cx} {e : Expr} {te : TE} {lo hi : Option Expr} {tl th : TO} {pos p2 : Pos}

theorem po_none : PO X none tNoPart := by
  intro pins s σ H Q I h
  rw [evalPart_none]
  exact wpAny_pure ⟨none, H, I, .none, h⟩
theorem po_some (h : PE X e te) : PO X (some e) (tPart te) := by
  intro pins s σ H Q I hw
  rw [evalPart_some]
  refine thn (h pins s σ H _ I hw) fun u s1 ⟨x, H1, I1, r1, q1⟩ => ?_
  obtain ⟨i, rfl, q⟩ := q1
  obtain ⟨t, rfl⟩ := r1
  exact ⟨some i, H1, I1, .int i t, q⟩


def SlR (X : Cx) (r : V → Option Int → Option Int → Hp → VK → Prop) : Prop :=
  ∀ (pins : List (Addr × Obj)) (s : Shared) (σ : St) (H : Hp) (x : V) (v vl vu : Value) (lo hi : Option Int) (sl : Addr) (Q : VK), Inv X pins σ H s → RelV x v → s.heap.IsSliceOf sl vl vu .none → IsPart vl lo → IsPart vu hi → r x lo hi H Q →
    ∃ T id, typeLookup (.type T) "__getitem__" = pure (some (.builtin id)) ∧ s.TypeIs v T ∧ wpAny (model X.prog X.w) X.A (getItem v (.ref sl)) (EP X pins σ Q) X.xe s
theorem SlR.or {r r' : V → Option Int → Option Int → Hp → VK → Prop} (h : SlR X r) (h' : SlR X r') : SlR X (fun x lo hi H Q => r x lo hi H Q ∨ r' x lo hi H Q) := by
  intro pins s σ H x v vl vu lo hi sl Q I rx hs pl pu q
  rcases q with q | q
  · exact h pins s σ H x v vl vu lo hi sl Q I rx hs pl pu q
  · exact h' pins s σ H x v vl vu lo hi sl Q I rx hs pl pu q
def tSl (r : V → Option Int → Option Int → Hp → VK → Prop) (te : TE) (tl th : TO) : TE := fun σ H Q => te σ H fun x H1 => tl σ H1 fun l H2 => th σ H2 fun u H3 => r x l u H3 Q

theorem pe_slice {r : V → Option Int → Option Int → Hp → VK → Prop} (hr : SlR X r) (he : PE X e te) (hl : PO X lo tl) (hu : PO X hi th) : PE X (.Subscript e (.Slice lo hi none p2) pos) (tSl r te tl th) := by
  intro pins s σ H Q I h
  refine Subscript_ (thn (he pins s σ H _ I h) fun v s1 ⟨x, H1, I1, r1, q1⟩ => ?_)
  refine wpAny_Slice (thn (hl pins s1 σ H1 _ I1 q1) fun vl s2 ⟨l, H2, I2, pl, q2⟩ => thn (hu pins s2 σ H2 _ I2 q2) fun vu s3 ⟨u, H3, I3, pu, q3⟩ => ?_)
  rw [evalPart_none]
  refine wpAny_pure ?_
  have I4 : Inv X pins σ H3 { s3 with heap := s3.heap.push { cls := .type "slice", data := .fields #[vl, vu, .none] } } := I3.kept (t' := s3.toks) fun b ob q => Heap.get?_push_of_some _ q
  obtain ⟨T, id, hT, ht, hg⟩ := hr pins { s3 with heap := s3.heap.push { cls := .type "slice", data := .fields #[vl, vu, .none] } } σ H3 x v vl vu l u s3.heap.objs.size Q I4 r1 (Heap.IsSliceOf.new ..) pl pu q3
  show wpAny (model X.prog X.w) X.A (subscriptTail e (.Slice lo hi none p2) v (.ref s3.heap.objs.size)) (EP X pins σ Q) X.xe { s3 with heap := s3.heap.push { cls := .type "slice", data := .fields #[vl, vu, .none] } }
  exact tail_any (ops := [.ref s3.heap.objs.size, v]) ht hT hg (by with_unfolding_all rfl)


def cutV (xs : List V) (lo hi : Option Int) : List V := (xs.drop (HT.sIx xs.length 0 lo)).take (HT.sIx xs.length xs.length hi - HT.sIx xs.length 0 lo)
theorem cutV_length (xs : List V) (lo hi : Option Int) : (cutV xs lo hi).length ≤ xs.length := by
  unfold cutV
  rw [List.length_take, List.length_drop]
  omega

end
end L2

namespace L2
open PySem PySem.Spec PyProof.Rows



def ixN (n : Nat) (i : Int) : Option Nat := if 0 ≤ i then (if i < n then some i.toNat else none) else if -(n : Int) ≤ i then some (i + n).toNat else none
def atI {α : Type} (xs : List α) (i : Int) : Option α := (ixN xs.length i).bind fun j => xs[j]?
theorem ixN_seq {n : Nat} {i : Int} {j : Nat} (h : ixN n i = some j) : seqIndex? i n = some j ∧ j < n ∧ -(n : Int) ≤ i ∧ i < n := by
  unfold ixN at h
  by_cases h0 : 0 ≤ i
  · rw [if_pos h0] at h
    by_cases h1 : i < n
    · rw [if_pos h1] at h
      have e : i.toNat = j := Option.some.inj h
      exact ⟨by rw [seqIndex_of h0 h1, e], by omega, by omega, h1⟩
    · rw [if_neg h1] at h; cases h
  · rw [if_neg h0] at h
    by_cases h1 : -(n : Int) ≤ i
    · rw [if_pos h1] at h
      have e : (i + n).toNat = j := Option.some.inj h
      exact ⟨by rw [seqIndex_neg (by omega) h1, e], by omega, h1, by omega⟩
    · rw [if_neg h1] at h; cases h
theorem atI_get {α : Type} {xs : List α} {i : Int} {v : α} (h : atI xs i = some v) : ∃ j, seqIndex? i xs.length = some j ∧ xs[j]? = some v ∧ j < xs.length ∧ -(xs.length : Int) ≤ i ∧ i < xs.length := by
  unfold atI at h
  cases e : ixN xs.length i with
  | none => rw [e] at h; cases h
  | some j =>
    rw [e] at h
    obtain ⟨h1, h2, h3, h4⟩ := ixN_seq e
    exact ⟨j, h1, h, h2, h3, h4⟩
theorem atI_nat {α : Type} {xs : List α} {j : Nat} {v : α} (h : xs[j]? = some v) : atI xs (j : Int) = some v := by
  have hj : j < xs.length := (List.getElem?_eq_some_iff.mp h).1
  have e : ixN xs.length (j : Int) = some j := by
    unfold ixN
    rw [if_pos (by omega), if_pos (by omega)]; simp
  unfold atI; rw [e]; exact h
def PlainIx (b : Expr) : Prop := ∀ o i, subscripted b false o i = operate [o, i] (getItem o i)

def IxR (X : Cx) (r : R2) : Prop :=
  ∀ (value slice : Expr) (pins : List (Addr × Obj)) (s : Shared) (σ : St) (H : Hp) (x y : V) (v u : Value) (Q : VK), Inv X pins σ H s → RelV x v → RelV y u → r x y H Q →
    subscripted slice false v u = operate [v, u] (getItem v u) → wpAny (model X.prog X.w) X.A (subscriptTail value slice v u) (EP X pins σ Q) X.xe s

def MtR (X : Cx) (id : String) (r : V → List V → Hp → VK → Prop) : Prop :=
  ∀ (pins : List (Addr × Obj)) (s : Shared) (σ : St) (H : Hp) (x : V) (xs : List V) (v : Value) (us : List Value) (Q : VK), Inv X pins σ H s → RelV x v → Vals xs us → r x xs H Q →
    wpAny (model X.prog X.w) X.A (call (.builtin id) (v :: us)) (EP X pins σ Q) X.xe s
section
variable {X : Cx} {a b : Expr} {ta tb : TE} {pos : Pos}
theorem IxR.or {r r' : R2} (h : IxR X r) (h' : IxR X r') : IxR X (fun x y H Q => r x y H Q ∨ r' x y H Q) := by
  intro value slice pins s σ H x y v u Q I rx ry q hs
  rcases q with q | q
  · exact h value slice pins s σ H x y v u Q I rx ry q hs
  · exact h' value slice pins s σ H x y v u Q I rx ry q hs
theorem MtR.or {id : String} {r r' : V → List V → Hp → VK → Prop} (h : MtR X id r) (h' : MtR X id r') : MtR X id (fun x xs H Q => r x xs H Q ∨ r' x xs H Q) := by
  intro pins s σ H x xs v us Q I rx rs q
  rcases q with q | q
  · exact h pins s σ H x xs v us Q I rx rs q
  · exact h' pins s σ H x xs v us Q I rx rs q

theorem pe_ix {r : R2} (hr : IxR X r) (ha : PE X a ta) (hb : PE X b tb) (hs : PlainIx b) : PE X (.Subscript a b pos) (tOp r ta tb) := by
  intro pins s σ H Q I h
  exact Subscript_ (binT ha hb I h fun v u s2 x y H2 I2 rx ry q => hr a b pins s2 σ H2 x y v u Q I2 rx ry q (hs _ _))

def rIxL (K : PySem.W.Frag) : R2 := fun x y H Q => ∃ p xs i v, x = .ref p ∧ y = .int i ∧ SqL K H p xs ∧ atI xs i = some v ∧ Q v H
def rIxT (K : PySem.W.Frag) : R2 := fun x y H Q => ∃ p xs i v, x = .ref p ∧ y = .int i ∧ SqT K H p xs ∧ atI xs i = some v ∧ Q v H
def rIxS : R2 := fun x y H Q => ∃ z i c, x = .str z ∧ y = .int i ∧ z.length ≤ sizeLine ∧ atI z.cps.toList i = some c ∧ Q (.str ⟨#[c]⟩) H
theorem ix_list : IxR X (rIxL X.K) := by
  intro value slice pins s σ H x y v u Q I rx ry h hs
  obtain ⟨p, xs, i, z, rfl, rfl, hq, he, q⟩ := h
  cases rx
  obtain ⟨t, rfl⟩ := ry
  obtain ⟨its, r, pl, hz⟩ := I.list hq
  obtain ⟨j, h1, h2, h3, h4, h5⟩ := atI_get he
  obtain ⟨w, ew, rw'⟩ := r.get h2
  have hl := r.length
  have hn := line63
  have fin : EP X pins σ Q w s := ⟨z, H, I, rw', q⟩
  by_cases h0 : 0 ≤ i
  · have hj : i.toNat = j := by
      rw [seqIndex_of h0 h5] at h1
      exact Option.some.inj h1
    exact item_listR pl.isList h0 (by omega) (by rw [hj]; simpa using ew) fin hs
  · have hj : (i + (its.toArray.size : Int)).toNat = j := by
      rw [seqIndex_neg (by omega) h4] at h1
      rw [List.size_toArray, ← hl]
      exact Option.some.inj h1
    exact subscriptTail_builtinR (x := w) pl.isList.typeIs slot_list_getitem.lookup
      (wpAny_getItem_list_neg (Q := fun r s' => r = w ∧ EP X pins σ Q r s') pl.isList (by omega) (by rw [List.size_toArray] <;> omega) (by omega) (by rw [hj]; simpa using ew) ⟨rfl, fin⟩) hs
theorem ix_tup : IxR X (rIxT X.K) := by
  intro value slice pins s σ H x y v u Q I rx ry h hs
  obtain ⟨p, xs, i, z, rfl, rfl, hq, he, q⟩ := h
  cases rx
  obtain ⟨t, rfl⟩ := ry
  obtain ⟨its, r, pl, hz⟩ := I.tuple hq
  obtain ⟨j, h1, h2, h3, h4, h5⟩ := atI_get he
  obtain ⟨w, ew, rw'⟩ := r.get h2
  have hl := r.length
  have hn := line63
  have fin : EP X pins σ Q w s := ⟨z, H, I, rw', q⟩
  exact subscriptTail_builtinR (x := w) pl.typeIs slot_tuple_getitem.lookup
    (getItem_tuple (j := j) (Q := fun r s' => r = w ∧ EP X pins σ Q r s') pl (by omega) (by omega) (by rw [List.size_toArray, ← hl]; exact h1) (by simpa using ew) ⟨rfl, fin⟩) hs
theorem ix_str : IxR X rIxS := by
  intro value slice pins s σ H x y v u Q I rx ry h hs
  obtain ⟨z, i, c, rfl, rfl, hz, he, q⟩ := h
  obtain ⟨t, rfl⟩ := rx
  obtain ⟨t', rfl⟩ := ry
  obtain ⟨j, h1, h2, h3, h4, h5⟩ := atI_get he
  have hl : z.cps.toList.length = z.length := by simp [Str.length]
  rw [hl] at h1 h4 h5
  have hn := line63
  exact tail_any (typeIs_str s z t) slot_str_getitem.lookup (getItem_str (c := c) (by
    have e1 : decide (i < -(2 ^ 63 : Int)) = false := decide_eq_false (by omega)
    have e2 : decide (i ≥ 2 ^ 63) = false := decide_eq_false (by omega)
    rw [e1, e2, Bool.or_false]) (by rw [h1]; simpa using h2) ⟨.str ⟨#[c]⟩, H, I.tok _, ⟨_, rfl⟩, q⟩) hs

theorem Inv.lst {pins : List (Addr × Obj)} {σ : St} {H : Hp} {s : Shared} {p : Addr} {xs : List V} (I : Inv X pins σ H s) (h : H p = some (.lst xs)) :
    ∃ (its : List Value) (n : Nat), Vals xs its ∧ s.heap.get? p = some { cls := .type "list", data := .seq its.toArray n } ∧ xs.length ≤ sizeLine := by
  obtain ⟨z, its, n, r, e⟩ := I.hok p _ h
  exact ⟨its, n, r, e, z⟩

def rSetL : V → V → V → Hp → (Hp → Prop) → Prop := fun o i v H Q => ∃ p xs k j, o = .ref p ∧ i = .int k ∧ H p = some (.lst xs) ∧ ixN xs.length k = some j ∧ Q (upd H p (.lst (xs.set j v)))
theorem slice_bounds (lo hi : Option Int) (n : Nat) : (sliceBounds lo hi none n).1 = ((HT.sIx n 0 lo : Nat) : Int) ∧ (sliceBounds lo hi none n).2.1 = ((HT.sIx n n hi : Nat) : Int) ∧ (sliceBounds lo hi none n).2.2 = 1 := by
  refine ⟨?_, ?_, rfl⟩
  · cases lo with
    | none => simp [sliceBounds, HT.sIx]
    | some i =>
      simp only [sliceBounds, HT.sIx, Option.getD_none, show (1 : Int) > 0 by decide, if_true]
      by_cases h : i < 0
      · simp only [h, if_true] <;> omega
      · simp only [h, if_false] <;> omega
  · cases hi with
    | none => simp [sliceBounds, HT.sIx]
    | some i =>
      simp only [sliceBounds, HT.sIx, Option.getD_none, show (1 : Int) > 0 by decide, if_true]
      by_cases h : i < 0
      · simp only [h, if_true] <;> omega
      · simp only [h, if_false] <;> omega
theorem slicePick_cut (its : List Value) (lo hi : Option Int) : slicePick its.toArray lo hi none = ((its.drop (HT.sIx its.length 0 lo)).take (HT.sIx its.length its.length hi - HT.sIx its.length 0 lo)).toArray := by
  obtain ⟨h1, h2, h3⟩ := slice_bounds lo hi its.toArray.size
  unfold slicePick
  rw [h1, h2, h3]
  simp only [sliceRange_one, pick_run, List.size_toArray] <;> rfl

def rSlL (K : PySem.W.Frag) : V → Option Int → Option Int → Hp → VK → Prop := fun x lo hi H Q => ∃ a xs, x = .ref a ∧ SqL K H a xs ∧ ∀ p, H p = none → Q (.ref p) (upd H p (.lst (cutV xs lo hi)))
theorem sl_list : SlR X (rSlL X.K) := by
  intro pins s σ H x v vl vu lo hi sl Q I rx hs pl pu h
  obtain ⟨a, xs, rfl, hx, q⟩ := h
  cases rx
  obtain ⟨its, r, ht, hz⟩ := I.list hx
  have hlen := r.length
  refine ⟨"list", _, slot_list_getitem.lookup, ht.isList.typeIs, ?_⟩
  refine wpAny_getItem_list_slice ht.isList hs pl pu .none (by simp) ?_ (by rw [List.size_toArray] <;> omega)
  rw [slicePick_cut, ← hlen]
  refine ⟨.ref s.heap.objs.size, _, I.laid (t' := s.toks) (o := .lst (cutV xs lo hi)) (fun b ob q => Heap.get?_push_of_some _ q) (Nat.le_refl _) ?_, rfl, q _ (I.hok.fresh (Nat.le_refl _))⟩
  exact ⟨Nat.le_trans (cutV_length xs lo hi) hz, _, 0, (r.drop (HT.sIx xs.length 0 lo)).take (HT.sIx xs.length xs.length hi - HT.sIx xs.length 0 lo), Heap.get?_push_size _ rfl⟩


def flatV : V → Bool
  | .non => true
  | .bl _ => true
  | .int _ => true
  | .str _ => true
  | _ => false

def eqV : V → V → Bool
  | .non, .non => true
  | .bl a, .bl b => a == b
  | .bl a, .int b => (if a then 1 else 0) == b
  | .int a, .bl b => a == (if b then 1 else 0)
  | .int a, .int b => a == b
  | .str a, .str b => a == b
  | _, _ => false
theorem eqAt_V {A : Around} {s : Shared} {y x : V} {u v : Value} (ry : RelV y u) (rx : RelV x v) (fy : flatV y = true) (fx : flatV x = true) : SeqAt.EqAt A s u v (eqV y x) := by
  cases y with
  | non =>
    cases ry
    cases x with
    | non => cases rx; exact SeqAt.EqAt.same _
    | bl b => cases rx; exact SeqAt.EqAt.none_bool b
    | int b => obtain ⟨t, rfl⟩ := rx; exact SeqAt.EqAt.none_int b t
    | str b => obtain ⟨t, rfl⟩ := rx; exact SeqAt.EqAt.none_str b t
    | _ => exact absurd (show false = true from fx) Bool.false_ne_true
  | bl a =>
    cases ry
    cases x with
    | non => cases rx; exact SeqAt.EqAt.bool_none a
    | bl b => cases rx; exact SeqAt.EqAt.bool_bool a b
    | int b => obtain ⟨t, rfl⟩ := rx; exact SeqAt.EqAt.bool_int a b t
    | str b => obtain ⟨t, rfl⟩ := rx; exact SeqAt.EqAt.bool_str a b t
    | _ => exact absurd (show false = true from fx) Bool.false_ne_true
  | int a =>
    obtain ⟨t', rfl⟩ := ry
    cases x with
    | non => cases rx; exact SeqAt.EqAt.int_none a t'
    | bl b => cases rx; exact SeqAt.EqAt.int_bool a t' b
    | int b => obtain ⟨t, rfl⟩ := rx; exact SeqAt.EqAt.int_int a t' b t
    | str b => obtain ⟨t, rfl⟩ := rx; exact SeqAt.EqAt.int_str a t' b t
    | _ => exact absurd (show false = true from fx) Bool.false_ne_true
  | str a =>
    obtain ⟨t', rfl⟩ := ry
    cases x with
    | non => cases rx; exact SeqAt.EqAt.str_none a t'
    | bl b => cases rx; exact SeqAt.EqAt.str_bool a t' b
    | int b => obtain ⟨t, rfl⟩ := rx; exact SeqAt.EqAt.str_int a t' b t
    | str b => obtain ⟨t, rfl⟩ := rx; exact SeqAt.EqAt.str_str a t' b t
    | _ => exact absurd (show false = true from fx) Bool.false_ne_true
  | _ => exact absurd (show false = true from fy) Bool.false_ne_true

def inV (x : V) (xs : List V) : Bool := xs.any fun y => eqV y x

def rIn (K : PySem.W.Frag) (neg : Bool) : R2 := fun x y H Q => ∃ p xs, y = .ref p ∧ (SqL K H p xs ∨ SqT K H p xs) ∧ flatV x = true ∧ xs.all flatV = true ∧ Q (.bl (if neg then !inV x xs else inV x xs)) H
theorem call_len_seq : CallR X (.builtin "len") (fun xs H Q => ∃ p ys, xs = [.ref p] ∧ (SqL X.K H p ys ∨ SqT X.K H p ys) ∧ Q (.int ys.length) H) := by
  intro pins s σ H xs us Q I r h
  obtain ⟨p, ys, rfl, hq, q⟩ := h
  obtain ⟨u, rfl, rx⟩ := vals1 r
  cases rx
  have hn := line63
  rcases hq with hq | hq
  · obtain ⟨its, r', pl, hz⟩ := I.list hq
    have hlen := r'.length
    exact Calls.call_len_list pl.isList (by simp only [List.size_toArray] <;> omega) ⟨.int ys.length, H, I.tok _, ⟨s.toks + 1, by rw [List.size_toArray, hlen]⟩, q⟩
  · obtain ⟨its, r', pl, hz⟩ := I.tuple hq
    have hlen := r'.length
    exact len_tuple pl (by simp only [List.size_toArray] <;> omega) ⟨.int ys.length, H, I.tok _, ⟨s.toks + 1, by rw [List.size_toArray, hlen]⟩, q⟩
theorem call_len_str : CallR X (.builtin "len") (fun xs H Q => ∃ z, xs = [.str z] ∧ z.length ≤ sizeLine ∧ Q (.int z.length) H) := by
  intro pins s σ H xs us Q I r h
  obtain ⟨z, rfl, hz, q⟩ := h
  obtain ⟨u, rfl, t, rfl⟩ := vals1 r
  have hn := line63
  exact len_str (by omega) ⟨.int z.length, H, I.tok _, ⟨_, rfl⟩, q⟩
theorem CallR.or {f : Value} {r r' : List V → Hp → VK → Prop} (h : CallR X f r) (h' : CallR X f r') : CallR X f (fun xs H Q => r xs H Q ∨ r' xs H Q) := by
  intro pins s σ H xs us Q I rs q
  rcases q with q | q
  · exact h pins s σ H xs us Q I rs q
  · exact h' pins s σ H xs us Q I rs q
def tyV (K : PySem.W.Frag) (T : String) (x : V) (H : Hp) : Prop := match x with
  | .str _ => T = "str"
  | .int _ => T = "int"
  | .ref p => (T = "list" ∧ ∃ xs, SqL K H p xs) ∨ (T = "tuple" ∧ ∃ o, K.lookup p = some o ∧ o.cls = .type "tuple" ∧ o.dict = none) ∨
      (T = "dict" ∧ ((∃ kvs, H p = some (.dK kvs)) ∨ ∃ kvs, H p = some (.dT kvs))) ∨ (T = "set" ∧ ∃ S n, H p = some (.set S n))
  | _ => False
theorem tyV_is {pins : List (Addr × Obj)} {σ : St} {H : Hp} {s : Shared} {T : String} {x : V} {v : Value} (I : Inv X pins σ H s) (r : RelV x v) (ty : tyV X.K T x H) :
    s.TypeIs v T ∧ ∀ a, v = .ref a → ∃ ob, s.heap.get? a = some ob ∧ ob.dict = none := by
  cases x with
  | str z =>
    obtain ⟨t, rfl⟩ := r
    cases (show T = "str" from ty)
    exact ⟨typeIs_str s z t, fun _ e => nomatch e⟩
  | int i =>
    obtain ⟨t, rfl⟩ := r
    cases (show T = "int" from ty)
    exact ⟨typeIs_int s i t, fun _ e => nomatch e⟩
  | ref p =>
    cases r
    rcases ty with ⟨rfl, xs, hq⟩ | ⟨rfl, o, hk, hc, hd⟩ | ⟨rfl, hk⟩ | ⟨rfl, S, n, hk⟩
    · obtain ⟨its, _, pl, _⟩ := I.list hq
      refine ⟨pl.isList.typeIs, fun a e => ?_⟩
      cases e
      obtain ⟨o, n, e, c, hd, _⟩ := pl
      exact ⟨o, e, hd⟩
    · refine ⟨⟨o, I.kIn p o hk, hc⟩, fun a e => ?_⟩
      cases e
      exact ⟨o, I.kIn _ o hk, hd⟩
    · have z : ∃ o, s.heap.get? p = some o ∧ o.ExactDict := by
        rcases hk with ⟨kvs, hk⟩ | ⟨kvs, hk⟩
        · obtain ⟨_, _, _, _, o, _, _, e, ex, _⟩ := I.hok p _ hk
          exact ⟨o, e, ex⟩
        · obtain ⟨_, _, _, _, o, _, _, e, ex, _⟩ := I.hok p _ hk
          exact ⟨o, e, ex⟩
      obtain ⟨o, e, ex⟩ := z
      refine ⟨⟨o, e, ex.1⟩, fun a e2 => ?_⟩
      cases e2
      exact ⟨o, e, ex.2.1⟩
    · obtain ⟨o, _, _, _, e, ex, _⟩ := I.hok p _ hk
      refine ⟨⟨o, e, ex.1⟩, fun a e2 => ?_⟩
      cases e2
      exact ⟨o, e, ex.2.1⟩
  | _ => exact False.elim ty
def tBM0 (K : PySem.W.Frag) (T : String) (r : V → List V → Hp → VK → Prop) (to : TE) : TE := fun σ H Q => to σ H fun x H1 => tyV K T x H1 ∧ r x [] H1 Q
def tBM (K : PySem.W.Frag) (T : String) (r : V → List V → Hp → VK → Prop) (to : TE) (t : TA) : TE := fun σ H Q => to σ H fun x H1 => tyV K T x H1 ∧ t σ H1 fun xs H2 => r x xs H2 Q
variable {o e : Expr} {es : List Expr} {to : TE} {t : TA} {name : Str} {apos cpos : Pos} {T id : String} {r : V → List V → Hp → VK → Prop}
theorem pe_bm0 (pa : PlainAttrs T) (slot : Slot T name id) (hty : typeOf (.builtin id) = pure (.type "method_descriptor")) (hm : MtR X id r) (ho : PE X o to)
    (hbase : attributeBase o name X.env (eval o X.env) = eval o X.env := by rfl) (hline : (apos.endLine == cpos.line) = true := by rfl) : PE X (.Call (.Attribute o name apos) [] [] cpos) (tBM0 X.K T r to) := by
  intro pins s σ H Q I h
  refine wpAny_Call_method0_late hbase hline (thn (ho pins s σ H _ I h) fun v s1 ⟨x, H1, I1, r1, ty, q1⟩ => ?_)
  obtain ⟨h1, h2⟩ := tyV_is I1 r1 ty
  exact ⟨T, id, pa, slot, hty, h1, h2, Calls.callWith_builtin rfl (PySem.evalArgs_none (hm pins s1 σ H1 x [] v [] Q I1 r1 .nil q1))⟩
theorem pe_bm (pa : PlainAttrs T) (slot : Slot T name id) (hty : typeOf (.builtin id) = pure (.type "method_descriptor")) (hm : MtR X id r) (ho : PE X o to) (ha : PA X (e :: es) t)
    (hbase : attributeBase o name X.env (eval o X.env) = eval o X.env := by rfl)
    (hfew : ((backTo cpos (starEach (e :: es) X.env)).all (fun x => !x.1) && (backToKw cpos (keywordEach [] X.env)).all (fun x => x.1.isSome)
      && decide ((e :: es).length + ([] : List Keyword).length + (if ([] : List Keyword).isEmpty then 0 else 1) < 30)) = true := by rfl)
    (hline : (apos.endLine == cpos.line) = true := by rfl) (hs : starEach (e :: es) X.env = (false, eval e X.env) :: starEach es X.env := by rfl) (hplain : (backTo cpos (starEach es X.env)).any (·.1) = false := by rfl) :
    PE X (.Call (.Attribute o name apos) (e :: es) [] cpos) (tBM X.K T r to t) := by
  intro pins s σ H Q I h
  refine wpAny_Call_method_late hbase hfew hline rfl (thn (ho pins s σ H _ I h) fun v s1 ⟨x, H1, I1, r1, ty, q1⟩ => ?_)
  obtain ⟨h1, h2⟩ := tyV_is I1 r1 ty
  refine ⟨T, id, pa, slot, hty, h1, h2, ?_⟩
  have hA := ha cpos pins s1 σ H1 _ I1 q1
  rw [hs] at hA ⊢
  refine Calls.callWith_builtin (by show (false || (backTo cpos (starEach es X.env)).any (·.1)) = false; rw [hplain] <;> rfl) (Calls.evalArgs_plain ?_)
  exact thn hA fun us s2 ⟨vs, H2, I2, r2, q2⟩ => hm pins s2 σ H2 x vs v us Q I2 r1 r2 q2

end
end L2

namespace L2
open PySem PySem.Spec PyProof.Rows

def MtM (X : Cx) (id : String) (r : V → List V → Hp → VK → Prop) : Prop :=
  ∀ (pins : List (Addr × Obj)) (s : Shared) (σ : St) (H : Hp) (x : V) (xs : List V) (v : Value) (us : List Value) (Q : VK), Inv X pins σ H s → RelV x v → Vals xs us → r x xs H Q →
    wpAny (model X.prog X.w) X.A (call (.builtin id) (v :: us)) (EP X pins σ Q) X.xe s


theorem Vals.one : ∀ {x : V} {us : List Value}, Vals [x] us → ∃ u, us = [u] ∧ RelV x u
  | _, _, .cons r .nil => ⟨_, rfl, r⟩
theorem Vals.zero : ∀ {us : List Value}, Vals [] us → us = []
  | _, .nil => rfl
theorem Vals.dropLast {xs : List V} {us : List Value} (h : Vals xs us) : Vals xs.dropLast us.dropLast := by
  induction h with
  | nil => exact .nil
  | cons r t ih =>
    cases t with
    | nil => exact .nil
    | cons q t' => exact .cons r ih
theorem Vals.eraseIdx : ∀ {xs : List V} {us : List Value} (i : Nat), Vals xs us → Vals (xs.eraseIdx i) (us.eraseIdx i)
  | _, _, _, .nil => .nil
  | _, _, 0, .cons _ t => t
  | _, _, i + 1, .cons r t => .cons r (Vals.eraseIdx i t)
theorem Vals.reverse {xs : List V} {us : List Value} (h : Vals xs us) : Vals xs.reverse us.reverse := by
  induction h with
  | nil => exact .nil
  | cons r t ih => rw [List.reverse_cons, List.reverse_cons]; exact Vals.append ih (.cons r .nil)
theorem erase_last {α : Type} (l : List α) : l.eraseIdx (l.length - 1) = l.dropLast := by
  induction l with
  | nil => rfl
  | cons a r ih =>
    cases r with
    | nil => rfl
    | cons b r =>
      have e : (a :: b :: r).length - 1 = ((b :: r).length - 1) + 1 := by
        have h1 : (a :: b :: r).length = r.length + 2 := rfl
        have h2 : (b :: r).length = r.length + 1 := rfl
        omega
      rw [e, List.eraseIdx_cons_succ, ih]
      all_goals rfl
section
variable {X : Cx} {pins : List (Addr × Obj)} {σ : St} {H : Hp} {s : Shared} {l b : Addr} {xs ys zs : List V}


theorem Inv.lset {its its' : List Value} {n : Nat} {f : Array Value → Array Value} {t' : Nat} (I : Inv X pins σ H s) (hH : H l = some (.lst xs))
    (e : s.heap.get? l = some { cls := .type "list", data := .seq its.toArray n }) (hf : f its.toArray = its'.toArray) (hv : Vals ys its') (hz : ys.length ≤ sizeLine) :
    Inv X pins σ (upd H l (.lst ys)) { s with heap := s.heap.update l (Obj.mapSeq f), toks := t' } := by
  have q := PySem.IsL.update e f
  rw [hf] at q
  refine I.write (x := l) (e := l) (by rw [hH]; exact trivial) (.inl rfl) (fun b' u hb hu => (Heap.get?_update_other s.heap (Obj.mapSeq f) (Ne.symm hb)).trans hu) ⟨_, q⟩ ?_
  exact ⟨hz, its', _, hv, q⟩
theorem Inv.lnew {its : List Value} {t' : Nat} (I : Inv X pins σ H s) (hv : Vals ys its) (hz : ys.length ≤ sizeLine) :
    Inv X pins σ (upd H s.heap.objs.size (.lst ys)) { s with heap := s.heap.push { cls := .type "list", data := .seq its.toArray }, toks := t' } :=
  I.laid (fun _ _ q => Heap.get?_push_of_some _ q) (Nat.le_refl _) ⟨hz, its, 0, hv, Heap.get?_push_size _ rfl⟩
theorem Inv.fresh (I : Inv X pins σ H s) : H s.heap.objs.size = none := I.hok.fresh (Nat.le_refl _)
theorem Inv.lstM (I : Inv X pins σ H s) (hH : H l = some (.lst xs)) : xs.length ≤ sizeLine ∧ ∃ (its : List Value) (n : Nat), Vals xs its ∧ xs.length = its.length ∧ s.heap.get? l = some { cls := .type "list", data := .seq its.toArray n } := by
  obtain ⟨z, its, n, r, e⟩ := I.hok l _ hH
  exact ⟨z, its, n, r, r.length, e⟩

end

section
variable {X : Cx}


def rAppend : V → List V → Hp → VK → Prop := fun x vs H Q => ∃ l xs y, x = .ref l ∧ vs = [y] ∧ H l = some (.lst xs) ∧ xs.length < sizeLine ∧ Q .non (upd H l (.lst (xs ++ [y])))
theorem mt_append : MtM X "list.append" rAppend := by
  intro pins s σ H x vs v us Q I rx rv h
  obtain ⟨l, xs, y, rfl, rfl, hH, hz, q⟩ := h
  cases rx
  obtain ⟨u, rfl, ru⟩ := rv.one
  obtain ⟨z, its, n, r, hl, e⟩ := I.lstM hH
  refine call_meets F.slot_list_append ⟨_, e, rfl⟩ F.entry_list_append (F.args_list_append_2 _ _) (PySem.list_append l its.toArray n u (by rw [List.size_toArray]; omega)) ⟨e, ?_⟩
  refine ⟨.non, _, I.lset (its' := its ++ [u]) hH e (by simp) (r.append (.cons ru .nil)) ?_, rfl, q⟩
  rw [List.length_append, List.length_singleton]
  omega

def rExtend : V → List V → Hp → VK → Prop := fun x vs H Q => ∃ l b xs zs, x = .ref l ∧ vs = [.ref b] ∧ H l = some (.lst xs) ∧ H b = some (.lst zs) ∧ xs.length + zs.length ≤ sizeLine ∧ Q .non (upd H l (.lst (xs ++ zs)))
def rPop : V → List V → Hp → VK → Prop := fun x vs H Q => ∃ l xs y, x = .ref l ∧ vs = [] ∧ H l = some (.lst xs) ∧ xs[xs.length - 1]? = some y ∧ Q y (upd H l (.lst xs.dropLast))
theorem mt_pop : MtM X "list.pop" rPop := by
  intro pins s σ H x vs v us Q I rx rv h
  obtain ⟨l, xs, y, rfl, rfl, hH, hy, q⟩ := h
  cases rx
  have hus := rv.zero
  subst hus
  obtain ⟨z, its, n, r, hl, e⟩ := I.lstM hH
  obtain ⟨u, hu, ru⟩ := r.get hy
  have hy' : its.toArray[its.toArray.size - 1]? = some u := by
    show its.toArray[its.length - 1]? = some u
    rw [← Array.getElem?_toList, ← hl]
    exact hu
  refine call_meets F.slot_list_pop ⟨_, e, rfl⟩ F.entry_list_pop (F.args_list_pop_1 _) (MeetsSeq.list_pop_last l its.toArray n u hy' (by rw [List.size_toArray]; omega)) ⟨e, ?_⟩
  refine ⟨y, _, I.lset (its' := its.dropLast) hH e ?_ r.dropLast ?_, ru, q⟩
  · show its.toArray.eraseIdxIfInBounds (its.toArray.size - 1) = its.dropLast.toArray
    rw [List.size_toArray, List.eraseIdxIfInBounds_toArray, erase_last]
  · rw [List.length_dropLast]
    omega

def rClear : V → List V → Hp → VK → Prop := fun x vs H Q => ∃ l xs, x = .ref l ∧ vs = [] ∧ H l = some (.lst xs) ∧ Q .non (upd H l (.lst []))
def rCat : R2 := fun x y H Q => ∃ l b xs zs, x = .ref l ∧ y = .ref b ∧ H l = some (.lst xs) ∧ H b = some (.lst zs) ∧ xs.length + zs.length ≤ sizeLine ∧ ∀ p, H p = none → Q (.ref p) (upd H p (.lst (xs ++ zs)))
theorem op_cat : OpR X (binaryOp .Add) rCat := by
  intro pins s σ H x y v u Q I rx ry h
  obtain ⟨l, b, xs, zs, rfl, rfl, hH, hB, hz, q⟩ := h
  cases rx
  cases ry
  obtain ⟨z, its, n, r, hl, e⟩ := I.lstM hH
  obtain ⟨z2, its2, n2, r2, hl2, e2⟩ := I.lstM hB
  refine PySem.P.add_list e e2 ?_ (by rw [List.size_toArray, List.size_toArray]; omega)
  have ea : its.toArray ++ its2.toArray = (its ++ its2).toArray := by simp
  rw [ea]
  exact ⟨.ref _, _, I.lnew (t' := s.toks) (r.append r2) (by rw [List.length_append]; omega), rfl, q _ I.fresh⟩

end


section
variable {prog : Program} {w : World} {A : Around} {E : Value → Shared → Prop} {s : Shared}
set_option maxRecDepth 100000 in

end

section
variable {X : Cx}

end
end L2

namespace Att
open PySem PySem.W PySem.Calls PyProof.Rows


theorem ints_of_wellAll {P : Params} {h : Heap} : ∀ (ns : List Int) (vs : List Value), WellAll P h vs (ns.map WData.int) → IntsAre vs ns := by
  intro ns
  induction ns with
  | nil =>
    intro vs w
    rw [List.map_nil] at w
    cases w
    exact .nil
  | cons n ns ih =>
    intro vs w
    rw [List.map_cons] at w
    cases w with
    | cons a b =>
      cases a
      exact .cons _ _ (ih _ b)

theorem script_of {l : OpenLaw} {n : Nat} (hn : l.most = some n) {P : Params} {h : Heap} {args : List WData} {vals : List Value}
    (hpre : l.row.toRowW.claim.pre args = true) (hwl : WellAll P h vals args) :
    ∃ a vs ns, vals = [Value.ref a] ∧ args = [WData.list (ns.map WData.int)] ∧ h.get? a = some { cls := .type "list", data := .seq vs.toArray } ∧ IntsAre vs ns ∧ ns.length ≤ n := by
  have hsh : WShape.hasAll [] args [.list .int] = true := (pre_splitW hpre).1
  have hc : l.pre.holds [] { args := args } = true := (pre_splitW hpre).2
  obtain ⟨d, r, rfl, h1, h2⟩ := hasAllW_cons hsh
  obtain rfl := hasAllW_nil h2
  obtain ⟨xs, rfl, h3⟩ := hasW_list h1
  obtain ⟨ns, rfl⟩ := items_int h3
  have hlen : ns.length ≤ n := by
    unfold OpenLaw.pre at hc
    have h4 : (WTm.not (.lt (.lit (.int (n : Int))) (.len (.arg 0)))).holds [] { args := [.list (ns.map .int)] } = true := by
      have h4 := (holds_andW hc).1
      rw [hn] at h4
      exact h4
    have h5 := condW_of h4 (w_not (w_lt w_lit (w_len_list (w_arg rfl))))
    rw [List.length_map] at h5
    refine Nat.le_of_not_lt fun q => ?_
    have q' : (n : Int) < ((ns.length : Nat) : Int) := by omega
    first
      | (rw [decide_eq_true q'] at h5; exact absurd h5 (by decide))
      | (simp at h5; omega)
  cases hwl with
  | cons w1 w2 =>
    cases w2
    cases w1 with
    | list ho hall => exact ⟨_, _, ns, rfl, rfl, ho, ints_of_wellAll ns _ hall, hlen⟩

theorem post_true (l : OpenLaw) (args : List WData) : l.row.toRowW.claim.post args (.bool true) args = true :=
  postW_of (r := l.row.toRowW) (X := (true == true))
    (show WShape.has [] (.bool true) .bool = true by first | rfl | decide | simp [WShape.has, WShape.arms, WShape.armsAll])
    (show (WTm.eq .res (.lit (.bool true))).value [] { args := args, res := some (.bool true), after := args } = some (.bool (true == true)) from w_eq_bool (w_res rfl) w_lit) rfl


theorem attach_call {l : OpenLaw} {n : Nat} {q : Program} {loose : List Str} {XP : (Str → Option Value) → Heap → Prop} {YP : World → Heap → Prop} {d : DefRec}
    (hn : l.most = some n) (hdf : d.params.defaults = [])
    (call : ∀ (w : World) (s₀ s₁ : Shared) (mg mb : Str → Option Value) (fa : Addr) (o : Obj) (pm cd doc : Value) (a : Addr) (vs : List Value) (ns : List Int),
      Ground q loose [] XP w s₀ mg mb s₁.heap → YP w s₁.heap →
      s₁.heap.get? fa = some o → o.data = .func (docDef d.name d.params d.body d.scope pm cd doc) → s₁.heap.CodeRec cd d.name → mg d.name = some (.ref fa) →
      s₁.heap.get? a = some { cls := .type "list", data := .seq vs.toArray } → IntsAre vs ns → ns.length ≤ n → s₁.gens = #[] →
      codeAny (model l.prog w) callerA (.call (.ref fa) ⟨[.ref a], []⟩) (fun r s' => r = .ok (.ret (.bool true)) ∧ OldK s₁.heap s'.heap ∧ s'.os = s₁.os ∧ AllBare s'.gens) s₁) :
    WalkO q loose XP YP l.row.toRowW d [] (fun f vs => PySem.call f vs) := by
  intro w s₀ s₁ mg mb G Y fa o pm cd doc dV kV ho hd hcd hD hmg hg args vals as hpre hlay hrd hwl hlo
  obtain rfl : dV = .none := Dflts.none hD hdf
  obtain rfl : kV = .none := Dflts.noKw hD
  obtain ⟨a, vs, ns, rfl, rfl, hobj, hints, hlen⟩ := script_of hn hpre hwl
  refine enter_call (codeAny_mono (call w s₀ s₁ mg mb fa o pm cd doc a vs ns G Y ho (fd_plain hd) hcd hmg hobj hints hlen hg) fun r s' hq => ?_)
  obtain ⟨rfl, h2, h3, h4⟩ := hq
  exact ⟨.inl ⟨.bool true, .bool true, [], rfl, fun _ => rfl, .bool true, post_true l _, fun _ => ⟨List.Pairwise.nil, fun _ hm => (nomatch hm)⟩⟩, h2, h3, h4⟩


section
variable {prog : Program} {w : World} {A : Around} {E : Value → Shared → Prop} {s : Shared} {K : Frag}


end
end Att

namespace L2
open PySem PySem.Spec PyProof.Rows

theorem vals_ints : ∀ {vs : List Value} {ns : List Int}, IntsAre vs ns → Vals (ns.map V.int) vs
  | _, _, .nil => .nil
  | _, _, .cons n t h => .cons ⟨t, rfl⟩ (vals_ints h)


def Only (H : Hp) : Prop := ∀ b, H b = none ∨ ∃ o xs, H b = some (.frz o (.lst xs))


theorem law_call {P : Program} {w : World} {K : PySem.W.Frag} {mg mb : Str → Option Value} {CX : CXT} {k : Nat} {fa a : Addr} {fd : FuncData} {x : Str} {sp : Sp} {s₁ : Shared} {vs : List Value} {ns : List Int}
    (KX : K.In s₁.heap) (hns : s₁.heap.Ns mainGlobals mg) (hb : s₁.heap.Ns builtinsNs mb) (hbb : ∀ x : Str, x ≠ "__name__" → mb x = bootBuiltins x) (hlim : s₁.heap.NoLimit) (hg : s₁.gens = #[])
    (ha : s₁.heap.get? a = some { cls := .type "list", data := .seq vs.toArray }) (hi : IntsAre vs ns) (hl : ns.length ≤ sizeLine) (hr : Room k callerA)
    (F : ∀ base : Heap, K.In base → base.Ns mainGlobals mg → FnOk P w K mg base CX k fa fd [x] sp) (hbind : ∀ (s : Shared) (u : Value), BindsTo s fd ⟨[u], []⟩ [(x, u)])
    (hsp : ∀ H : Hp, Only H → SqL K H a (ns.map V.int) → sp [.ref a] H (fun v _ => v = .bl true) fun _ _ _ => False)
    (hCX : ∀ H e s', CX [] H s₁ (fun _ _ _ => False) e s' → False) :
    codeAny (model P w) callerA (.call (.ref fa) ⟨[.ref a], []⟩) (fun r s' => r = .ok (.ret (.bool true)) ∧ OldK s₁.heap s'.heap ∧ s'.os = s₁.os ∧ AllBare s'.gens) s₁ := by
  have rv := vals_ints hi
  have lenV := hi.length
  -- from an abstract heap in which nothing but the script may be tracked
  have core : ∀ H : Hp, Only H → SqL K H a (ns.map V.int) → HOk P w H s₁.heap → (∀ b, H b ≠ none → b = a) → (H a ≠ none → K.lookup a = none) →
      codeAny (model P w) callerA (.call (.ref fa) ⟨[.ref a], []⟩) (fun r s' => r = .ok (.ret (.bool true)) ∧ OldK s₁.heap s'.heap ∧ s'.os = s₁.os ∧ AllBare s'.gens) s₁ := by
    intro H hO hS hok hA hK
    have base_of : ∀ {b : Addr} {o : Obj}, s₁.heap.get? b = some o → H b = none → (hidT s₁.heap H).get? b = some o := fun e n => hidT_get e n
    have noA : ∀ {b : Addr} {o : Obj} {es : Array DictEntry} {ep : Nat}, s₁.heap.get? b = some o → o.data = .dict es ep → H b = none := fun {b o es ep} e d => by
      cases q : H b with
      | none => rfl
      | some u =>
        have e' : b = a := hA b (by rw [q]; simp)
        subst e'
        rw [ha] at e; cases e
        have d' : Data.seq vs.toArray _ = Data.dict es ep := d
        cases d'
    have nsK : ∀ {b : Addr} {m : Str → Option Value}, s₁.heap.Ns b m → (hidT s₁.heap H).Ns b m := fun {b m} ⟨o, es, ep, e, d, r⟩ => ⟨o, es, ep, base_of e (noA e d), d, r⟩
    have hKb : K.In (hidT s₁.heap H) := fun b o e => base_of (KX b o e) (by
      cases q : H b with
      | none => rfl
      | some u =>
        have e' : b = a := hA b (by rw [q]; simp)
        subst e'
        rw [hK (by rw [q]; simp)] at e; cases e)
    have hM : Mod K mg (hidT s₁.heap H) := ⟨hKb, nsK hns, ⟨mb, nsK hb, hbb⟩, let ⟨mc, h1, h2⟩ := hlim; ⟨mc, nsK h1, h2⟩⟩
    have e0 : Env0 P w K mg (hidT s₁.heap H) callerA [] s₁ H := ⟨rfl, hM, fun b o e => of_hidT e, Nat.le_of_eq (hidT_size _ _), trivial, fun b hb => absurd (show b ∈ ([] : List Addr) from hb) (by simp), hok, .of_eq hg⟩
    refine codeAny_mono ((F _ hKb (nsK hns)).run callerA [] s₁ H ⟨[.ref a], []⟩ [.ref a] [.ref a] _ _ hr e0 (hbind s₁ (.ref a)) (.cons rfl .nil) (hsp H hO hS)) fun r s' h => ?_
    cases r with
    | error e => exact (hCX H e s' h).elim
    | ok fl =>
      cases fl with
      | next => exact False.elim h
      | brk => exact False.elim h
      | cont => exact False.elim h
      | ret u =>
        obtain ⟨v, H', os, bare, un, hok', r', q⟩ := h
        have q' : v = .bl true := q
        subst q'
        obtain rfl : u = Value.bool true := r'
        refine ⟨rfl, OldK.of_keep fun b o e => ?_, os, bare⟩
        cases q : H b with
        | none => exact un.keep b o e q (by intro z; exact absurd (show b ∈ ([] : List Addr) from z) (by simp)) (by simp)
        | some u =>
          rcases hO b with z | ⟨ob, xs, z⟩
          · rw [q] at z; cases z
          · have z2 := un.frzs b ob _ z
            obtain ⟨e1, _⟩ := hok b _ z
            obtain ⟨e2, _⟩ := hok' b _ z2
            rw [e] at e1; cases e1
            exact e2
  cases hk : K.lookup a with
  | some o =>
    -- the script is one of the module's own objects
    have e := KX a o hk
    rw [ha] at e
    cases e
    refine core (fun _ => none) (fun _ => .inl rfl) (.inr ⟨_, vs.toArray, _, hk, rfl, rfl, rfl, by rw [List.size_toArray, lenV]; exact hl, by simpa using rv⟩) (fun b u z => by have z' : (none : Option HO) = some u := z; cases z') (fun b z => absurd rfl z) fun z => absurd rfl z
  | none =>
    refine core (fun b => if b = a then some (.frz { cls := .type "list", data := .seq vs.toArray } (.lst (ns.map V.int))) else none) (fun b => ?_) (.inl (.inr ⟨{ cls := .type "list", data := .seq vs.toArray }, if_pos rfl⟩)) (fun b u z => ?_) (fun b z => ?_) fun _ => hk
    · by_cases hb : b = a
      · exact .inr ⟨_, _, if_pos hb⟩
      · exact .inl (if_neg hb)
    · by_cases hb : b = a
      · have z' := (if_pos hb).symm.trans z
        cases z'
        subst hb
        exact ⟨ha, by rw [List.length_map]; exact hl, vs, _, rv, ha⟩
      · have z' := (if_neg hb).symm.trans z
        cases z'
    · by_cases hb : b = a
      · exact hb
      · exact absurd (if_neg hb) z
end L2

namespace L2
open PySem PySem.Spec PyProof.Rows

theorem walk_of {l : PySem.W.OpenLaw} {n k : Nat} {q : Program} {loose : List Str} {XP : (Str → Option Value) → Heap → Prop} {YP : World → Heap → Prop} {d : DefRec} {K : Params → PySem.W.Frag} {CX : World → CXT} {sp : World → Sp} {x : Str}
    (hn : l.most = some n) (hn2 : n ≤ sizeLine) (hdf : d.params.defaults = []) (hr : Room k callerA)
    (hY : ∀ (w : World) (h : Heap), YP w h → (K w.params).In h)
    (F : ∀ (w : World) (mg : Str → Option Value) (fa : Addr) (h : Heap), (K w.params).In h → h.Ns mainGlobals mg → mg d.name = some (.ref fa) →
      ∃ fd : FuncData, (∀ (s : Shared) (u : Value), BindsTo s fd ⟨[u], []⟩ [(x, u)]) ∧
        ∀ base : Heap, (K w.params).In base → base.Ns mainGlobals mg → FnOk l.prog w (K w.params) mg base (CX w) k fa fd [x] (sp w))
    (hsp : ∀ (w : World) (H : Hp) (a : Addr) (ns : List Int), ns.length ≤ n → Only H → SqL (K w.params) H a (ns.map V.int) → sp w [.ref a] H (fun v _ => v = .bl true) fun _ _ _ => False)
    (hCX : ∀ (w : World) (H : Hp) (s : Shared) (e : Value) (s' : Shared), CX w [] H s (fun _ _ _ => False) e s' → False) :
    PySem.W.WalkO q loose XP YP l.row.toRowW d [] (fun f vs => PySem.call f vs) := by
  refine Att.attach_call hn hdf fun w s₀ s₁ mg mb fa o pm cd doc a vs ns G Y ho hd hcd hmg hobj hints hlen hg => ?_
  have KX := hY w _ Y
  obtain ⟨fd, hb, hF⟩ := F w mg fa _ KX G.T.g hmg
  exact law_call KX G.T.g G.T.b G.T.builtins G.T.nolimit hg hobj hints (Nat.le_trans hlen hn2) hr hF hb (fun H hO hS => hsp w H a ns hlen hO hS) fun H e s' => hCX w H s₁ e s'

end L2




namespace L2
open PySem PySem.Spec PyProof.Rows



def inClass (s : Stmt) (j : Nat) : Stmt := match s with
  | .ClassDef _ _ _ body _ _ _ _ _ _ _ => body.getD j (.Pass ⟨0, 0, 0, 0⟩)
  | _ => .Pass ⟨0, 0, 0, 0⟩
def defArgs (s : Stmt) : Arguments := match s with
  | .FunctionDef _ a _ _ _ _ _ _ _ _ => a
  | _ => { posonlyargs := [], args := [], vararg := none, kwonlyargs := [], kw_defaults := [], kwarg := none, defaults := [] }
def defBody (s : Stmt) : List Stmt := match s with
  | .FunctionDef _ _ b _ _ _ _ _ _ _ => b
  | _ => []
def defScope (s : Stmt) : Scope := match s with
  | .FunctionDef _ _ _ _ _ _ sc _ _ _ => sc
  | _ => { kind := .function, names := [], isGenerator := false, isCoroutine := false }


abbrev CX0 : CXT := fun _ _ _ _ _ _ => False
abbrev E0 : XK := fun _ _ _ => False
theorem pass0 {X : Cx} : Passes CX0 X E0 := fun _ _ _ _ _ _ _ h => h.elim


structure Fun (K : PySem.W.Frag) (x qual : Str) (st : Stmt) (f : Addr) (fd : FuncData) : Prop where
  ex : ∃ (oc : Value) (od : Option Addr) (kV doc pm : Value) (an : Option Addr) (cdv ct : Value) (osl : Array (Option Value)),
    fd = PySem.W.fnOf x qual (defArgs st) (defBody st) (defScope st) .none kV doc pm an cdv ct ∧ K.lookup f = some ⟨oc, od, .func fd, osl⟩ ∧ PySem.W.codeIn K cdv qual = true
  kp : PySem.W.keepIn K (.ref f) = true
section
variable {P : Program} {w : World} {K : PySem.W.Frag} {mg : Str → Option Value} {base : Heap}

theorem Fun.ok {x qual : Str} {st : Stmt} {f : Addr} {fd : FuncData} {N ps : List Str} {k : Nat} {sp : Sp} (F : Fun K x qual st f fd) (S : FnScope N ps (defScope st)) (len : ∀ vs H Q E, sp vs H Q E → vs.length = ps.length)
    (hbody : ∀ (cdv : Value) (A : Around) (outer : List Env) (s : Shared) (H : Hp) (vs : List V) (Q : VK) (E : XK), Room k (A.deeper (envOfC qual (defScope st) s.heap.objs.size f cdv)) → sp vs H Q E →
      ∃ t, PSs (cxOf CX0 P w K mg base N qual (defScope st) f cdv A outer s H E).nox (defBody st) t ∧ t { nx := fun _ H' => Q .non H', rt := Q } (start N vs) H) : FnOk P w K mg base CX0 (k + 1) f fd ps sp := by
  obtain ⟨oc, od, kV, doc, pm, an, cdv, ct, osl, rfl, lk, hcd⟩ := F.ex
  refine fn_of lk hcd S len fun A outer s H vs Q E hr hsp => ?_
  obtain ⟨t, h, q⟩ := hbody cdv A outer s H vs Q E hr hsp
  exact ⟨t, h.nox, q⟩

theorem Fun.binds {x qual : Str} {st : Stmt} {f : Addr} {fd : FuncData} {ps : List Str} (F : Fun K x qual st f fd)
    (h : ∀ (kV doc pm : Value) (an : Option Addr) (cdv ct : Value) (us : List Value), us.length = ps.length → bindArgs (PySem.W.fnOf x qual (defArgs st) (defBody st) (defScope st) .none kV doc pm an cdv ct) ⟨us, []⟩ = pure (ps.zip us)) : Binds K fd ps [] := by
  obtain ⟨oc, od, kV, doc, pm, an, cdv, ct, osl, rfl, lk, hcd⟩ := F.ex
  exact .all (h kV doc pm an cdv ct)
theorem fun_mk {x qual : Str} {st : Stmt} {f : Addr} {oc : Value} {od an : Option Addr} {osl : Array (Option Value)} {kV doc pm cdv ct : Value} (l : K.lookup f = some ⟨oc, od, .func (PySem.W.fnOf x qual (defArgs st) (defBody st) (defScope st) .none kV doc pm an cdv ct), osl⟩)
    (c : PySem.W.codeIn K cdv qual = true) (k : PySem.W.keepIn K (.ref f) = true) : Fun K x qual st f (PySem.W.fnOf x qual (defArgs st) (defBody st) (defScope st) .none kV doc pm an cdv ct) := ⟨⟨oc, od, kV, doc, pm, an, cdv, ct, osl, rfl, l, c⟩, k⟩
end
theorem hu_of {A : Around} {k : Nat} (hr : Room k A) : A.units + 1 < cLine := Nat.lt_of_le_of_lt (Nat.add_le_add_left (by decide : 1 ≤ 64) _) hr.units
section
variable {X : Cx}
theorem pv (i : Nat) {x : Str} {pos : Pos} (hN : X.N[i]? = some x := by rfl) (hv : Vis X.env.scope x := by first | exact Or.inl rfl | exact Or.inr (Or.inl rfl) | exact Or.inr (Or.inr rfl)) (hd : (x == ("__debug__" : Str)) = false := by decide)
    (hcd : (x == ("__classdict__" : Str)) = false := by decide) : PE X (.Name x pos) (tVar i) := pe_var hN hv hd hcd
end


def Same (H H' : Hp) : Prop := ∀ b o, H b = some o → H' b = some o
theorem Same.refl (H : Hp) : Same H H := fun _ _ h => h
theorem Same.trans {H H1 H2 : Hp} (a : Same H H1) (b : Same H1 H2) : Same H H2 := fun c o h => b c o (a c o h)
theorem Same.free {H H' : Hp} (e : Same H H') {l : Addr} (h : H' l = Option.none) : H l = Option.none := by
  cases q : H l with
  | none => rfl
  | some o =>
    rw [e l o q] at h
    cases h
theorem Same.seq {K : PySem.W.Frag} {H H' : Hp} {a : Addr} {xs : List V} (e : Same H H') (h : SqL K H a xs) : SqL K H' a xs := by
  rcases h with (h | ⟨o, h⟩) | h
  · exact .inl (.inl (e _ _ h))
  · exact .inl (.inr ⟨o, e _ _ h⟩)
  · exact .inr h

end L2

set_option Elab.async false
set_option linter.all false
set_option maxRecDepth 100000
set_option maxHeartbeats 1000000
namespace L2
open PySem PySem.Spec PyProof.Rows


def Its (x : Str) : It := ⟨fun i _ => i < x.cps.size, fun i H v H' => H' = H ∧ ∃ c, x.cps[i]? = some c ∧ v = .str ⟨#[c]⟩, fun i _ => x.cps.size ≤ i⟩

section
variable {X : Cx} {tg : Expr}
def iStr (tl : TE) : TI := fun σ H R => tl σ H fun x H1 => ∃ z, x = .str z ∧ R (Its z) H1
end
end L2

set_option Elab.async false
set_option linter.all false
set_option maxRecDepth 100000
set_option maxHeartbeats 1000000
namespace L2
open PySem PySem.Spec PyProof.Rows


theorem relabel_lookup {env : Env} (y : Str) : ∀ (names : List (Str × NameKind)),
    (names.map fun (n, k) => if (k == NameKind.free && env.scope.kind == .function && env.kindOf n == some .cell) then (n, NameKind.cell) else (n, k)).lookup y =
      (names.lookup y).map fun k => if (k == NameKind.free && env.scope.kind == .function && env.kindOf y == some .cell) then NameKind.cell else k
  | [] => rfl
  | (n, k) :: r => by
    have ih := relabel_lookup y r (env := env)
    rw [List.map_cons]
    by_cases hy : y = n
    · subst hy
      show List.lookup y ((if (k == NameKind.free && env.scope.kind == .function && env.kindOf y == some .cell) = true then (y, NameKind.cell) else (y, k)) :: _) = _
      by_cases hc : (k == NameKind.free && env.scope.kind == .function && env.kindOf y == some .cell) = true
      · rw [if_pos hc]
        simp only [List.lookup_cons, beq_self_eq_true, Option.map_some, hc, if_true]
      · rw [if_neg hc]
        simp only [List.lookup_cons, beq_self_eq_true, Option.map_some, hc, if_false]
        rfl
    · have hb : (y == n) = false := by simpa using hy
      show List.lookup y ((if (k == NameKind.free && env.scope.kind == .function && env.kindOf n == some .cell) = true then (n, NameKind.cell) else (n, k)) :: _) = _
      by_cases hc : (k == NameKind.free && env.scope.kind == .function && env.kindOf n == some .cell) = true
      · rw [if_pos hc]
        simp only [List.lookup_cons, hb]
        exact ih
      · rw [if_neg hc]
        simp only [List.lookup_cons, hb]
        exact ih

theorem closure_go {env : Env} : ∀ (names : List (Str × NameKind)) (cs : List (Str × Addr)), (∀ y ∈ names, y.2 = .free → ∃ c, env.cells.lookup y.1 = some c) → (∀ y c, cs.lookup y = some c → env.cells.lookup y = some c) →
    ∃ cl, (forIn (m := Sem) names cs fun (x : Str × NameKind) (r : List (Str × Addr)) => (if (x.2 == .free) = true then (do let c ← cellOf env x.1; pure (ForInStep.yield ((x.1, c) :: r))) else pure (ForInStep.yield r))) = pure cl ∧
      (∀ y c, cl.lookup y = some c → env.cells.lookup y = some c) ∧ (∀ y ∈ names, y.2 = .free → ∃ c, cl.lookup y.1 = some c) ∧ ∀ y, (∃ c, cs.lookup y = some c) → ∃ c, cl.lookup y = some c
  | [], cs, _, hcs => ⟨cs, rfl, hcs, (fun _ h => nomatch h), (fun _ h => h)⟩
  | (n, k) :: r, cs, h, hcs => by
    by_cases hk : k = .free
    · subst hk
      obtain ⟨c, hc⟩ := h (n, .free) List.mem_cons_self rfl
      have hc : env.cells.lookup n = some c := hc
      have hcs' : ∀ y c', ((n, c) :: cs).lookup y = some c' → env.cells.lookup y = some c' := fun y c' e => by
        by_cases hy : y = n
        · subst hy
          simp only [List.lookup_cons, beq_self_eq_true] at e
          cases e
          exact hc
        · have hb : (y == n) = false := by simpa using hy
          simp only [List.lookup_cons, hb] at e
          exact hcs y c' e
      obtain ⟨cl, e1, e2, e3, e4⟩ := closure_go r ((n, c) :: cs) (fun y hy => h y (List.mem_cons_of_mem _ hy)) hcs'
      refine ⟨cl, ?_, e2, fun y hy hf => ?_, fun y hy => e4 y ?_⟩
      · rw [List.forIn_cons]
        simp only [beq_self_eq_true, if_true, cellOf, hc]
        exact e1
      · rcases List.mem_cons.mp hy with rfl | hy
        · exact e4 n ⟨c, by simp only [List.lookup_cons, beq_self_eq_true]⟩
        · exact e3 y hy hf
      · obtain ⟨c', hc'⟩ := hy
        by_cases hy : y = n
        · subst hy
          exact ⟨c, by simp only [List.lookup_cons, beq_self_eq_true]⟩
        · have hb : (y == n) = false := by simpa using hy
          exact ⟨c', by simp only [List.lookup_cons, hb]; exact hc'⟩
    · obtain ⟨cl, e1, e2, e3, e4⟩ := closure_go r cs (fun y hy => h y (List.mem_cons_of_mem _ hy)) hcs
      refine ⟨cl, ?_, e2, fun y hy hf => ?_, e4⟩
      · have hb : (k == NameKind.free) = false := by simpa using hk
        rw [List.forIn_cons]
        simp only [hb, Bool.false_eq_true, if_false]
        exact e1
      · rcases List.mem_cons.mp hy with rfl | hy
        · exact absurd hf hk
        · exact e3 y hy hf
theorem closure_of {env : Env} {scope : Scope} (h : ∀ y ∈ scope.names, y.2 = .free → ∃ c, env.cells.lookup y.1 = some c) :
    ∃ cl, closureFor scope env = pure cl ∧ (∀ y c, cl.lookup y = some c → env.cells.lookup y = some c) ∧ (∀ y ∈ scope.names, y.2 = .free → ∃ c, cl.lookup y.1 = some c) := by
  obtain ⟨cl, e1, e2, e3, _⟩ := closure_go scope.names [] h (fun y c e => by simp at e)
  refine ⟨cl, ?_, e2, e3⟩
  have e : closureFor scope env = (forIn (m := Sem) scope.names [] fun (x : Str × NameKind) (r : List (Str × Addr)) => (if (x.2 == .free) = true then (do let c ← cellOf env x.1; pure (ForInStep.yield ((x.1, c) :: r))) else pure (ForInStep.yield r))) >>= fun cs => pure cs := rfl
  rw [e, e1]
  rfl

theorem compLoop_go {prog : Program} {w : World} {A : Around} {R : Result → Shared → Prop} {s : Shared} {elt target iter : Expr} {ifs : List Expr} {scope : Scope} {pos : Pos} {it acc : Value} {env : Env} (I : Nat → Shared → Prop)
    (turn : ∀ n s, I n s → wpAny (model prog w) A (pyNext it) (fun r s₁ => match r with
      | none => R (.ok .next) s₁
      | some v => wpAny (model prog w) A (letOwnedTupleGo target it v) (fun _ s₁ => wpAny (model prog w) A (assign target env v) (fun _ s₂ =>
          wpAny (model prog w) A (forIn ifs true fun c r => if r = true then do let ok ← isTrue c env (eval c env); pure (ForInStep.yield ok) else pure (ForInStep.yield r)) (fun ok s₃ =>
            if ok = true then wpAny (model prog w) A (eval elt env) (fun x s₄ =>
              wpAny (model prog w) A (call (.builtin "list.append") [acc, x]) (fun _ s₅ => ∃ m, m < n ∧ I m s₅) (fun _ _ => False) s₄) (fun _ _ => False) s₃
            else ∃ m, m < n ∧ I m s₃) (fun _ _ => False) s₂) (fun _ _ => False) s₁) (fun _ _ => False) s₁) (fun _ _ => False) s)
    (n : Nat) (h : I n s) :
    codeAny (model prog w) A (.compLoop (.ListComp elt [⟨target, iter, ifs, 0⟩] scope pos) 0 it acc env) R s := by
  refine codeAny_loop rfl I (fun n s hI => ?_) n h
  show wpAny _ A ((compTurn (.ListComp elt [⟨target, iter, ifs, 0⟩] scope pos) 0 it acc env).onRaise (fun x => do noteFrame x env; theTreesLotGoes x)) _ _ s
  refine wpAny_noted ?_
  rw [compTurn_list]
  refine wpAny_bind (wpAny_standAt (wpAny_bind (wpAny_mono (turn n s hI) (fun r s₁ h₁ => ?_) fun _ _ h' => h'.elim)))
  cases r with
  | none => exact wpAny_pure h₁
  | some v =>
    refine wpAny_bind (wpAny_mono h₁ (fun _ s₁ h₁ => ?_) fun _ _ h' => h'.elim)
    refine wpAny_bind (wpAny_mono h₁ (fun _ s₂ h₂ => wpAny_bind (wpAny_mono h₂ (fun ok s₃ h₃ => ?_) fun _ _ h' => h'.elim)) fun _ _ h' => h'.elim)
    cases ok with
    | false => exact wpAny_pure ⟨rfl, h₃⟩
    | true =>
      exact wpAny_bind (wpAny_bind (wpAny_mono h₃ (fun x s₄ h₄ => wpAny_bind (wpAny_mono h₄ (fun _ s₅ h₅ => wpAny_pure (wpAny_pure ⟨rfl, h₅⟩)) fun _ _ h' => h'.elim)) fun _ _ h' => h'.elim))


def blk (X : Cx) (x : Str) (scope : Scope) (cl : List (Str × Addr)) (C : Addr) (s3 : Shared) (H3 : Hp) (fp : List Addr) : Cx :=
  { X with N := x :: X.N, s₀ := s3, H₀ := H3, env := compEnvC scope cl C X.env, outer := X.stack, ex := fp, fn := fun _ => false, pn := [], xe := fun _ _ => False }

def PTs (X : Cx) (ifs : List Expr) (t : TT) : Prop :=
  ∀ (pins : List (Addr × Obj)) (s : Shared) (σ : St) (H : Hp) (Q : Bool → Hp → Prop), Inv X pins σ H s → t σ H Q →
    wpAny (model X.prog X.w) X.A (forIn ifs true fun c r => if r = true then do let ok ← isTrue c X.env (eval c X.env); pure (ForInStep.yield ok) else pure (ForInStep.yield r)) (TP X pins σ Q) X.xe s
def tTrue : TT := fun _ H Q => Q true H
theorem pts_nil {X : Cx} : PTs X [] tTrue := fun _ _ _ H _ I h => wpAny_tests_nil ⟨H, I, h⟩
theorem pts_one {X : Cx} {c : Expr} {t : TT} (h : PT X c t) : PTs X [c] t := fun pins s σ H Q I hw => wpAny_tests_one (h pins s σ H Q I hw)

def lcBody (J : It) (tt : TT) (te : TE) (σ : St) (H1 : Hp) (Q : VK) : Prop := ∀ D, H1 D = none → ∃ W : Nat → Nat → List V → Hp → Prop, (∃ m, W 0 m [] (upd H1 D (.lst []))) ∧ ∀ i m ys H', W i m ys H' → H' D = some (.lst ys) ∧
  ((J.stop i H' ∧ Q (.ref D) H') ∨ (J.go i H' ∧ ∀ v H2, J.yld i H' v H2 → tt (some v :: σ) H2 fun b H3 =>
    if b = true then te (some v :: σ) H3 fun y H4 => H4 D = some (.lst ys) ∧ ys.length < sizeLine ∧ ∃ m', m' < m ∧ W (i + 1) m' (ys ++ [y]) (upd H4 D (.lst (ys ++ [y]))) else ∃ m', m' < m ∧ W (i + 1) m' ys H3))
def tLC (wi : TI) (tt : TT) (te : TE) : TE := fun σ H Q => wi σ H fun J H1 => lcBody J tt te σ H1 Q


structure LcScope (X : Cx) (x : Str) (scope : Scope) : Prop where
  xN : x ∉ X.N
  nd : X.N.Nodup
  kind : scope.kind = .function
  cell : ∀ y ∈ scope.names, y.2 ≠ .cell
  names : ∀ y ∈ scope.names, y.2 = .local → scope.names.lookup y.1 = some .local
  var : scope.names.lookup x = some .local
  free : ∀ y ∈ scope.names, y.2 = .free → X.env.kindOf y.1 = some .cell
  out : ∀ y ∈ X.N, scope.names.lookup y ≠ some .local
  calm : X.calm = true

section
variable {X : Cx} {elt iter : Expr} {x : Str} {px pos : Pos} {ifs : List Expr} {scope : Scope} {wi : TI} {tt : TT} {te : TE}

theorem lc_core {pins : List (Addr × Obj)} {σ : St} {H : Hp} {s : Shared} {E : Value → Shared → Prop} {Q : Value → Shared → Prop} {use : Option (Value → Sem Unit)} {QV : VK} (L : LcScope X x scope) (I : Inv X pins σ H s)
    (hi : wpAny (model X.prog X.w) X.A (eval iter X.env) (fun v s1 => wpAny (model X.prog X.w) X.A (pyIter v) (PIE X pins σ (.Name x px) (fun J H1 => ∀ D, H1 D = none → ∃ W : Nat → Nat → List V → Hp → Prop, (∃ m, W 0 m [] (upd H1 D (.lst []))) ∧ ∀ i m ys H', W i m ys H' → H' D = some (.lst ys) ∧
  ((J.stop i H' ∧ QV (.ref D) H') ∨ (J.go i H' ∧ ∀ v H2, J.yld i H' v H2 → tt (some v :: σ) H2 fun b H3 =>
    if b = true then te (some v :: σ) H3 fun y H4 => H4 D = some (.lst ys) ∧ ys.length < sizeLine ∧ ∃ m', m' < m ∧ W (i + 1) m' (ys ++ [y]) (upd H4 D (.lst (ys ++ [y]))) else ∃ m', m' < m ∧ W (i + 1) m' ys H3)))) E s1) E s)
    (ht : ∀ cl C s3 H3 fp, PTs (blk X x scope cl C s3 H3 fp) ifs tt) (he : ∀ cl C s3 H3 fp, PE (blk X x scope cl C s3 H3 fp) elt te)
    (hs : ∀ x, foldedSetIterable iter X.env x = pure x)
    (fin : ∀ (D C : Addr) (H' : Hp) (s' : Shared) (m : Str → Option Value), Inv X pins σ H' s' → FpOk X pins H' C → s'.heap.Ns C m → QV (.ref D) H' → compPost (model X.prog X.w) X.A E use Q (.ref D) C (.ok .next) s') :
    wpAny (model X.prog X.w) X.A (comprehension (.ListComp elt [⟨.Name x px, iter, ifs, 0⟩] scope pos) scope X.env (firstIterPos [⟨.Name x px, iter, ifs, 0⟩] pos) (newList []) false (eval iter X.env) use) Q E s := by
  obtain ⟨cl, hcl, cl1, cl2⟩ := closure_of (env := X.env) (scope := scope) (fun y hy hf => I.ok.has y.1 (.inl (L.free y hy hf)))
  refine wpAny_comprehension_free (use := use) rfl hs hcl L.kind L.names (wpAny_mono hi (fun xv s₁ h₁ => wpAny_mono h₁ (fun it s2 h₂ => ?_) fun _ _ e => e) fun _ _ e => e)
  obtain ⟨it, fp, tn, J, H2, rfl, I2, T, st2, f2, hW⟩ := h₂
  have fr2 : H2 s2.heap.objs.size = none := I2.hok.fresh (Nat.le_refl _)
  obtain ⟨W, ⟨m0, w0⟩, turn⟩ := hW _ fr2
  refine wpAny_newObj_type ?_
  have I3 : Inv X pins σ (upd H2 s2.heap.objs.size (.lst [])) { s2 with heap := s2.heap.push { cls := .type "list", dict := none, data := .seq ([] : List Value).toArray } } :=
    I2.laid (t' := s2.toks) (o := .lst []) (fun b ob q => Heap.get?_push_of_some _ q) (Nat.le_refl _) ⟨Nat.zero_le _, [], 0, .nil, Heap.get?_push_size _ rfl⟩
  generalize hD : s2.heap.objs.size = D at I3 turn w0 fr2 ⊢
  generalize hH3 : upd H2 D (.lst []) = H3 at I3 w0
  generalize hs3 : ({ s2 with heap := s2.heap.push { cls := .type "list", dict := none, data := .seq ([] : List Value).toArray } } : Shared) = s3 at I3 ⊢
  have k23 : ∀ b o, s2.heap.get? b = some o → s3.heap.get? b = some o := fun b o e => by rw [← hs3]; exact Heap.get?_push_of_some _ e
  have os3 : s3.os = s2.os := by rw [← hs3]
  have fpD : ∀ b ∈ fp, b ≠ D := fun b hb z => by
    obtain ⟨o, e, _⟩ := T.obj _ _ st2 b hb
    exact absurd (Heap.lt_size e) (by rw [z, ← hD]; exact Nat.lt_irrefl _)
  have f3 : ∀ b ∈ fp, FpOk X pins H3 b := fun b hb => ⟨by rw [← hH3, upd_ne (fpD b hb)]; exact (f2 b hb).1, (f2 b hb).2⟩
  have st3 : tn 0 s3.heap := T.keep _ _ _ st2 fun b hb o e => k23 b o e
  refine wpAny_newFunctionEnv L.cell (fun y hy => by simp at hy) (fun h₁ hns₁ hsb₁ => ?_) L.kind
  generalize hC : s3.heap.objs.size = C at hns₁ hsb₁ ⊢
  have k34 : ∀ b o, s3.heap.get? b = some o → h₁.get? b = some o := fun b o e => hsb₁.extBut b o (by rintro rfl; exact absurd (Heap.lt_size e) (by rw [hC]; exact Nat.lt_irrefl _)) (Heap.get?_push_of_some _ e)
  -- the block's context
  let X' : Cx := blk X x scope cl C s3 H3 fp
  have relab : ∀ y, X'.env.scope.names.lookup y = (scope.names.lookup y).map fun k => if (k == NameKind.free && X.env.scope.kind == .function && X.env.kindOf y == some .cell) then NameKind.cell else k := fun y => relabel_lookup y scope.names
  have visC : ∀ y, (X'.env.kindOf y = some .cell ∨ X'.env.kindOf y = some .free) → scope.names.lookup y = some .free := fun y hy => by
    have e := relab y
    have hy : X'.env.scope.names.lookup y = some .cell ∨ X'.env.scope.names.lookup y = some .free := hy
    rw [e] at hy
    cases q : scope.names.lookup y with
    | none => rw [q] at hy; simp at hy
    | some k =>
      rw [q] at hy
      simp only [Option.map_some, Option.some.injEq] at hy
      by_cases hf : k = .free
      · rw [hf]
      · have hb : (k == NameKind.free) = false := by simpa using hf
        simp only [hb, Bool.false_and, Bool.false_eq_true, if_false] at hy
        rcases hy with rfl | rfl
        · exact absurd rfl (L.cell _ (PySem.mem_of_lookup q))
        · exact absurd rfl hf
  have okX' : X'.Ok := by
    refine ⟨I3.ok.mod, ?_, I3.ok.glob, I3.ok.blt, ?_, ?_, ?_, ?_, I3.ok.hd, I3.ok.frames, .inl rfl, ?_, ?_, ?_, ?_, ?_, ?_, ?_⟩
    · show (relabel scope X.env).kind = .function
      exact L.kind
    · show s3.heap.objs.size ≤ C
      exact Nat.le_of_eq hC
    · exact fun a b c h1 h2 => I3.ok.inj a b c (cl1 a c h1) (cl1 b c h2)
    · exact fun y hy => cl2 (y, .free) (PySem.mem_of_lookup (visC y hy)) rfl
    · exact fun y c hf => by cases hf
    · refine fun b hb => ⟨?_, fun y c e z => (f3 b hb).2.2.2.2.1 y c (cl1 y c e) z⟩
      show b ≠ C
      intro z
      obtain ⟨o, e, _⟩ := T.obj _ _ st3 b hb
      exact absurd (Heap.lt_size e) (by rw [z, ← hC]; exact Nat.lt_irrefl _)
    · exact fun b o e => I3.bs b o e
    · exact Nat.le_trans I3.ok.bsz I3.sz
    · intro b o e hb
      rcases (f3 b hb).2.2.2.1 with z | z
      · exact I3.ok.noex b o e z
      · exact absurd (Nat.lt_of_lt_of_le (Heap.lt_size e) (Nat.le_trans I3.ok.bsz z)) (Nat.lt_irrefl _)
    · intro b hb z
      rcases List.mem_cons.mp (I3.stkSub b z) with e | e
      · exact (f3 b hb).2.1 e
      · exact (f3 b hb).2.2.1 e
    · exact I3.stack
    · exact I3.stkFree
  have hfreeC : H3 C = none := I3.hok.fresh (Nat.le_of_eq hC)
  have I4 : Inv X' [] (none :: σ) H3 { s3 with heap := h₁, toks := s3.toks + ([] : List (Str × Value)).length } := by
    refine ⟨okX', rfl, I3.bare, Un.kept k34, ⟨_, hns₁, ?_⟩, ?_, hfreeC, ?_, fun p hp => absurd (show p ∈ ([] : List (Addr × Obj)) from hp) (by simp), I3.hok.kept k34, ?_⟩
    · intro i y v e1 e2 e3
      cases i with
      | zero => simp at e2
      | succ j =>
        have e1 : X.N[j]? = some y := by simpa using (show (x :: X.N)[j + 1]? = some y from e1)
        have e2 : σ[j]? = some (some v) := by simpa using e2
        have hyN : y ∈ X.N := List.mem_of_getElem? e1
        have hfr : scope.names.lookup y = some .free := by
          rcases e3 with e3 | e3 | e3
          · rw [relab y] at e3
            cases q : scope.names.lookup y with
            | none => rw [q] at e3; simp at e3
            | some k =>
              rw [q] at e3
              simp only [Option.map_some, Option.some.injEq] at e3
              by_cases hf : k = .free
              · rw [hf]
              · have hb : (k == NameKind.free) = false := by simpa using hf
                simp only [hb, Bool.false_and, Bool.false_eq_true, if_false] at e3
                exact absurd (by rw [q, e3]) (L.out y hyN)
          · exact visC y (.inl e3)
          · exact visC y (.inr e3)
        have hkc := L.free (y, .free) (PySem.mem_of_lookup hfr) rfl
        have hkc : X.env.kindOf y = some .cell := hkc
        obtain ⟨mX, _, hlX⟩ := I3.loc
        obtain ⟨u, r, l⟩ := hlX j y v e1 e2 (.inr (.inl hkc))
        refine ⟨u, r, ?_⟩
        rcases l with ⟨l, _⟩ | ⟨_, c, hc, hcell⟩
        · rw [hkc] at l; cases l
        · obtain ⟨c', hc'⟩ := cl2 (y, .free) (PySem.mem_of_lookup hfr) rfl
          have hc' : cl.lookup y = some c' := hc'
          have := cl1 y c' hc'
          rw [hc] at this
          cases this
          refine .inr ⟨?_, c, hc', ?_⟩
          · rcases e3 with e3 | e3 | e3
            · rw [relab y, hfr] at e3
              simp only [Option.map_some, Option.some.injEq] at e3
              split at e3 <;> cases e3
            · exact .inl e3
            · exact .inr e3
          · obtain ⟨o, ho, hd⟩ := hcell
            exact ⟨o, k34 _ _ ho, hd⟩
    · intro y c e
      obtain ⟨v, o, ho, hd⟩ := I3.cell y c (cl1 y c e)
      exact ⟨v, o, k34 _ _ ho, hd⟩
    · exact fun y c e => I3.freeC y c (cl1 y c e)
    · show (none :: σ).length = (x :: X.N).length
      rw [List.length_cons, List.length_cons, I3.len]
  have st4 : tn 0 h₁ := T.keep _ _ _ st3 fun b hb o e => k34 b o e
  have stat : ∀ {H' : Hp}, (∀ b ∈ fp, H' b = none) → ∀ b ∈ fp, FpOk X' [] H' b := fun hn b hb => by
    refine ⟨hn b hb, (okX'.exf b hb).1, okX'.exfs b hb, .inl hb, (okX'.exf b hb).2, fun p hp => absurd (show p ∈ ([] : List (Addr × Obj)) from hp) (by simp)⟩
  have hNd : X'.N.Nodup := List.nodup_cons.mpr ⟨L.xN, L.nd⟩
  have hvar : X'.env.scope.names.lookup x = some .local := by
    rw [relab x, L.var]
    rfl
  have loop : ∀ s4 : Shared, s4 = { s3 with heap := h₁, toks := s3.toks + ([] : List (Str × Value)).length } →
      codeAny (model X.prog X.w) X.A (.compLoop (.ListComp elt [⟨.Name x px, iter, ifs, 0⟩] scope pos) 0 (.ref it) (.ref D) X'.env) (compPost (model X.prog X.w) X.A E use Q (.ref D) C) s4 := by
    rintro s4 rfl
    refine compLoop_go (fun n s' => ∃ i ys o H', Inv X' [] (o :: σ) H' s' ∧ tn i s'.heap ∧ (∀ b ∈ fp, H' b = none) ∧ W i n ys H') ?_ m0 ⟨0, [], none, H3, I4, st4, fun b hb => (f3 b hb).1, w0⟩
    rintro n s5 ⟨i, ys, o, H5, I5, st5, fr5, w5⟩
    obtain ⟨hD5, turn5⟩ := turn i n ys H5 w5
    rcases turn5 with ⟨stop, qn⟩ | ⟨go, step⟩
    · refine wpAny_mono (T.done X' rfl rfl rfl L.calm i [] s5 (o :: σ) H5 (fun _ _ => False) I5 (stat fr5) st5 stop) (fun r s6 h6 => ?_) fun _ _ z => z
      obtain ⟨rfl, I6⟩ := h6
      have un6 : Un (frs X.stack) fp H3 H5 s3.heap s6.heap := I6.base
      have IX : Inv X pins σ H5 s6 := I3.call' I6.os un6 I6.hok I6.bare fun b hb => ⟨(f3 b hb).2.2.2.1, (f3 b hb).2.1, (f3 b hb).2.2.2.2.1, (f3 b hb).2.2.2.2.2⟩
      obtain ⟨mC, hnC, _⟩ := I6.loc
      exact fin D C H5 s6 mC IX (I3.fpOk (H' := H5) (Nat.le_of_eq hC) I6.free) hnC qn
    · refine wpAny_mono (T.item X' rfl rfl rfl L.calm i [] s5 (o :: σ) H5 (fun _ _ => False) I5 (stat fr5) st5 go) (fun r s6 h6 => ?_) fun _ _ z => z.elim
      obtain ⟨u, rfl, h6⟩ := h6
      refine wpAny_mono h6 (fun _ s6 h6 => ?_) fun _ _ z => z
      obtain ⟨v, H6, I6, r6, y6, st6, fr6⟩ := h6
      have I6' := I6.pinned (stat fr6) (T.obj _ _ st6)
      have hv6 := step v H6 y6
      show wpAny (model X'.prog X'.w) X'.A (assign (.Name x px) X'.env u) _ _ s6
      refine wpAny_mono (Q := fun _ s7 => Inv X' ([] ++ pinsAt fp s6.heap) (some v :: σ) H6 s7) (E := fun _ _ => False) (wpAny_assign_Name (store_ok I6' hNd (i := 0) rfl (.inl hvar) r6 (fun s7 I7 => (show Inv X' ([] ++ pinsAt fp s6.heap) (some v :: σ) H6 s7 from I7)) (.inr hvar))) (fun _ s7 I7 => ?_) fun _ _ z => z.elim
      refine wpAny_mono ((ht cl C s3 H3 fp) _ s7 _ H6 _ I7 hv6) (fun b s8 h8 => ?_) fun _ _ z => z.elim
      obtain ⟨H8, I8, q8⟩ := h8
      have done : ∀ {ys' : List V} {H9 : Hp} {s9 : Shared} {n' : Nat}, Inv X' ([] ++ pinsAt fp s6.heap) (some v :: σ) H9 s9 → W (i + 1) n' ys' H9 → ∃ i ys o H', Inv X' [] (o :: σ) H' s9 ∧ tn i s9.heap ∧ (∀ b ∈ fp, H' b = none) ∧ W i n' ys H' := fun {ys' H9 s9 n'} I9 w9 => by
        refine ⟨i + 1, ys', some v, H9, I9.unpinned, T.keep _ _ _ st6 fun b hb o e => (I9.pin (b, o) (List.mem_append_right _ (List.mem_append_right _ (mem_pinsAt hb e)))).1, fun b hb => ?_, w9⟩
        obtain ⟨o, e, d⟩ := T.obj _ _ st6 b hb
        exact (I9.pin (b, o) (List.mem_append_right _ (List.mem_append_right _ (mem_pinsAt hb e)))).2.1
      cases b with
      | false =>
        have q8 : ∃ m', m' < n ∧ W (i + 1) m' ys H8 := q8
        obtain ⟨m', hm, w8⟩ := q8
        exact ⟨m', hm, done I8 w8⟩
      | true =>
        have q8 : te (some v :: σ) H8 _ := q8
        refine wpAny_mono ((he cl C s3 H3 fp) _ s8 _ H8 _ I8 q8) (fun yv s9 h9 => ?_) fun _ _ z => z.elim
        obtain ⟨y, H9, I9, r9, hD9, hz9, m', hm, w9⟩ := h9
        refine wpAny_mono (mt_append (X := X') _ s9 _ H9 (.ref D) [y] (.ref D) [yv] (fun v' H' => v' = .non ∧ H' = upd H9 D (.lst (ys ++ [y]))) I9 rfl (.cons r9 .nil) ⟨D, ys, y, rfl, rfl, hD9, hz9, rfl, rfl⟩) (fun _ s10 h10 => ?_) fun _ _ z => z.elim
        obtain ⟨_, H10, I10, _, _, rfl⟩ := h10
        exact ⟨m', hm, done I10 w9⟩
  exact codeAny_compStart_list (loop _ rfl) (T.self _ 0 _ _ _ st4 (loop _ rfl))


theorem ps_setLC {i : Nat} {z : Str} {pz spos : Pos} (hN : X.N.Nodup) (hi' : X.N[i]? = some z) (hz : Loc X.env.scope z) (L : LcScope X x scope) (hi : PI X (.Name x px) iter wi) (ht : ∀ cl C s3 H3 fp, PTs (blk X x scope cl C s3 H3 fp) ifs tt) (he : ∀ cl C s3 H3 fp, PE (blk X x scope cl C s3 H3 fp) elt te)
    (hs : ∀ x, foldedSetIterable iter X.env x = pure x := by intro _; rfl) (hsw : swapsWith (.ListComp elt [⟨.Name x px, iter, ifs, 0⟩] scope pos) (some (.Name z pz)) spos.line X.env = pure true := by rfl)
    (hf : X.fn z = true ∨ X.env.scope.names.lookup z = some .local := by first | exact .inl rfl | exact .inr rfl | assumption) : PS X (.Assign [.Name z pz] (.ListComp elt [⟨.Name x px, iter, ifs, 0⟩] scope pos) spos) (tAsg (tLC wi tt te) (gName i)) := by
  intro pins s σ H D I h
  rw [exec_Assign_Name_used _ _ _ _ hsw]
  refine wpAny_bind (wpAny_standAt (wpAny_bind ?_))
  show wpAny _ X.A (do let _ ← comprehension (.ListComp elt [⟨.Name x px, iter, ifs, 0⟩] scope pos) scope X.env _ (newList []) false (eval iter X.env) (some (assign (.Name z pz) X.env))) _ _ s
  refine wpAny_bind (wpAny_mono (lc_core (use := some (assign (.Name z pz) X.env)) (Q := fun _ s' => SP X pins D .next s') (QV := fun v H' => D.nx (σ.set i (some v)) H') L I (hi pins s σ H _ I h) ht he hs fun D' C H' s' m IX fC hn q => ?_) (fun _ s' hq => wpAny_pure (wpAny_pure hq)) fun _ _ e => e)
  show wpAny _ X.A (assign (.Name z pz) X.env (.ref D')) _ _ s'
  refine wpAny_assign_Name (store_ok2 IX hN hi' hz (show RelV (.ref D') (.ref D') from rfl) (fun s2 I2 hch => ?_) hf)
  obtain ⟨a, sb, ha⟩ := hch
  have hCa : C ≠ a := by
    rcases ha with e | e
    · rw [e]; exact fC.2.1
    · intro z'; exact fC.2.2.2.2.1 _ _ e z'.symm
  refine ⟨m, hn.sameBut sb hCa, fun h' hs' => ?_⟩
  exact ⟨_, H', I2.turned (t' := s2.toks) (fun b o hb e => hs'.extBut b o hb e) fC.1 fC.2.1 fC.2.2.2.1 fC.2.2.2.2.1 fC.2.2.2.2.2, q⟩

theorem pe_lc (L : LcScope X x scope) (hi : PI X (.Name x px) iter wi) (ht : ∀ cl C s3 H3 fp, PTs (blk X x scope cl C s3 H3 fp) ifs tt) (he : ∀ cl C s3 H3 fp, PE (blk X x scope cl C s3 H3 fp) elt te)
    (hs : ∀ x, foldedSetIterable iter X.env x = pure x := by intro _; rfl) : PE X (.ListComp elt [⟨.Name x px, iter, ifs, 0⟩] scope pos) (tLC wi tt te) := by
  intro pins s σ H Q I h
  rw [eval_ListComp]
  refine lc_core (use := none) (QV := Q) L I (hi pins s σ H _ I h) ht he hs fun D C H' s' m IX fC hn q => ?_
  refine ⟨m, hn, fun h' hs' => ⟨.ref D, H', IX.turned (t' := s'.toks) (fun b o hb e => hs'.extBut b o hb e) fC.1 fC.2.1 fC.2.2.2.1 fC.2.2.2.2.1 fC.2.2.2.2.2, rfl, q⟩⟩
end
end L2

set_option Elab.async false
set_option linter.all false
set_option maxRecDepth 100000
set_option maxHeartbeats 1000000
namespace L2
open PySem PySem.Spec PyProof.Rows


def S (l : List Nat) : Str := ⟨l.toArray⟩
theorem S_len (l : List Nat) : (S l).length = l.length := by simp [S, Str.length]
theorem S_size (l : List Nat) : (S l).cps.size = l.length := by simp [S]
theorem S_get (l : List Nat) (i : Nat) : (S l).cps[i]? = l[i]? := by simp [S]
theorem S_of (x : Str) : S x.cps.toList = x := by simp [S]
theorem S_inj {a b : List Nat} : S a = S b ↔ a = b := ⟨fun h => by have := congrArg (fun x => x.cps.toList) h; simpa [S] using this, fun h => by rw [h]⟩
theorem S_app (a b : List Nat) : S a ++ S b = S (a ++ b) := by
  show Str.append (S a) (S b) = _
  simp [S, Str.append]
theorem V_inj {a b : List Nat} : (V.str (S a) = V.str (S b)) = (a = b) := by
  rw [V.str.injEq, S_inj]

section
variable {X : Cx} {a b e : Expr} {ta tb te : TE} {pos : Pos}

theorem pe_S {x : Str} {l : List Nat} {j pos} (h : x = S l) : PE X (.Constant (.str x) j pos) (tC (.str (S l))) := by
  subst h; exact pe_str

theorem op_addS : OpR X (binaryOp .Add) (fun x y H Q => ∃ i j, x = .str (S i) ∧ y = .str (S j) ∧ i.length + j.length ≤ sizeLine ∧ Q (.str (S (i ++ j))) H) := by
  intro pins s σ H x y v u Q I rx ry h
  obtain ⟨i, j, rfl, rfl, hz, q⟩ := h
  exact op_add_str pins s σ H _ _ v u Q I rx ry ⟨S i, S j, rfl, rfl, by rw [S_len, S_len]; exact hz, by rw [S_app]; exact q⟩
theorem op_mulI : OpR X (binaryOp .Mult) (rI IntMulOk fun i j => .int (i * j)) := opI fun _ _ _ _ _ _ _ hc q => mul_int q hc
theorem op_inS : OpR X (compareOp .In) (fun x y H Q => ∃ c l, x = .str (S [c]) ∧ y = .str (S l) ∧ Q (.bl (decide (c ∈ l))) H) := by
  intro pins s σ H x y v u Q I rx ry h
  obtain ⟨c, l, rfl, rfl, q⟩ := h
  refine op_in_str pins s σ H _ _ v u Q I rx ry ⟨S [c], S l, rfl, rfl, ?_⟩
  rw [show S [c] = ⟨#[c]⟩ from rfl, StrLaws.found_one]
  exact q
theorem op_notinS : OpR X (compareOp .NotIn) (fun x y H Q => ∃ c l, x = .str (S [c]) ∧ y = .str (S l) ∧ Q (.bl (!decide (c ∈ l))) H) := by
  intro pins s σ H x y v u Q I rx ry h
  obtain ⟨c, l, rfl, rfl, q⟩ := h
  refine op_notin_str pins s σ H _ _ v u Q I rx ry ⟨S [c], S l, rfl, rfl, ?_⟩
  rw [show S [c] = ⟨#[c]⟩ from rfl, StrLaws.found_one]
  exact q

def rIxSS : R2 := fun x y H Q => ∃ l i c, x = .str (S l) ∧ y = .int i ∧ l.length ≤ sizeLine ∧ atI l i = some c ∧ Q (.str (S [c])) H
theorem ix_S : IxR X rIxSS := by
  intro value slice pins s σ H x y v u Q I rx ry h hs
  obtain ⟨l, i, c, rfl, rfl, hz, he, q⟩ := h
  exact ix_str value slice pins s σ H _ _ v u Q I rx ry ⟨S l, i, c, rfl, rfl, by rw [S_len]; exact hz, he, q⟩ hs

theorem call_lenS : CallR X (.builtin "len") (fun xs H Q => ∃ l, xs = [.str (S l)] ∧ l.length ≤ sizeLine ∧ Q (.int l.length) H) := by
  intro pins s σ H xs us Q I r h
  obtain ⟨l, rfl, hz, q⟩ := h
  exact call_len_str pins s σ H _ us Q I r ⟨S l, rfl, by rw [S_len]; exact hz, by rw [S_len]; exact q⟩


def cutN (xs : List Nat) (lo hi : Option Int) : List Nat := (xs.drop (HT.sIx xs.length 0 lo)).take (HT.sIx xs.length xs.length hi - HT.sIx xs.length 0 lo)

end
end L2

set_option Elab.async false
set_option linter.all false
set_option maxRecDepth 100000
set_option maxHeartbeats 1000000
namespace L2
open PySem PySem.Spec PyProof.Rows

section
variable {X : Cx} {a b e : Expr} {ta tb te : TE} {pos : Pos}

theorem strIdx (lo hi : Option Int) (n : Nat) : Builtin.Str.strSliceIndices lo hi 1 n = (List.range (HT.sIx n n hi - HT.sIx n 0 lo)).map (HT.sIx n 0 lo + ·) := by
  have h1 : (match lo with | none => (0 : Int) | some i => max 0 (min (if i < 0 then i + (n : Int) else i) (n : Int))) = ((HT.sIx n 0 lo : Nat) : Int) := by
    cases lo with
    | none => simp [HT.sIx]
    | some i =>
      simp only [HT.sIx]
      by_cases h : i < 0
      · simp only [h, if_true]; omega
      · simp only [h, if_false]; omega
  have h2 : (match hi with | none => (n : Int) | some i => max 0 (min (if i < 0 then i + (n : Int) else i) (n : Int))) = ((HT.sIx n n hi : Nat) : Int) := by
    cases hi with
    | none => simp [HT.sIx]
    | some i =>
      simp only [HT.sIx]
      by_cases h : i < 0
      · simp only [h, if_true]; omega
      · simp only [h, if_false]; omega
  rw [← sliceRange_one, ← h1, ← h2]
  cases lo <;> cases hi <;> rfl

theorem sIx_hi_le (n : Nat) (hi : Option Int) : HT.sIx n n hi ≤ n := HT.sIx_le n n (Nat.le_refl _) hi
theorem sl_S : SlR X (fun x lo hi H Q => ∃ l, x = .str (S l) ∧ l.length ≤ sizeLine ∧ Q (.str (S (cutN l lo hi))) H) := by
  intro pins s σ H x v vl vu lo hi sl Q I rx hs pl pu h
  obtain ⟨l, rfl, hz, q⟩ := h
  obtain ⟨t, rfl⟩ := rx
  refine ⟨"str", _, F.slot_str_getitem.lookup, typeIs_str s _ t, ?_⟩
  obtain ⟨pl', el⟩ : ∃ p, vl = partValue p ∧ p.map (·.1) = lo := by
    cases pl with
    | none => exact ⟨none, rfl, rfl⟩
    | int i t => exact ⟨some (i, t), rfl, rfl⟩
  obtain ⟨pu', eu⟩ : ∃ p, vu = partValue p ∧ p.map (·.1) = hi := by
    cases pu with
    | none => exact ⟨none, rfl, rfl⟩
    | int i t => exact ⟨some (i, t), rfl, rfl⟩
  have hsl : s.heap.IsSlice sl pl' pu' none := by
    obtain ⟨o, h1, h2, h3⟩ := hs
    exact ⟨o, h1, h2, by rw [h3, el.1, eu.1]; rfl⟩
  refine wpAny_getItem_str_slice hsl rfl ?_
  unfold sliceMade slicePicked
  refine post_val_or_made (fun _ => ?_) fun t' k => ?_
  · rw [el.2, eu.2, Option.map_none, Option.getD_none, strIdx, S_len]
    have e : ((List.range (HT.sIx l.length l.length hi - HT.sIx l.length 0 lo)).map (HT.sIx l.length 0 lo + ·)).filterMap ((S l).cps[·]?) = cutN l lo hi := by
      rw [pick_run]; rfl
    rw [e]
    show (S (cutN l lo hi)).length ≤ sizeLine
    rw [S_len]
    unfold cutN
    rw [List.length_take, List.length_drop]
    omega
  · refine ⟨.str _, H, I.tok _, ⟨_, rfl⟩, ?_⟩
    rw [el.2, eu.2, Option.map_none, Option.getD_none, strIdx, S_len]
    have e : ((List.range (HT.sIx l.length l.length hi - HT.sIx l.length 0 lo)).map (HT.sIx l.length 0 lo + ·)).filterMap ((S l).cps[·]?) = cutN l lo hi := by
      rw [pick_run]; rfl
    rw [e]
    split
    · rename_i hc
      have hc' : HT.sIx l.length l.length hi - HT.sIx l.length 0 lo = l.length := by
        simpa using hc
      have h2 := sIx_hi_le l.length hi
      have e2 : cutN l lo hi = l := by
        unfold cutN
        have h3 : HT.sIx l.length 0 lo = 0 := by
          by_cases hl : l.length = 0
          · have := HT.sIx_le l.length 0 (Nat.zero_le _) lo; omega
          · omega
        rw [hc', h3, List.drop_zero, List.take_length]
      rw [e2] at q
      exact q
    · exact q


def rJoin (K : PySem.W.Frag) : V → List V → Hp → VK → Prop := fun x vs H Q => ∃ (D : Addr) (ls : List (List Nat)), x = .str (S []) ∧ vs = [.ref D] ∧ SqL K H D (ls.map fun l => V.str (S l)) ∧ ls.flatten.length ≤ 16777216 ∧ Q (.str (S ls.flatten)) H
def rIndex : V → List V → Hp → VK → Prop := fun x vs H Q => ∃ l c, x = .str (S l) ∧ vs = [.str (S [c])] ∧ c ∈ l ∧ ∀ i : Nat, l[i]? = some c → Q (.int (i : Int)) H
def dg (n : Nat) : List Nat := if n < 10 then [48 + n] else [48 + n / 10, 48 + n % 10]
theorem dg_char : ∀ d : Nat, d < 10 → (Nat.digitChar d).toNat = 48 + d := by decide
theorem str_dg {n : Nat} (h : n < 100) : (PySem.Str.ofString (toString ((n : Nat) : Int))) = S (dg n) := by
  have e := PySem.W.KIN.signs_num n
  have e2 : (Nat.toDigits 10 n).map Char.toNat = dg n := by
    unfold dg
    by_cases h1 : n < 10
    · rw [Nat.toDigits_of_lt_base h1, if_pos h1, List.map_singleton, dg_char n h1]
    · have t : Nat.toDigits 10 (n / 10) ++ Nat.toDigits 10 (n % 10) = Nat.toDigits 10 (10 * (n / 10) + n % 10) := Nat.toDigits_append_toDigits (by decide) (by omega) (by omega)
      rw [Nat.div_add_mod] at t
      rw [← t, Nat.toDigits_of_lt_base (by omega : n / 10 < 10), Nat.toDigits_of_lt_base (by omega : n % 10 < 10), if_neg h1, List.map_append, List.map_singleton, List.map_singleton, dg_char _ (by omega), dg_char _ (by omega)]
      rfl
  rw [← S_of (PySem.Str.ofString _), e, e2]
theorem log_small {i : Int} (h0 : 0 ≤ i) (h1 : i < 1000000) : i.natAbs.log2 < 1920 := by
  have : i.natAbs < 2 ^ 20 := by omega
  by_cases hz : i.natAbs = 0
  · rw [hz]; decide
  · have := (Nat.log2_lt hz).mpr this
    omega
theorem call_strS : CallR X (.type "str") (fun xs H Q => ∃ n : Nat, xs = [.int n] ∧ n < 100 ∧ Q (.str (S (dg n))) H) := by
  intro pins s σ H xs us Q I r h
  obtain ⟨n, rfl, hn, q⟩ := h
  refine call_str_int pins s σ H _ us Q I r ⟨n, rfl, log_small (by omega) (by omega), ?_⟩
  have e : (↑(toString (n : Int)) : Str) = S (dg n) := str_dg hn
  rw [e]
  exact q
def dg2 (n : Nat) : List Nat := [48 + n / 10, 48 + n % 10]
def rZfill : V → List V → Hp → VK → Prop := fun x vs H Q => ∃ n : Nat, x = .str (S (dg n)) ∧ vs = [.int 2] ∧ n < 100 ∧ Q (.str (S (dg2 n))) H
def isFig (c : Nat) : Bool := 48 ≤ c && c ≤ 57
end
end L2

set_option Elab.async false
set_option linter.all false
set_option maxRecDepth 100000
set_option maxHeartbeats 1000000
namespace L2
open PySem PySem.Spec PyProof.Rows


structure OkF (P : Program) (w : World) (K : PySem.W.Frag) (mg : Str → Option Value) (base : Heap) (k : Nat) (x : Str) (ps : List Str) (sp : Sp) : Prop where
  ex : ∃ (f : Addr) (fd : FuncData), PySem.W.keepIn K (.ref f) = true ∧ Binds K fd ps [] ∧ (mg x = some (.ref f) ∧ ∃ oc od osl, K.lookup f = some ⟨oc, od, .func fd, osl⟩) ∧ FnOk P w K mg base CX0 k f fd ps sp

structure Df (K : PySem.W.Frag) (mg : Str → Option Value) (x : Str) (st : Stmt) (ps : List Str) : Prop where
  ex : ∃ (f : Addr) (fd : FuncData), Fun K x x st f fd ∧ Binds K fd ps [] ∧ mg x = some (.ref f)

section
variable {P : Program} {w : World} {K : PySem.W.Frag} {mg : Str → Option Value} {base : Heap}
theorem Df.ok {x : Str} {st : Stmt} {ps N : List Str} {k : Nat} {sp : Sp} (D : Df K mg x st ps) (Sc : FnScope N ps (defScope st)) (len : ∀ vs H Q E, sp vs H Q E → vs.length = ps.length)
    (hbody : ∀ (f : Addr) (cdv : Value) (A : Around) (outer : List Env) (s : Shared) (H : Hp) (vs : List V) (Q : VK) (E : XK), Room k (A.deeper (envOfC x (defScope st) s.heap.objs.size f cdv)) → sp vs H Q E →
      ∃ t, PSs (cxOf CX0 P w K mg base N x (defScope st) f cdv A outer s H E).nox (defBody st) t ∧ t { nx := fun _ H' => Q .non H', rt := Q } (start N vs) H) : OkF P w K mg base (k + 1) x ps sp := by
  obtain ⟨f, fd, F, b, m⟩ := D.ex
  refine ⟨f, fd, F.kp, b, ⟨m, ?_⟩, F.ok Sc len (fun cdv A outer s H vs Q E hr h => hbody f cdv A outer s H vs Q E hr h)⟩
  obtain ⟨oc, od, kV, doc, pm, an, cdv, ct, osl, rfl, lk, hcd⟩ := F.ex
  exact ⟨oc, od, osl, lk⟩
theorem OkF.mono {j k : Nat} {x : Str} {ps : List Str} {sp : Sp} (F : OkF P w K mg base j x ps sp) (h : j ≤ k) : OkF P w K mg base k x ps sp := by
  obtain ⟨f, fd, kp, b, m, G⟩ := F.ex
  exact ⟨f, fd, kp, b, m, G.mono h⟩
theorem OkF.imp {k : Nat} {x : Str} {ps : List Str} {sp sp' : Sp} (F : OkF P w K mg base k x ps sp) (h : ∀ vs H Q E, sp' vs H Q E → sp vs H Q E) : OkF P w K mg base k x ps sp' := by
  obtain ⟨f, fd, kp, b, m, G⟩ := F.ex
  exact ⟨f, fd, kp, b, m, G.imp h⟩
end
section
variable {P : Program} {w : World} {K : PySem.W.Frag} {mg : Str → Option Value} {base : Heap}

theorem df_mk {h : Heap} {x : Str} {st : Stmt} {ps : List Str} {f : Addr} {oc : Value} {od an : Option Addr} {osl : Array (Option Value)} {kV doc pm cdv ct : Value} (X : K.In h) (G : h.Ns mainGlobals mg)
    (b : ∀ (kV doc pm : Value) (an : Option Addr) (cdv ct : Value) (us : List Value), us.length = ps.length → bindArgs (PySem.W.fnOf x x (defArgs st) (defBody st) (defScope st) .none kV doc pm an cdv ct) ⟨us, []⟩ = pure (ps.zip us))
    (a : PySem.W.nsIn K mainGlobals x = some (some (.ref f))) (l : K.lookup f = some ⟨oc, od, .func (PySem.W.fnOf x x (defArgs st) (defBody st) (defScope st) .none kV doc pm an cdv ct), osl⟩)
    (c : PySem.W.codeIn K cdv x = true) (k : PySem.W.keepIn K (.ref f) = true) : Df K mg x st ps :=
  ⟨f, _, fun_mk l c k, (fun_mk l c k).binds b, PySem.W.mg_of X G a⟩

theorem law_of {st : Stmt} {x : Str} {k : Nat} {fa : Addr} {sp : Sp} (D : Df K mg "law" st [x]) (hfa : mg "law" = some (.ref fa))
    (hb : ∀ (kV doc pm : Value) (an : Option Addr) (cdv ct : Value) (s : Shared) (u : Value), BindsTo s (PySem.W.fnOf "law" "law" (defArgs st) (defBody st) (defScope st) .none kV doc pm an cdv ct) ⟨[u], []⟩ [(x, u)])
    (F : ∀ base : Heap, OkF P w K mg base k "law" [x] sp) :
    ∃ fd : FuncData, (∀ (s : Shared) (v : Value), BindsTo s fd ⟨[v], []⟩ [(x, v)]) ∧ ∀ base : Heap, K.In base → base.Ns mainGlobals mg → FnOk P w K mg base CX0 k fa fd [x] sp := by
  obtain ⟨f, fd, G, b, m⟩ := D.ex
  have e : f = fa := by rw [hfa] at m; cases m; rfl
  subst e
  obtain ⟨oc, od, kV, doc, pm, an, cdv, ct, osl, rfl, lk, hcd⟩ := G.ex
  refine ⟨_, fun s v => hb kV doc pm an cdv ct s v, fun base _ _ => ?_⟩
  obtain ⟨f', fd', _, _, ⟨m', oc', od', osl', lk'⟩, ok⟩ := (F base).ex
  have e : f' = f := by rw [hfa] at m'; cases m'; rfl
  subst e
  rw [lk] at lk'
  cases lk'
  exact ok
end
section
variable {X : Cx} {k j : Nat} {x : Str} {ps : List Str} {sp : Sp} {p pos : Pos} {e : Expr} {es : List Expr} {t : TA}
theorem pe_callF (F : OkF X.prog X.w X.K X.mg X.base k x ps sp) (hr : Room j X.A) (hk : k ≤ j) (ha : PA X (e :: es) t) (hg : Gl X x := by rfl) (hdb : (x == ("__debug__" : Str)) = false := by decide)
    (he : starEach (e :: es) X.env = (false, eval e X.env) :: starEach es X.env := by rfl) (hpl : (backTo pos (starEach es X.env)).any (·.1) = false := by rfl) : PE X (.Call (.Name x p) (e :: es) [] pos) (tCall sp [] E0 t) := by
  obtain ⟨f, fd, kp, b, m, G⟩ := F.ex
  exact pe_call G (hr.mono hk) hg m.1 kp b .nil pass0 ha hdb he hpl
theorem pe_gl {v : V} {pos : Pos} (h : ∃ u, X.mg x = some u ∧ RelV v u) (hg : Gl X x := by rfl) (hd : (x == ("__debug__" : Str)) = false := by decide) : PE X (.Name x pos) (tC v) := by
  obtain ⟨u, m, r⟩ := h
  exact pe_glob hg m r hd
theorem pe_blt {v : V} {u : Value} {pos : Pos} (hm : X.mg x = none) (hv : bootBuiltins x = some u) (r : RelV v u) (hg : Gl X x := by rfl) (hn : x ≠ "__name__" := by decide) (hd : (x == ("__debug__" : Str)) = false := by decide) : PE X (.Name x pos) (tC v) :=
  pe_bltn hg hm hv r hn hd

theorem lcs {N : List Str} {sc scope : Scope} (e1 : X.N = N) (e2 : X.env.scope = sc) (c : X.calm = true)
    (h : x ∉ N ∧ N.Nodup ∧ scope.kind = .function ∧ (∀ y ∈ scope.names, y.2 ≠ .cell) ∧ (∀ y ∈ scope.names, y.2 = .local → scope.names.lookup y.1 = some .local) ∧ scope.names.lookup x = some .local ∧
      (∀ y ∈ scope.names, y.2 = .free → sc.names.lookup y.1 = some .cell) ∧ (∀ y ∈ N, scope.names.lookup y ≠ some .local)) : LcScope X x scope := by
  subst e1 e2
  obtain ⟨h1, h2, h3, h4, h5, h6, h7, h8⟩ := h
  exact ⟨h1, h2, h3, h4, h5, h6, h7, h8, c⟩

theorem op_addA : OpR X (binaryOp .Add) (fun x y H Q => (∃ i j, x = .int i ∧ y = .int j ∧ Q (.int (i + j)) H) ∨ ∃ i j, x = .str (S i) ∧ y = .str (S j) ∧ i.length + j.length ≤ sizeLine ∧ Q (.str (S (i ++ j))) H) := op_add.or op_addS
theorem call_isinst : CallR X (.builtin "isinstance") (fun xs H Q => ∃ x n t b, xs = [x, .ty n] ∧ TyOf X.K H x t ∧ PySem.W.kitOne X.K t (.type n) = some b ∧ Q (.bl b) H) := by
  intro pins s σ H xs us Q I r h
  obtain ⟨x, n, t, b, rfl, ty, e, q⟩ := h
  obtain ⟨u, w', rfl, rx, ry⟩ := vals2 r
  cases ry
  exact isinst_ok I rx ty e fun tk => ⟨.bl b, H, I.tok _, rfl, q⟩
section
variable {K : PySem.W.Frag} {o : Expr} {to : TE} {name : Str} {apos cpos : Pos} {T id : String} {r : V → List V → Hp → VK → Prop}
theorem pe_bmK (hK : X.K = K) (pa : PlainAttrs T) (slot : Slot T name id) (hty : typeOf (.builtin id) = pure (.type "method_descriptor")) (hm : MtR X id r) (ho : PE X o to) (ha : PA X (e :: es) t)
    (hbase : attributeBase o name X.env (eval o X.env) = eval o X.env := by rfl)
    (hfew : ((backTo cpos (starEach (e :: es) X.env)).all (fun x => !x.1) && (backToKw cpos (keywordEach [] X.env)).all (fun x => x.1.isSome)
      && decide ((e :: es).length + ([] : List Keyword).length + (if ([] : List Keyword).isEmpty then 0 else 1) < 30)) = true := by rfl)
    (hline : (apos.endLine == cpos.line) = true := by rfl) (hs : starEach (e :: es) X.env = (false, eval e X.env) :: starEach es X.env := by rfl) (hplain : (backTo cpos (starEach es X.env)).any (·.1) = false := by rfl) :
    PE X (.Call (.Attribute o name apos) (e :: es) [] cpos) (tBM K T r to t) := by
  subst hK
  exact pe_bm pa slot hty hm ho ha hbase hfew hline hs hplain
theorem ix_listK (hK : X.K = K) : IxR X (rIxL K) := by subst hK; exact ix_list
theorem ix_tupK (hK : X.K = K) : IxR X (rIxT K) := by subst hK; exact ix_tup
def rLenL (K : PySem.W.Frag) : List V → Hp → VK → Prop := fun xs H Q => ∃ p ys, xs = [.ref p] ∧ (SqL K H p ys ∨ SqT K H p ys) ∧ Q (.int ys.length) H
theorem call_lenLK (hK : X.K = K) : CallR X (.builtin "len") (rLenL K) := by subst hK; exact call_len_seq
theorem sl_listK (hK : X.K = K) : SlR X (rSlL K) := by subst hK; exact sl_list
theorem pi_listK {tg l : Expr} {tl : TE} (hK : X.K = K) (hl : PE X l tl) : PI X tg l (iList K tl) := by subst hK; exact pi_list hl
end
end
end L2

set_option Elab.async false
set_option linter.all false
set_option maxRecDepth 100000
set_option maxHeartbeats 1000000
namespace L2
open PySem PySem.Spec PyProof.Rows
theorem bb_len : bootBuiltins "len" = some (.builtin "len") := by decide +kernel
theorem bb_str : bootBuiltins "str" = some (.type "str") := by decide +kernel
theorem bb_int : bootBuiltins "int" = some (.type "int") := by decide +kernel
theorem bb_bool : bootBuiltins "bool" = some (.type "bool") := by decide +kernel
theorem bb_isinstance : bootBuiltins "isinstance" = some (.builtin "isinstance") := by decide +kernel


def sg : List Nat := [32, 33, 34, 35, 36, 38, 39, 40, 41, 42, 43, 44, 45, 46, 47, 48, 49, 50, 51, 52, 53, 54, 55, 56, 57, 58, 59, 60, 61, 62, 63, 64, 65, 66, 67, 68, 69, 70, 71, 72, 73, 74, 75, 76, 77, 78, 79, 80, 81, 82, 83, 84, 85, 86, 87, 88, 89, 90, 91, 92, 93, 94, 95, 96, 97, 98, 99, 100, 101, 102, 103, 104, 105, 106, 107, 108, 109, 110, 111, 112, 113, 114, 115, 116, 117, 118, 119, 120, 121, 122, 123, 124, 125, 126]
theorem sg_len : sg.length = 94 := by decide
theorem atI_z {α : Type} (xs : List α) (i : Nat) : atI xs (i : Int) = xs[i]? := by
  cases h : xs[i]? with
  | some v => exact atI_nat h
  | none =>
    have h1 : xs.length ≤ i := List.getElem?_eq_none_iff.mp h
    unfold atI ixN
    rw [if_pos (by omega), if_neg (by omega)]
    rfl
theorem same_upd {H : Hp} {a : Addr} {o : HO} (h : H a = none) : Same H (upd H a o) := fun b u e => by rw [upd_ne (ne_of_none e h)]; exact e

end L2

set_option Elab.async false
set_option linter.all false
set_option maxRecDepth 100000
set_option maxHeartbeats 1000000
namespace L2
open PySem PySem.Spec PyProof.Rows

def forBody (J : It) (g : TG) (tb : TS) (D : Ends) (σ : St) (H1 : Hp) : Prop := ∃ W : Nat → Nat → St → Hp → Prop, (∃ m, W 0 m σ H1) ∧ ∀ i m σ H, W i m σ H →
  (J.stop i H ∧ D.nx σ H) ∨ (J.go i H ∧ ∃ N : St → Hp → Prop, (∀ σ' H', N σ' H' → ∃ m', m' < m ∧ W (i + 1) m' σ' H') ∧ ∀ x H', J.yld i H x H' → g x σ H' fun σ2 H2 => tb { D with nx := N, ct := N, bk := D.nx } σ2 H2)
theorem tFor_eq (wi : TI) (g : TG) (tb : TS) : tFor wi g tb = fun D σ H => wi σ H fun J H1 => forBody J g tb D σ H1 := rfl
def whBody (c : TT) (tb : TS) (D : Ends) (σ : St) (H : Hp) : Prop := ∃ W : Nat → St → Hp → Prop, (∃ m, W m σ H) ∧ ∀ m σ H, W m σ H →
  c σ H fun b H1 => if b = true then ∃ N : St → Hp → Prop, (∀ σ' H', N σ' H' → ∃ m', m' < m ∧ W m' σ' H') ∧ tb { D with nx := N, ct := N, bk := D.nx } σ H1 else D.nx σ H1
theorem tWhile_eq (c : TT) (tb : TS) : tWhile c tb = fun D σ H => whBody c tb D σ H := rfl

theorem fb_list {K : PySem.W.Frag} {a : Addr} {xs : List V} {g : TG} {tb : TS} {D : Ends} {σ : St} {H : Hp} (Pv : Nat → St → Hp → Prop) (h0 : Pv 0 σ H) (hl : ∀ i σ H, i ≤ xs.length → Pv i σ H → SqL K H a xs)
    (hs : ∀ i x σ H, xs[i]? = some x → Pv i σ H → g x σ H fun σ2 H2 => tb { D with nx := Pv (i + 1), ct := Pv (i + 1), bk := D.nx } σ2 H2) (hd : ∀ σ H, Pv xs.length σ H → D.nx σ H) : forBody (Itl K a) g tb D σ H := for_list Pv h0 hl hs hd
theorem fb_range {n : Nat} {g : TG} {tb : TS} {D : Ends} {σ : St} {H : Hp} (Pv : Nat → St → Hp → Prop) (h0 : Pv 0 σ H)
    (hs : ∀ i σ H, i < n → Pv i σ H → g (.int (i : Int)) σ H fun σ2 H2 => tb { D with nx := Pv (i + 1), ct := Pv (i + 1), bk := D.nx } σ2 H2) (hd : ∀ σ H, Pv n σ H → D.nx σ H) : forBody (Itr 0 n) g tb D σ H := by
  refine ⟨fun i m σ H => m = n - i ∧ i ≤ n ∧ Pv i σ H, ⟨n, by simp, Nat.zero_le _, h0⟩, ?_⟩
  rintro i m σ H ⟨rfl, hi, p⟩
  by_cases hlt : i < n
  · refine .inr ⟨hlt, Pv (i + 1), fun σ' H' p' => ⟨n - (i + 1), by omega, rfl, hlt, p'⟩, fun x H' y => ?_⟩
    obtain ⟨rfl, rfl⟩ := y
    rw [Int.zero_add]
    exact hs i σ _ hlt p
  · have e : i = n := by omega
    subst e
    exact .inl ⟨Nat.le_refl _, hd σ H p⟩

theorem take_snoc {α : Type} {l : List α} {i : Nat} {c : α} (h : l[i]? = some c) : l.take (i + 1) = l.take i ++ [c] := by
  rw [List.take_succ, h]
  rfl

end L2

set_option Elab.async false
set_option linter.all false
set_option maxRecDepth 100000
set_option maxHeartbeats 1000000
namespace L2
open PySem PySem.Spec PyProof.Rows

theorem atI_0 {α : Type} (c : α) (l : List α) : atI (c :: l) 0 = some c := by rw [show (0 : Int) = ((0 : Nat) : Int) from rfl, atI_z]; rfl
theorem atI_1 {α : Type} (c d : α) (l : List α) : atI (c :: d :: l) 1 = some d := by rw [show (1 : Int) = ((1 : Nat) : Int) from rfl, atI_z]; rfl
theorem atI_int {α : Type} {xs : List α} {i : Int} (h0 : 0 ≤ i) (h1 : i < xs.length) : ∃ v, atI xs i = some v ∧ xs[i.toNat]? = some v := by
  obtain ⟨n, rfl⟩ := Int.eq_ofNat_of_zero_le h0
  have hn : n < xs.length := by omega
  refine ⟨xs[n], ?_, ?_⟩
  · rw [show ((n : Nat) : Int) = ((n : Nat) : Int) from rfl]
    rw [atI_z, List.getElem?_eq_getElem hn]
  · rw [Int.toNat_natCast, List.getElem?_eq_getElem hn]
theorem atI_ints {ns : List Int} {i : Int} (h0 : 0 ≤ i) (h1 : i < ns.length) : ∃ n, atI (ns.map V.int) i = some (.int n) ∧ n ∈ ns := by
  obtain ⟨v, h2, h3⟩ := atI_int (xs := ns.map V.int) h0 (by rw [List.length_map]; exact h1)
  rw [List.getElem?_map] at h3
  cases e : ns[i.toNat]? with
  | none => rw [e] at h3; cases h3
  | some n =>
    rw [e] at h3
    cases h3
    exact ⟨n, h2, List.mem_of_getElem? e⟩
theorem mulOk_l {i j : Int} (h : -(2 ^ 64) < i ∧ i < 2 ^ 64) : IntMulOk i j := CMul.ok (.inl h)
theorem mulOk_r {i j : Int} (h : -(2 ^ 64) < j ∧ j < 2 ^ 64) : IntMulOk i j := CMul.ok (.inr h)
theorem mod_nn {a m : Int} (h : 0 < m) : 0 ≤ a % m ∧ a % m < m := ⟨Int.emod_nonneg _ (by omega), Int.emod_lt_of_pos _ h⟩


def told (l : List Nat) : Option Nat := match l with
  | [c, d] => if isFig c = true ∧ isFig d = true then sg[(c - 48) * 10 + (d - 48)]? else none
  | _ => none
end L2

set_option Elab.async false
set_option linter.all false
set_option maxRecDepth 100000
set_option maxHeartbeats 1000000
namespace L2
open PySem PySem.Spec PyProof.Rows


def rMulS : R2 := fun x y H Q => ∃ (l : List Nat) (n : Int), x = .str (S l) ∧ y = .int n ∧ 0 ≤ n ∧ n ≤ 100000 ∧ l.length * n.toNat ≤ 16777216 ∧ Q (.str (S (List.replicate n.toNat l).flatten)) H
def ws : List Nat := [97, 98, 99, 100, 101, 102, 103, 104, 105, 106, 107, 108, 109, 110, 111, 112, 113, 114, 115, 116, 117, 118, 119, 120, 121, 122, 48, 49, 50, 51, 52, 53, 54, 55, 56, 57, 45]
end L2

set_option Elab.async false
set_option linter.all false
set_option maxRecDepth 100000
set_option maxHeartbeats 1000000
namespace L2
open PySem PySem.Spec PyProof.Rows


def Fly (h : Heap) (e T : Addr) (cls : Value) (d : Option Addr) (fl : Value) : Prop :=
  ∃ sl vs oT ts, h.get? e = some ⟨cls, d, .fields vs, sl⟩ ∧ vs[1]? = some (.ref T) ∧ T ≠ e ∧ h.get? T = some oT ∧ oT.data = .fields ts ∧ ts[3]? = some fl

structure Kp (ch fs : List Addr) (h h' : Heap) : Prop where
  keep : ∀ b o, b ∉ ch → b ∉ fs → h.get? b = some o → h'.get? b = some o
  slot : ∀ b o, b ∉ ch → h.get? b = some o → ∃ sl, h'.get? b = some { o with slots := sl }
theorem Kp.trans {ch ch' fs : List Addr} {h h1 h2 : Heap} (a : Kp ch fs h h1) (b : Kp ch' fs h1 h2) : Kp (ch ++ ch') fs h h2 where
  keep := fun x o hx hf q => b.keep x o (fun z => hx (List.mem_append_right _ z)) hf (a.keep x o (fun z => hx (List.mem_append_left _ z)) hf q)
  slot := fun x o hx q => by
    obtain ⟨sl, q1⟩ := a.slot x o (fun z => hx (List.mem_append_left _ z)) q
    obtain ⟨sl', q2⟩ := b.slot x _ (fun z => hx (List.mem_append_right _ z)) q1
    exact ⟨sl', q2⟩
theorem Kp.mono {ch ch' fs fs' : List Addr} {h h1 : Heap} (a : Kp ch fs h h1) (h1' : ∀ b ∈ ch, b ∈ ch') (h2' : ∀ b ∈ fs, b ∈ fs') : Kp ch' fs' h h1 :=
  ⟨fun b o hx hf q => a.keep b o (fun z => hx (h1' b z)) (fun z => hf (h2' b z)) q, fun b o hx q => a.slot b o (fun z => hx (h1' b z)) q⟩

section
variable {M : Model} {A : Around} {E : Value → Shared → Prop} {s : Shared}

theorem entry_new {base : Heap} {env : Env} {outer : List Env} {L e : Addr} {cls head : Value} {d : Option Addr} {vs : Array Value} {sl : Array (Option Value)} {nx : Bool} {Q : Unit → Shared → Prop}
    (hfr : A.frames = some (env :: outer)) (hl : s.heap.FunFrames base (env :: outer)) (hf : env.frame = some L) (he : s.heap.get? e = some ⟨cls, d, .fields vs, sl⟩) (hv : 1 < vs.size)
    (k : ∀ h' T, s.heap.objs.size ≤ T → Fly h' e T cls d (rawInt L) → Kp [e] (frs (env :: outer)) s.heap h' → Q () { s with heap := h' }) :
    wpAny M A (do let a ← frameOf env; let pl ← entryPlaceOf L nx; let b ← EntryCells.newEntry head a .none (rawInt L) .none pl; setField (.ref e) 1 b) Q E s := by
  have ne : e ∉ (env :: outer).filterMap (·.frame) := fun hm => by
    obtain ⟨_, o, ho, hn⟩ := hl.mem hm
    rw [he] at ho
    cases ho
    exact hn vs rfl
  refine wpAny_bind (wpAny_frameOf_fun hfr hl hf fun g hg => wpAny_bind (wpAny_entryPlaceOf fun pl hpl => ?_))
  have e1 : g.get? e = some ⟨cls, d, .fields vs, sl⟩ := (hg.2.1 e ne).trans he
  unfold EntryCells.newEntry newFields
  refine wpAny_bind (wpAny_newObj_type ?_ (hpl.sizeOk5 _ _ _ _ _))
  generalize hT : ({ cls := .type "traceback", dict := none, data := .fields ([head, .ref L, .none, rawInt L, .none] ++ (if pl.isEmpty then List.replicate 6 Value.none else pl)).toArray } : Obj) = tb
  have e2 := Heap.get?_push_of_some (h := g) tb e1
  have tn : g.objs.size ≠ e := Nat.ne_of_gt (Heap.lt_size e1)
  refine wpAny_setField e2 rfl hv (k _ g.objs.size ?_ ?_ ?_)
  · rw [hg.1]; exact Nat.le_refl _
  · refine ⟨sl, _, tb, ([head, .ref L, .none, rawInt L, .none] ++ (if pl.isEmpty then List.replicate 6 Value.none else pl)).toArray, Heap.get?_update_self _ e2 (by rfl), by simp [hv], tn, ?_, by rw [← hT], by simp⟩
    rw [Heap.get?_update_other _ _ (Ne.symm tn)]
    exact Heap.get?_push_size g (by rw [← hT]; rfl)
  · refine ⟨fun b o hb hfs q => ?_, fun b o hb q => ?_⟩
    · have hbe : b ≠ e := fun z => hb (by simp [z])
      rw [Heap.get?_update_other _ _ (Ne.symm hbe)]
      exact Heap.get?_push_of_some _ ((hg.2.1 b hfs).trans q)
    · have hbe : b ≠ e := fun z => hb (by simp [z])
      obtain ⟨sl', q'⟩ := hg.2.2 b o q
      refine ⟨sl', ?_⟩
      rw [Heap.get?_update_other _ _ (Ne.symm hbe)]
      exact Heap.get?_push_of_some _ q'

theorem note_first {base : Heap} {env : Env} {outer : List Env} {L e : Addr} {cls : Value} {d : Option Addr} {vs : Array Value} {sl : Array (Option Value)} {Q : Unit → Shared → Prop}
    (hfr : A.frames = some (env :: outer)) (hl : s.heap.FunFrames base (env :: outer)) (hf : env.frame = some L) (he : s.heap.get? e = some ⟨cls, d, .fields vs, sl⟩) (hv : vs[1]? = some .none)
    (k : ∀ h' T, s.heap.objs.size ≤ T → Fly h' e T cls d (rawInt L) → Kp [e] (frs (env :: outer)) s.heap h' → Q () { s with heap := h' }) : wpAny M A (noteFrame (.ref e) env) Q E s := by
  unfold noteFrame
  simp only [hf]
  refine wpAny_bind (wpAny_field he rfl hv ?_)
  rw [if_neg (by decide)]
  exact entry_new hfr hl hf he (Array.getElem?_eq_some_iff.mp hv).1 k

theorem note_next {base : Heap} {env : Env} {outer : List Env} {L e T : Addr} {cls : Value} {d : Option Addr} {Q : Unit → Shared → Prop}
    (hfr : A.frames = some (env :: outer)) (hl : s.heap.FunFrames base (env :: outer)) (hf : env.frame = some L) (F : Fly s.heap e T cls d .none)
    (k : ∀ h' T', s.heap.objs.size ≤ T' → Fly h' e T' cls d (rawInt L) → Kp [T, e] (frs (env :: outer)) s.heap h' → Q () { s with heap := h' }) : wpAny M A (noteFrame (.ref e) env) Q E s := by
  obtain ⟨sl, vs, oT, ts, he, hv, tn, hT, hd, h3⟩ := F
  unfold noteFrame
  simp only [hf]
  refine wpAny_bind (wpAny_field he rfl hv ?_)
  rw [if_pos (show (Value.ref T != Value.none) = true by simp)]
  refine wpAny_bind (wpAny_field hT hd h3 ?_)
  rw [if_neg (show ¬ (Value.none == rawInt L) = true by simp [rawInt])]
  refine wpAny_bind (wpAny_setField hT hd (Array.getElem?_eq_some_iff.mp h3).1 ?_)
  have oth : ∀ b, b ≠ T → (s.heap.update T (Obj.mapFields (·.setIfInBounds 3 Value.none))).get? b = s.heap.get? b := fun b hb => Heap.get?_update_other _ _ (Ne.symm hb)
  have nT : ∀ b o, s.heap.get? b = some o → (∀ ws, o.data ≠ .fields ws) → b ≠ T := fun b o q hn z => by
    rw [z, hT] at q
    cases q
    exact hn ts hd
  have hsz : (s.heap.update T (Obj.mapFields (·.setIfInBounds 3 Value.none))).objs.size = s.heap.objs.size := (Heap.SameBut.update s.heap T _).1
  refine entry_new (base := base) hfr (hl.of_keeps fun b o q hn => ⟨o, (oth b (nT b o q hn)).trans q, rfl⟩) hf ((oth e (Ne.symm tn)).trans he) (Array.getElem?_eq_some_iff.mp hv).1 fun h' T' g1 g2 g3 => ?_
  refine k h' T' (by rw [← hsz]; exact g1) g2 ⟨fun b o hb hfs q => ?_, fun b o hb q => ?_⟩
  · exact g3.keep b o (fun z => hb (List.mem_cons_of_mem _ z)) hfs ((oth b fun z => hb (by simp [z])).trans q)
  · exact g3.slot b o (fun z => hb (List.mem_cons_of_mem _ z)) ((oth b fun z => hb (by simp [z])).trans q)

theorem flight_off {e T : Addr} {cls fl : Value} {d : Option Addr} {Q : Unit → Shared → Prop} (F : Fly s.heap e T cls d fl) (k : ∀ h', Fly h' e T cls d .none → Kp [T] [] s.heap h' → h'.objs.size = s.heap.objs.size → Q () { s with heap := h' }) : wpAny M A (setFlight (.ref e) none) Q E s := by
  obtain ⟨sl, vs, oT, ts, he, hv, tn, hT, hd, h3⟩ := F
  have h3' := (Array.getElem?_eq_some_iff.mp h3).1
  unfold setFlight
  refine wpAny_bind (wpAny_field he rfl hv ?_)
  rw [if_pos (show (Value.ref T != Value.none) = true by simp)]
  have oth : ∀ b, b ≠ T → (s.heap.update T (Obj.mapFields (·.setIfInBounds 3 Value.none))).get? b = s.heap.get? b := fun b hb => Heap.get?_update_other _ _ (Ne.symm hb)
  refine wpAny_setField hT hd h3' (k _ ⟨sl, vs, _, _, (oth e (Ne.symm tn)).trans he, hv, tn, Heap.get?_update_self _ hT (Obj.isFreed_of_fields (Obj.data_mapFields hd _)), Obj.data_mapFields hd _, by simp [h3']⟩ ?_ (Heap.SameBut.update s.heap T _).1)
  exact ⟨fun b o hb _ q => (oth b fun z => hb (by simp [z])).trans q, fun b o hb q => ⟨o.slots, (oth b fun z => hb (by simp [z])).trans q⟩⟩

theorem leave_first {base : Heap} {env : Env} {outer : List Env} {L e : Addr} {cls : Value} {d : Option Addr} {vs : Array Value} {sl : Array (Option Value)} {Q : Unit → Shared → Prop}
    (hfr : A.frames = some (env :: outer)) (hl : s.heap.FunFrames base (env :: outer)) (hf : env.frame = some L) (he : s.heap.get? e = some ⟨cls, d, .fields vs, sl⟩) (hv : vs[1]? = some .none)
    (k : ∀ h' T, s.heap.objs.size ≤ T → Fly h' e T cls d .none → Kp [e] (frs (env :: outer)) s.heap h' → Q () { s with heap := h' }) : wpAny M A (leaving env (.ref e)) Q E s := by
  unfold leaving
  refine wpAny_bind (note_first hfr hl hf he hv fun h1 T g1 g2 g3 => flight_off (s := { s with heap := h1 }) g2 fun h2 f1 f2 f3 => k h2 T g1 f1 ⟨fun b o hb hfs q => ?_, fun b o hb q => ?_⟩)
  all_goals
    have hbT : b ≠ T := fun z => absurd (Heap.lt_size q) (by rw [z]; exact Nat.not_lt.mpr g1)
  · exact f2.keep b o (by simpa using hbT) (by simp) (g3.keep b o hb hfs q)
  · obtain ⟨sl', q'⟩ := g3.slot b o hb q
    obtain ⟨sl2, q2⟩ := f2.slot b _ (by simpa using hbT) q'
    exact ⟨sl2, q2⟩

theorem leave_next {base : Heap} {env : Env} {outer : List Env} {L e T : Addr} {cls : Value} {d : Option Addr} {Q : Unit → Shared → Prop}
    (hfr : A.frames = some (env :: outer)) (hl : s.heap.FunFrames base (env :: outer)) (hf : env.frame = some L) (F : Fly s.heap e T cls d .none)
    (k : ∀ h' T', s.heap.objs.size ≤ T' → Fly h' e T' cls d .none → Kp [T, e] (frs (env :: outer)) s.heap h' → Q () { s with heap := h' }) : wpAny M A (leaving env (.ref e)) Q E s := by
  unfold leaving
  refine wpAny_bind (note_next hfr hl hf F fun h1 T' g1 g2 g3 => flight_off (s := { s with heap := h1 }) g2 fun h2 f1 f2 f3 => k h2 T' g1 f1 ⟨fun b o hb hfs q => ?_, fun b o hb q => ?_⟩)
  all_goals
    have hbT : b ≠ T' := fun z => absurd (Heap.lt_size q) (by rw [z]; exact Nat.not_lt.mpr g1)
  · exact f2.keep b o (by simpa using hbT) (by simp) (g3.keep b o hb hfs q)
  · obtain ⟨sl', q'⟩ := g3.slot b o hb q
    obtain ⟨sl2, q2⟩ := f2.slot b _ (by simpa using hbT) q'
    exact ⟨sl2, q2⟩
end
end L2

set_option Elab.async false
set_option linter.all false
set_option maxRecDepth 100000
set_option maxHeartbeats 1000000
namespace L2
open PySem PySem.Spec PySem.Calls PyProof.Rows PySem.W


abbrev vBM : List Value := [.type "ValueError", .type "Exception", .type "BaseException", .type "object"]
def xShape (K : Frag) (C : Addr) : Bool := match K.lookup C with
  | none => false
  | some o => o.cls == .type "type" && match o.data with
    | .cls c => (match c.mro, o.slots.toList with | .ref B :: m, [_, _, _, _, some (.builtin n), _] => B == C && n == "ValueError.__new__" && !c.hasDel && tailIn K vBM m && nsOkIn K c.ns | _, _ => false)
    | _ => false
def xInit (K : Frag) (C : Addr) : Option (Option Value) := (clsIn K C).bind fun c => nsIn K c.ns "__init__"
theorem ns_some_of {K : Frag} {h : Heap} {N : Addr} {x : Str} {v : Value} (X : K.In h) (e : nsOkIn K N = true) (q : nsIn K N x = some (some v)) : h.nsMap N x = some v := by
  obtain ⟨o, es, ep, ho, hd, _, hf⟩ := (Heap.Ns.of_isNs (isNs_of_in X e) : h.Ns N (h.nsMap N))
  unfold nsIn at q
  split at q
  · rename_i c d es' n' sl z
    have := X _ _ z
    rw [ho] at this
    cases this
    cases hd
    split at q
    · rename_i en he
      rw [← hf]
      unfold nsFind findBy
      rw [← Array.find?_toList, he]
      cases q
      rfl
    · split at q <;> cases q
  · cases q

theorem x_obj {K : Frag} {h : Heap} {C : Addr} (X : K.In h) (e : xShape K C = true) : ∃ nm q N bs bm hd sn sub ab col dd k0 k1 k2 k3 k5 cd,
    h.get? C = some (excClassObj nm q C N bs bm hd sn sub ab col dd k0 k1 k2 k3 k5 "ValueError.__new__") ∧ clsIn K C = some cd ∧ cd.mro = .ref C :: bm ∧ cd.ns = N ∧ cd.hasDict = hd ∧ OwnTail h vBM bm ∧ nsOkIn K N = true := by
  unfold xShape at e
  cases hl : K.lookup C with
  | none => rw [hl] at e; cases e
  | some o =>
    rw [hl] at e
    simp only [Bool.and_eq_true, beq_iff_eq] at e
    obtain ⟨hc, e⟩ := e
    cases hd : o.data with
    | cls c =>
      rw [hd] at e
      simp only at e
      split at e
      · rename_i B m k0 k1 k2 k3 n k5 hm hs
        simp only [Bool.and_eq_true, beq_iff_eq, Bool.not_eq_true'] at e
        obtain ⟨⟨⟨⟨hB, rfl⟩, hdel⟩, ht⟩, hok⟩ := e
        obtain rfl : C = B := hB.symm
        have hci : clsIn K C = some c := by
          unfold clsIn
          obtain ⟨oc, od, oda, osl⟩ := o
          dsimp only at hd
          subst hd
          rw [hl]
        obtain ⟨oc, od, oda, osl⟩ := o
        dsimp only at hc hd hs
        subst hc hd
        have z : osl = #[k0, k1, k2, k3, some (.builtin "ValueError.__new__"), k5] := by
          obtain ⟨l⟩ := osl
          simp only at hs
          rw [hs]
        subst z
        have hh := X _ _ hl
        obtain ⟨nm, bs, mro, ns, qn, hdc, sn, sub, ab, col, del⟩ := c
        dsimp only at hm hdel hok
        subst hm hdel
        exact ⟨nm, qn, ns, bs, m, hdc, sn, sub, ab, col, od, k0, k1, k2, k3, k5, ⟨nm, bs, .ref C :: m, ns, qn, hdc, sn, sub, ab, col, false⟩, hh, hci, rfl, rfl, rfl, tail_of_in X ht, hok⟩
      · cases e
    | _ => rw [hd] at e; simp at e

section
variable {prog : Program} {w : World} {A : Around} {E : Value → Shared → Prop} {K : Frag} {C : Addr}
theorem exc_new {h : Heap} {g : Array GenState} {d : Drawn} {t : Nat} {os : OsState} {rest : List Value} {fI : Addr} {oI : Obj} {Q : Fin → Shared → Prop} (X : K.In h) (e : xShape K C = true) (hi : xInit K C = some (some (.ref fI))) (hf : K.lookup fI = some oI)
    (hfc : oI.cls = .type "function") (hr : rest.length ≤ sizeLine)
    (hq : ∀ h' x, h.objs.size ≤ x → Heap.MadeExcOf h h' x (.ref C) rest → wpAny (model prog w) A (call (.ref fI) (.ref x :: rest)) (fun r s' => r = .none ∧ Q (.done (.ret (.ref x))) s') E ⟨h', g, d, t, os⟩) :
    wpAny (model prog w) A (Builtin.«type.__call__» ⟨.ref C :: rest, []⟩) Q E ⟨h, g, d, t, os⟩ := by
  obtain ⟨nm, q, N, bs, bm, hd, sn, sub, ab, col, dd, k0, k1, k2, k3, k5, cd, hC, hcd, hmro, hns, _, T, hok⟩ := x_obj X e
  have F := PySem.F.excBase_ValueError
  have hi' : nsIn K N "__init__" = some (some (.ref fI)) := by
    unfold xInit at hi
    rw [hcd] at hi
    rw [← hns]
    exact hi
  have hn : h.Ns N (h.nsMap N) := Heap.Ns.of_isNs (isNs_of_in X hok)
  have hm := ns_some_of X hok hi'
  have hfI := X _ _ hf
  generalize h.nsMap N = mN at hn hm
  repeat (first | (with_reducible refine wpAny_loadPart_at hC ?_) | (with_reducible refine wpAny_madeBy_exc hC ?_) | wp_step)
  refine codeAny_call_builtin_code (Code.quiet_builtin _ F.quiet) (wpAny_check_new_subT F T hC (codeAny_exc_new_subT F T hC ?_ hr))
  show wpAny (model prog w) _ _ _ _ _
  have up : ∀ b o, h.get? b = some o → ((h.push ({ cls := .type "tuple", data := .seq rest.toArray } : Obj)).push ({ cls := .ref C, data := .fields #[.ref h.objs.size, .none, .none, .none, .bool false, .none] } : Obj)).get? b = some o := fun b o z => Heap.get?_push_of_some ({ cls := .ref C, data := .fields #[.ref h.objs.size, .none, .none, .none, .bool false, .none] } : Obj) (Heap.get?_push_of_some ({ cls := .type "tuple", data := .seq rest.toArray } : Obj) z)
  have hC1 := up _ _ hC
  have hfI1 := up _ _ hfI
  have hn1 : ((h.push ({ cls := .type "tuple", data := .seq rest.toArray } : Obj)).push ({ cls := .ref C, data := .fields #[.ref h.objs.size, .none, .none, .none, .bool false, .none] } : Obj)).Ns N mN := hn.keeps up
  have T1 := T.keeps up
  have hget : ((h.push ({ cls := .type "tuple", data := .seq rest.toArray } : Obj)).push ({ cls := .ref C, data := .fields #[.ref h.objs.size, .none, .none, .none, .bool false, .none] } : Obj)).get? (h.objs.size + 1) = some ({ cls := .ref C, data := .fields #[.ref h.objs.size, .none, .none, .none, .bool false, .none] } : Obj) := by
    have := Heap.get?_push_size (h.push ({ cls := .type "tuple", data := .seq rest.toArray } : Obj)) (o := ({ cls := .ref C, data := .fields #[.ref h.objs.size, .none, .none, .none, .bool false, .none] } : Obj)) rfl
    rwa [Heap.size_push] at this
  have hcC : (Value.ref C :: bm).contains (.ref C) = true := by simp
  unfold isInstance
  repeat (first | (with_reducible refine wpAny_loadPart_at hget ?_) | (with_reducible refine wpAny_isSubtype_exc hC1 ?_; rw [hcC]) | wp_step)
  show wpAny (model prog w) _ (typeLookup (.ref C) _) _ _ _
  refine wpAny_typeLookup_tail hC1 hn1 T1 F.mroIs F.init.lookup ?_
  rw [hm]
  refine wpAny_holding (wpAny_bind ?_)
  unfold bindSpecial
  refine wpAny_bind (wpAny_typeOf (T := "function") ⟨_, hfI1, hfc⟩ ?_)
  rw [if_pos (by decide)]
  refine wpAny_pure (wpAny_bind (wpAny_mono (hq _ (h.objs.size + 1) (Nat.le_succ _) ⟨up, Heap.get?_none_of_le (Nat.le_succ _), h.objs.size, hget, Heap.get?_none_of_le (Nat.le_refl _), ?_⟩) (fun r s' z => ?_) fun _ _ z => z))
  · exact Heap.get?_push_of_some _ (Heap.get?_push_size h rfl)
  · obtain ⟨rfl, z⟩ := z
    wp_walk
    exact z

theorem exc_make {s : Shared} {rest : List Value} {fI : Addr} {oI : Obj} {Q : Value → Shared → Prop} (X : K.In s.heap) (e : xShape K C = true) (hi : xInit K C = some (some (.ref fI))) (hf : K.lookup fI = some oI) (hfc : oI.cls = .type "function") (hr : rest.length ≤ sizeLine)
    (hq : ∀ h' x, s.heap.objs.size ≤ x → Heap.MadeExcOf s.heap h' x (.ref C) rest → wpAny (model prog w) (A.under (.builtin "type.__call__" ⟨.ref C :: rest, []⟩)) (call (.ref fI) (.ref x :: rest)) (fun r s' => r = .none ∧ Q (.ref x) s') E { s with heap := h' }) :
    wpAny (model prog w) A (call (.ref C) rest) Q E s := by
  obtain ⟨h, g, d, t, os⟩ := s
  obtain ⟨nm, q, N, bs, bm, hd, sn, sub, ab, col, dd, k0, k1, k2, k3, k5, cd, hC, _⟩ := x_obj X e
  have f1 := tc_lookup
  have f2 := tc_bind (.ref C)
  have hT : (⟨h, g, d, t, os⟩ : Shared).TypeIs (.ref C) "type" := ⟨_, hC, rfl⟩
  refine wpAny_call (codeAny_of_tree ?_)
  show wpAny (model prog w) _ (callAny (.ref C) _) _ _ _
  repeat (any_goals (first | assumption | (with_reducible refine wpAny_loadPart_at hC ?_) | wp_step))
  exact ⟨rfl, codeAny_call_builtin_at (Code.quiet_builtin _ (by decide +kernel)) entry_typeCall (wpAny_check_type_call_sub hC (exc_new X e hi hf hfc hr fun h' x y z => hq h' x y z))⟩
end
end L2

set_option Elab.async false
set_option linter.all false
set_option maxRecDepth 100000
set_option maxHeartbeats 1000000
namespace L2
open PySem PySem.Spec PySem.Calls PyProof.Rows PySem.W Builtin Builtin.ObjectAttr
section
variable {prog : Program} {w : World} {A : Around} {E : Value → Shared → Prop} {K : Frag} {C x : Addr} {s : Shared}

theorem exc_init {rest : List Value} {vs : Array Value} {sl : Array (Option Value)} {dd : Option Addr} {Q : Value → Shared → Prop} (X : K.In s.heap) (e : xShape K C = true) (hx : s.heap.get? x = some ⟨.ref C, dd, .fields vs, sl⟩) {t0 : Addr} (h0 : vs[0]? = some (.ref t0)) (hr : rest.length ≤ sizeLine)
    (hq : ∀ h', (∀ b o, b ≠ x → s.heap.get? b = some o → h'.get? b = some o) → h'.get? x = some ⟨.ref C, dd, .fields (vs.setIfInBounds 0 (.ref s.heap.objs.size)), sl⟩ → Q .none { s with heap := h' }) :
    wpAny (model prog w) A (call (.builtin "ValueError.__init__") (.ref x :: rest)) Q E s := by
  obtain ⟨h, g, d, t, os⟩ := s
  obtain ⟨nm, q, N, bs, bm, hd, sn, sub, ab, col, dd', k0, k1, k2, k3, k5, cd, hC, hcd, hmro, hns, _, T, hok⟩ := x_obj X e
  have F := PySem.F.excBase_ValueError
  refine wpAny_call (codeAny_call_builtin F.init.plain F.initEntry (wpAny_check_init_subT F T hC hx rfl ?_))
  have hx1 : (h.push ({ cls := .type "tuple", data := .seq rest.toArray } : Obj)).get? x = some ⟨.ref C, dd, .fields vs, sl⟩ := Heap.get?_push_of_some _ hx
  have hz : 0 < vs.size := (Array.getElem?_eq_some_iff.mp h0).1
  repeat (first | (with_reducible refine wpAny_field hx1 rfl h0 ?_) | (with_reducible refine wpAny_setField hx1 rfl hz ?_) | wp_step)
  refine hq _ (fun b o hb z => ?_) ?_
  · exact (Heap.get?_update_other _ _ (Ne.symm hb)).trans (Heap.get?_push_of_some _ z)
  · exact Heap.get?_update_self _ hx1 rfl
theorem ot_pass {h : Heap} {self : Value} {l : List Value} (T : OwnTail h vBM l) : refuseLoop self "__setattr__" l = pure () := by
  induction T with
  | base => exact PySem.F.store_ValueError.passes self
  | own _ _ _ _ ih => rw [refuseLoop_ref]; exact ih

theorem x_store {ox : Obj} {od : Option Obj} {name : Str} {tk : Tok} {v : Value} {R : Result → Shared → Prop} (X : K.In s.heap) (I : InstAt s.heap x ox C od) (e : xShape K C = true) (ha : findIn K (.ref C) name = some none)
    (h : ∀ b, wpAny (model prog w) A.in1 (storeInOwnDict (.ref x) (.ref C) (.str name tk) name v b)
      (fun fin s' => match fin with | .done f => R (.ok f) s' | .again c' => c'.quiet = true ∧ codeAny (model prog w) A c' R s') (fun e s' => R (.error e) s') s) :
    codeAny (model prog w) A (.call (.builtin "object.__setattr__") ⟨[.ref x, .str name tk, v], []⟩) R s := by
  have SF := PySem.F.store_object
  obtain ⟨nm, q, N, bs, bm, hd, sn, sub, ab, col, dd', k0, k1, k2, k3, k5, cd, hC, hcd, hmro, hns, _, T, hok⟩ := x_obj X e
  have hobj : cd.mro.contains (.type "object") = true := by rw [hmro, List.contains_cons, T.hasType (X := "object") (b := true) (by decide +kernel), Bool.or_true]
  have sub : Looks (model prog w) s.heap (isInstance (.ref x) (.type "object")) true := I.type.andThen (looks_mroIn X (by unfold mroIn; rw [hcd, Option.bind_some, if_neg (by rw [hmro]; simp), hobj]))
  refine codeAny_call_builtin SF.slot.plain SF.entry (@check_slot (model prog w) _ _ s "object.__setattr__" "object" "__setattr__" (.ref x) [.str name tk, v] [] _ SF.kind SF.split sub (SF.args (.ref x) (.str name tk) v) ?_)
  have hm : Looks (model prog w) s.heap (mroOf (.ref C)) cd.mro := (looks_clsIn X hcd).andThen .now
  rw [osa_eq, refuse_eq]
  refine wpAny_bind (wpAny_bind (I.type.here (wpAny_bind (hm.here ?_))))
  rw [hmro, refuseLoop_ref, ot_pass T]
  exact wpAny_pure (wpAny_bind (I.type.here (wpAny_bind ((looks_findIn X ha).here (wpAny_bind (wpAny_pure (h _)))))))
theorem store_in {M : Model} {d : Addr} {mA : Str → Option Value} {ns : List Str} {name : Str} {tk : Tok} {v : Value} {Q : Fin → Shared → Prop} (hns : s.heap.Ns1 d mA) (hw : Within mA ns) (hz : ns.length < sizeLine)
    (hq : ∀ h' tk', h'.Ns1 d (fun y => if y = name then some v else mA y) → Heap.SameBut d s.heap h' → Q (.done (.ret .none)) { s with heap := h', toks := tk' }) : wpAny M A (storeInDict d (.str name tk) name v) Q E s := by
  obtain ⟨h, g, dr, t, os⟩ := s
  unfold storeInDict newKeyGuard
  refine wpAny_bind (wpAny_pure (wpAny_bind (wpAny_nsSet1 hns fun h' hn' hs => ?_)))
  obtain ⟨oD, es, ep, ho, hd, hc⟩ := hn'.count (Within.cons name v hw)
  refine wpAny_bind (wpAny_lookBehind ho (by rw [hd]; exact pastItsLine_dict (Nat.le_trans hc (by rw [List.length_cons]; omega))) ?_)
  exact wpAny_pure (hq h' _ hn' hs)
theorem own_new {M : Model} {vs : Array Value} {sl : Array (Option Value)} {Q : Option Addr → Shared → Prop} (X : K.In s.heap) (hx : s.heap.get? x = some ⟨.ref C, none, .fields vs, sl⟩) (e : xShape K C = true) (hh : hasDictIn K C = true)
    (hq : Q (some s.heap.objs.size) { s with heap := (s.heap.push ({ cls := .type "dict", data := .dict #[] } : Obj)).update x fun o => { cls := o.cls, dict := some s.heap.objs.size, data := o.data, slots := o.slots } }) : wpAny M A (ownDictForStores (.ref x)) Q E s := by
  obtain ⟨h, g, dr, t, os⟩ := s
  obtain ⟨nm, q, N, bs, bm, hd, sn, sub, ab, col, dd', k0, k1, k2, k3, k5, cd, hC, hcd, hmro, hns, hdd, T, hok⟩ := x_obj X e
  have hT : hd = true := by
    obtain ⟨cd', hc', hd'⟩ := any_some hh
    rw [hcd] at hc'
    cases hc'
    rw [← hdd]
    exact hd'
  subst hT
  have hx1 : (h.push ({ cls := .type "dict", data := .dict #[] } : Obj)).get? x = some ⟨.ref C, none, .fields vs, sl⟩ := Heap.get?_push_of_some _ hx
  repeat (first | (with_reducible refine wpAny_loadPart_at hx ?_) | (with_reducible refine wpAny_loadPart_at hC ?_) | (with_reducible refine wpAny_update' hx1 ?_) | wp_step)
  exact hq
theorem exc_set0 {vs : Array Value} {sl : Array (Option Value)} {name : Str} {v : Value} {Q : Unit → Shared → Prop} (X : K.In s.heap) (hx : s.heap.get? x = some ⟨.ref C, none, .fields vs, sl⟩) (e : xShape K C = true) (hh : hasDictIn K C = true)
    (hsa : findIn K (.ref C) "__setattr__" = some (some (.builtin "object.__setattr__"))) (ha : findIn K (.ref C) name = some none)
    (hq : ∀ h' d tk, s.heap.objs.size ≤ d → h'.get? x = some ⟨.ref C, some d, .fields vs, sl⟩ → h'.Ns1 d (fun y => if y = name then some v else none) → (∀ b o, b ≠ x → s.heap.get? b = some o → h'.get? b = some o) → Q () { s with heap := h', toks := tk }) :
    wpAny (model prog w) A (setAttr (.ref x) name v) Q E s := by
  have I : InstAt s.heap x ⟨.ref C, none, .fields vs, sl⟩ C none := ⟨hx, rfl, rfl, trivial⟩
  refine set_plain X I hsa (x_store (s := { s with toks := s.toks + 1 }) X I e ha fun b => ?_)
  have hxs : x ≠ s.heap.objs.size := Nat.ne_of_lt (Heap.lt_size hx)
  have hx1 : (s.heap.push ({ cls := .type "dict", data := .dict #[] } : Obj)).get? x = some ⟨.ref C, none, .fields vs, sl⟩ := Heap.get?_push_of_some _ hx
  unfold storeInOwnDict
  refine wpAny_bind (wpAny_pure ?_)
  rw [if_neg (show ¬ (Value.ref C == Value.type "module") = true from fun z => by cases beq_iff_eq.mp z)]
  refine wpAny_bind (own_new (s := { s with toks := s.toks + 1 }) X hx e hh ?_)
  have hgd : ((s.heap.push ({ cls := .type "dict", data := .dict #[] } : Obj)).update x fun o => { cls := o.cls, dict := some s.heap.objs.size, data := o.data, slots := o.slots }).get? s.heap.objs.size = some ({ cls := .type "dict", data := .dict #[] } : Obj) :=
    (Heap.get?_update_ne _ _ _ _ hxs.symm).trans (Heap.get?_push_size _ rfl)
  have hnd : Heap.Ns ((s.heap.push ({ cls := .type "dict", data := .dict #[] } : Obj)).update x fun o => { cls := o.cls, dict := some s.heap.objs.size, data := o.data, slots := o.slots }) s.heap.objs.size (fun _ => none) :=
    ⟨_, #[], _, hgd, rfl, fun e he => absurd he (by simp), fun _ => rfl⟩
  refine store_in (ns := []) (Heap.Ns1.of_empty hnd) Within.nil (by rw [sizeLine_eq]; decide) fun h' tk' hn hs => ?_
  refine hq h' s.heap.objs.size _ (Nat.le_refl _) ((hs.2 x hxs).trans (Heap.get?_update_self _ hx1 rfl)) hn fun b o hb z => ?_
  exact (hs.2 b (Nat.ne_of_lt (Heap.lt_size z))).trans ((Heap.get?_update_ne _ _ _ _ hb).trans (Heap.get?_push_of_some _ z))

end
end L2

set_option Elab.async false
set_option linter.all false
set_option maxRecDepth 100000
set_option maxHeartbeats 1000000
namespace L2
open PySem PySem.Spec PySem.Calls PyProof.Rows PySem.W Builtin Builtin.ObjectAttr

structure XCl (K : Frag) (C : Addr) : Prop where
  sh : xShape K C = true
  hd : hasDictIn K C = true
  ga : findIn K (.ref C) "__getattribute__" = some (some (.builtin "BaseException.__getattribute__"))
  gt : findIn K (.ref C) "__getattr__" = some none
  sa : findIn K (.ref C) "__setattr__" = some (some (.builtin "object.__setattr__"))
  ca : findIn K (.ref C) "__class__" = some (some (.builtin "object.__class__"))
  cg : specialIn K (.builtin "object.__class__") "__get__" = some (some (.builtin "getset_descriptor.__get__"))
  ct : takesIn K (.builtin "object.__class__") = some true
def xclIn (K : Frag) (C : Addr) : Bool := xShape K C && hasDictIn K C && findIn K (.ref C) "__getattribute__" == some (some (.builtin "BaseException.__getattribute__")) && findIn K (.ref C) "__getattr__" == some none &&
  findIn K (.ref C) "__setattr__" == some (some (.builtin "object.__setattr__")) && findIn K (.ref C) "__class__" == some (some (.builtin "object.__class__")) && specialIn K (.builtin "object.__class__") "__get__" == some (some (.builtin "getset_descriptor.__get__")) && takesIn K (.builtin "object.__class__") == some true
theorem xcl_of {K : Frag} {C : Addr} (e : xclIn K C = true) : XCl K C := by
  simp only [xclIn, Bool.and_eq_true, beq_iff_eq] at e
  obtain ⟨⟨⟨⟨⟨⟨⟨a, b⟩, c⟩, d⟩, e⟩, f⟩, g⟩, h⟩ := e
  exact ⟨a, b, c, d, e, f, g, h⟩
theorem XCl.mro {K : Frag} {h : Heap} {C : Addr} (c : XCl K C) (X : K.In h) (T : String) (ht : vBM.contains (.type T) = true) : mroIn K C (.type T) = some true := by
  obtain ⟨nm, q, N, bs, bm, hd, sn, sub, ab, col, dd', k0, k1, k2, k3, k5, cd, hC, hcd, hmro, hns, hdd, OT, hok⟩ := x_obj X c.sh
  unfold mroIn
  rw [hcd, Option.bind_some, if_neg (by rw [hmro]; simp), hmro, List.contains_cons, OT.hasType (X := T) ht, Bool.or_true]
section
variable {prog : Program} {w : World} {A : Around} {E : Value → Shared → Prop} {K : Frag} {C x : Addr} {s : Shared} {ox : Obj} {od : Option Obj} {name : Str} {tk : Tok} {fill expr : Bool}
theorem exc_by {Q : Value → Shared → Prop} (X : K.In s.heap) (I : InstAt s.heap x ox C od) (c : XCl K C)
    (h : wpAny (model prog w) A.in1 (Builtin.«object.__getattribute__» ⟨[.ref x, .str name tk], []⟩) (fun fin s' => match fin with | .done (.ret v) => wpAny (model prog w) A (handedOut v) Q E s' | _ => False) (fun _ _ => False) s) :
    wpAny (model prog w) A (getAttrBy (.ref x) (.str name tk) fill expr) Q E s := by
  have L0 := I.type (M := model prog w)
  unfold getAttrBy
  refine wpAny_holding (wpAny_bind (L0.here (wpAny_bind ((looks_findIn X c.ga).here ?_))))
  dsimp only
  have ne : (Value.builtin "BaseException.__getattribute__" == Value.builtin "object.__getattribute__") = false := by decide +kernel
  rw [ne, Bool.and_false, if_neg (by decide)]
  unfold getAttrByItsOwn
  refine wpAny_bind ((looks_hook (mc := .ref C) X (r := none) (by rw [if_pos (show onTheHeap (.ref C) = true from rfl)]; exact c.gt)).here (wpAny_bind (wpAny_attempt (wpAny_holding ?_))))
  unfold callGetattribute
  rw [show (expr && onTheHeap (Value.builtin "BaseException.__getattribute__")) = false from Bool.and_false _, if_neg (by decide)]
  unfold boundAndCalled
  rw [PySem.F.attr_ValueError.ga.bind]
  refine wpAny_bind (wpAny_pure ?_)
  show wpAny _ _ (call (.builtin "BaseException.__getattribute__") [.ref x, .str name tk]) _ _ _
  refine wpAny_call (codeAny_call_builtin PySem.F.attr_ValueError.ga.plain PySem.F.entry_bexc_ga ?_)
  refine @check_slot (model prog w) _ _ s "BaseException.__getattribute__" "BaseException" "__getattribute__" (.ref x) [.str name tk] [] _ (by decide +kernel) (by decide +kernel) (L0.andThen (looks_mroIn X (c.mro X "BaseException" (by decide +kernel)))) (PySem.F.args_bexc_ga _ _) ?_
  refine wpAny_mono h (fun fin s' z => ?_) fun _ _ z => z.elim
  rcases fin with (_ | _ | _ | _) | _ <;> first | exact z | exact z.elim

theorem exc_get {v : Value} {Q : Value → Shared → Prop} (X : K.In s.heap) (I : InstAt s.heap x ox C od) (c : XCl K C) (hf : findObj K C od name = some (.value v)) (hh : handedIn v = true) (h : Q v { s with toks := s.toks + 1 }) :
    wpAny (model prog w) A (getAttr (.ref x) name expr) Q E s := by
  refine wpAny_bind (wpAny_mkText (exc_by (s := { s with toks := s.toks + 1 }) X I c ?_))
  have L0 := I.type (M := model prog w)
  have L1 := looks_find (M := model prog w) X I hf
  unfold Builtin.«object.__getattribute__»
  refine wpAny_bind (wpAny_pure (wpAny_bind (wpAny_pure (wpAny_bind (L0.here (s := { s with toks := s.toks + 1 }) (wpAny_bind (L1.here (s := { s with toks := s.toks + 1 }) ?_)))))))
  refine wpAny_pure ?_
  show wpAny _ _ (handedOut v) _ _ _
  rw [handedOut_of hh]; exact wpAny_pure h
theorem exc_class {Q : Option Value → Shared → Prop} (X : K.In s.heap) (I : InstAt s.heap x ox C od) (c : XCl K C) (h : Q (some (.ref C)) { s with toks := s.toks + 1 }) : wpAny (model prog w) A (getAttr? (.ref x) "__class__") Q E s := by
  have hf : findObj K C od "__class__" = some (.bind (.builtin "getset_descriptor.__get__") (.builtin "object.__class__")) := by
    obtain ⟨cd, hc, _⟩ := any_some c.hd
    simp only [findObj, hc, c.ca, c.cg, c.ct, Option.bind_some]
  refine wpAny_bind (wpAny_mkText ?_)
  unfold getAttrBy?
  refine wpAny_bind (wpAny_attempt (exc_by (s := { s with toks := s.toks + 1 }) X I c ?_))
  have L0 := I.type (M := model prog w)
  have L1 := looks_find (M := model prog w) X I hf
  unfold Builtin.«object.__getattribute__»
  refine wpAny_bind (wpAny_pure (wpAny_bind (wpAny_pure (wpAny_bind (L0.here (s := { s with toks := s.toks + 1 }) (wpAny_bind (L1.here (s := { s with toks := s.toks + 1 }) ?_)))))))
  show wpAny _ _ (holding [.builtin "object.__class__"] (call (.builtin "getset_descriptor.__get__") [.builtin "object.__class__", .ref x, .ref C]) >>= ret) _ _ _
  refine wpAny_bind (wpAny_holding (wpAny_call (class_get (s := { s with toks := s.toks + 1 }) (ox := ox) (od := od) X I (c.mro X "object" (by decide +kernel)) ?_)))
  exact wpAny_pure (handed_on rfl (wpAny_pure h))
theorem exc_kit (c : XCl K C) : KitX K (.ref x) (.ref C) (fun h => InstAt h x ox C od) where
  ty := fun _ _ _ I => I.type
  it := fun _ h X _ => by
    obtain ⟨nm, q, N, bs, bm, hd, sn, sub, ab, col, dd', k0, k1, k2, k3, k5, cd, hC, _⟩ := x_obj X c.sh
    intro A' Q' E' s' k z
    unfold isType loadHead
    exact wpAny_bind (wpAny_loadPart (k _ _ hC) (wpAny_pure z))
  ne := fun h tp dd its n sl X htp => by
    obtain ⟨nm, q, N, bs, bm, hd, sn, sub, ab, col, dd', k0, k1, k2, k3, k5, cd, hC, _⟩ := x_obj X c.sh
    refine Bool.eq_false_iff.mpr fun z => ?_
    have e : C = tp := Value.ref.inj (beq_iff_eq.mp z)
    subst e
    have y := Option.some.inj (hC.symm.trans htp)
    injection y with y1
    injection y1 with y1
    exact absurd y1 (by decide)
  ca := fun X I k => exc_class X I c k

theorem exc_match {D : Addr} {b : Bool} {Q : Bool → Shared → Prop} (X : K.In s.heap) (hx : s.heap.get? x = some ox) (hxc : ox.cls = .ref C) (c : XCl K C) (d : XCl K D) (hb : mroIn K C (.ref D) = some b) (h : Q b s) : wpAny (model prog w) A (excMatches (.ref x) (.ref D)) Q E s := by
  obtain ⟨nm, q, N, bs, bm, hd, sn, sub, ab, col, dd', k0, k1, k2, k3, k5, cd, hD, hcd, hmro, hns, hdd, OT, hok⟩ := x_obj X d.sh
  obtain ⟨hp, g, dr, t, os⟩ := s
  have f := tc_notTuple
  have L1 := looks_mroIn (M := model prog w) X hb
  have hcB : (Value.ref D :: bm).contains (.type "BaseException") = true := by rw [List.contains_cons, OT.hasType (X := "BaseException") (b := true) (by decide +kernel), Bool.or_true]
  have hT : (⟨hp, g, dr, t, os⟩ : Shared).TypeIs (.ref D) "type" := ⟨_, hD, rfl⟩
  unfold excMatches
  repeat (first | assumption | (with_reducible refine wpAny_loadPart_at hx ?_; rw [hxc]) | (with_reducible refine wpAny_loadPart_at hD ?_) | (with_reducible refine L1.at ?_) | (with_reducible refine wpAny_isSubtype_exc hD ?_; rw [hcB]) | wp_step)
  cases b <;> (wp_walk; exact h)

theorem exc_raise {env : Env} {y : Sem Value} {Q : Flow → Shared → Prop} (hh : A.handled = none)
    (h : wpAny (model prog w) A y (fun v s₁ => ∃ x dd vs sl, v = .ref x ∧ K.In s₁.heap ∧ XCl K C ∧ s₁.heap.get? x = some ⟨.ref C, dd, .fields vs, sl⟩ ∧ vs[1]? = some .none ∧ E (.ref x) s₁) E s) : wpAny (model prog w) A (raiseStmt env (some y) none) Q E s := by
  unfold raiseStmt
  refine wpAny_bind (wpAny_mono h (fun v s₁ z => ?_) fun _ _ z => z)
  obtain ⟨x, dd, vs, sl, rfl, X, c, he, h1, hE⟩ := z
  obtain ⟨nm, q, N, bs, bm, hd, sn, sub, ab, col, dd', k0, k1, k2, k3, k5, cd, hC, hcd, hmro, hns, hdd, OT, hok⟩ := x_obj X c.sh
  obtain ⟨hp, g, d, tk, os⟩ := s₁
  have hcB : (Value.ref C :: bm).contains (.type "BaseException") = true := by rw [List.contains_cons, OT.hasType (X := "BaseException") (b := true) (by decide +kernel), Bool.or_true]
  repeat (first | (with_reducible refine wpAny_loadPart_at he ?_) | (with_reducible refine wpAny_loadPart_at hC ?_) | (with_reducible refine wpAny_field he rfl h1 ?_) | (with_reducible refine wpAny_isSubtype_exc hC ?_; rw [hcB]) | wp_step)
  exact wpAny_raiseNew_none hh hE
end
end L2

set_option Elab.async false
set_option linter.all false
set_option maxRecDepth 100000
set_option maxHeartbeats 1000000
namespace L2
open PySem PySem.Spec PyProof.Rows



abbrev XS := Value → Option Addr → St → Hp → Prop

def Nw (h : Heap) (e : Addr) (c : Value) (d : Option Addr) : Prop := ∃ sl vs, h.get? e = some ⟨c, d, .fields vs, sl⟩ ∧ vs[1]? = some .none

def Fl (X : Cx) (E : XS) (e : Value) (s' : Shared) : Prop := ∃ (ea : Addr) (c : Value) (d : Option Addr) (H' : Hp) (pins : List (Addr × Obj)) (σ : St), e = .ref ea ∧ Inv X pins σ H' s' ∧ X.s₀.heap.objs.size ≤ ea ∧ H' ea = none ∧ (∀ q ∈ X.pn, q.1 ≠ ea) ∧
  (Nw s'.heap ea c d ∨ ∃ T, Fly s'.heap ea T c d .none ∧ X.s₀.heap.objs.size ≤ T ∧ H' T = none ∧ ∀ q ∈ X.pn, q.1 ≠ T) ∧ E c d σ H'
def Thr (X : Cx) (E : XS) : Prop := ∀ e s', Fl X E e s' → X.xe e s'

def CXE (P : Program) (w : World) : CXT := fun outer H s E e s' => ∃ (ea T : Addr) (c : Value) (d : Option Addr) (H' : Hp), e = .ref ea ∧ s.heap.objs.size ≤ ea ∧ s.heap.objs.size ≤ T ∧ Fly s'.heap ea T c d .none ∧ H' ea = none ∧ H' T = none ∧
  s'.os = s.os ∧ AllBare s'.gens ∧ Un (frs outer) [] H H' s.heap s'.heap ∧ HOk P w H' s'.heap ∧ E c d H'

section
variable {X : Cx} {pins : List (Addr × Obj)} {σ : St} {H : Hp} {s s' : Shared}
theorem Un.kp {fs fs' ch : List Addr} {H H' : Hp} {h h1 h2 : Heap} (u : Un fs [] H H' h h1) (k : Kp ch fs' h1 h2) (hc : ∀ b ∈ ch, h.objs.size ≤ b) (hf : ∀ b ∈ fs', b ∈ fs ∨ h.objs.size ≤ b) : Un fs [] H H' h h2 := by
  have nc : ∀ b o, h.get? b = some o → b ∉ ch := fun b o q z => absurd (Nat.lt_of_lt_of_le (Heap.lt_size q) (hc b z)) (Nat.lt_irrefl _)
  refine ⟨fun b o q n hb _ => ?_, fun b o q n hb _ => ?_, u.free, fun b o q _ => ?_, u.tups, u.frzs, u.tbls⟩
  · refine k.keep b o (nc b o q) (fun z => ?_) (u.keep b o q n hb (by simp))
    rcases hf b z with z | z
    · exact hb z
    · exact absurd (Nat.lt_of_lt_of_le (Heap.lt_size q) z) (Nat.lt_irrefl _)
  · obtain ⟨sl, e1⟩ := u.slot b o q n hb (by simp)
    obtain ⟨sl', e2⟩ := k.slot b _ (nc b o q) e1
    exact ⟨sl', e2⟩
  · obtain ⟨o', e1⟩ := u.there b o q (by simp)
    obtain ⟨sl', e2⟩ := k.slot b _ (nc b o q) e1
    exact ⟨_, e2⟩
theorem HOk.kp {P : Program} {w : World} {fs ch : List Addr} {h1 h2 : Heap} (x : HOk P w H h1) (k : Kp ch fs h1 h2) (hc : ∀ b ∈ ch, H b = none) (hf : ∀ b ∈ fs, H b = none) : HOk P w H h2 := fun a o q =>
  (x a o q).stay (fun b u hb z => by
    have t : ∃ v, H b = some v := by
      rcases hb with rfl | hb
      · exact ⟨o, q⟩
      · exact ⟨_, hb⟩
    obtain ⟨v, t⟩ := t
    exact k.keep b u (fun y => by rw [hc b y] at t; cases t) (fun y => by rw [hf b y] at t; cases t) z) (fun _ z => z) fun _ _ z => z
theorem Inv.frame (I : Inv X pins σ H s) : X.stack = X.outer ∨ (X.A.frames = some (X.env :: X.outer) ∧ s.heap.FunFrames X.base (X.env :: X.outer) ∧ X.env.frame = some X.env.locals ∧ frs (X.env :: X.outer) = X.env.locals :: X.fs) := by
  rcases I.ok.stk with e | ⟨e, hf⟩
  · exact .inl e
  · refine .inr ⟨by rw [← e]; exact I.ok.frames, by rw [← e]; exact I.stack, hf, ?_⟩
    unfold frs
    rw [List.filterMap_cons, hf]
    rfl

theorem thr_leave {P : Program} {w : World} {K : PySem.W.Frag} {mg : Str → Option Value} {base : Heap} {N : List Str} {qual : Str} {scope : Scope} {f : Addr} {cd : Value} {A : Around} {outer : List Env} {s : Shared} {H : Hp} {E : XK} :
    Thr (cxOf (CXE P w) P w K mg base N qual scope f cd A outer s H E) (fun c d _ H' => E c d H') := by
  intro e s' hF
  obtain ⟨ea, c, d, H', pins, σ, rfl, I, hea, hHe, _, hv, hE⟩ := hF
  have hst : (cxOf (CXE P w) P w K mg base N qual scope f cd A outer s H E).stack = (cxOf (CXE P w) P w K mg base N qual scope f cd A outer s H E).env :: outer := rfl
  have hfr := I.ok.frames
  have hl := I.stack
  have hsub := I.stkSub
  have hfree := I.stkFree
  rw [hst] at hfr hl hsub hfree
  have fin : ∀ (h' : Heap) (T : Addr) (ch : List Addr), s'.heap.objs.size ≤ T → Fly h' ea T c d .none → Kp ch (frs ((cxOf (CXE P w) P w K mg base N qual scope f cd A outer s H E).env :: outer)) s'.heap h' → (∀ b ∈ ch, s.heap.objs.size ≤ b ∧ H' b = none) →
      CXE P w outer H s E (.ref ea) { s' with heap := h' } := fun h' T ch g1 g2 g3 g4 => by
    refine ⟨ea, T, c, d, H', rfl, hea, Nat.le_trans I.sz g1, g2, hHe, I.hok.fresh g1, I.os, I.bare, ?_, I.hok.kp g3 (fun b hb => (g4 b hb).2) hfree, hE⟩
    refine Un.kp (fs := frs outer) I.base g3 (fun b hb => (g4 b hb).1) fun b hb => ?_
    rcases List.mem_cons.mp (hsub b hb) with z | z
    · rw [z]; exact .inr I.ok.above
    · exact .inl z
  rcases hv with ⟨sl, vs, he, h1⟩ | ⟨T0, hF, hT, hHT, _⟩
  · exact leave_first hfr hl rfl he h1 fun h' T g1 g2 g3 => fin h' T [ea] g1 g2 g3 fun b hb => by
      obtain rfl : b = ea := by simpa using hb
      exact ⟨hea, hHe⟩
  · exact leave_next hfr hl rfl hF fun h' T g1 g2 g3 => fin h' T [T0, ea] g1 g2 g3 fun b hb => by
      rcases List.mem_cons.mp hb with z | z
      · subst z; exact ⟨hT, hHT⟩
      · obtain rfl : b = ea := by simpa using z
        exact ⟨hea, hHe⟩

theorem fl_call {E : XS} {e : Value} (I : Inv X pins σ H s) (h : CXE X.prog X.w X.stack H s (fun c d H' => E c d σ H') e s') : Fl X E e s' := by
  obtain ⟨ea, T, c, d, H', rfl, h1, h2, hF, n1, n2, ho, hg, hu, hk, hE⟩ := h
  have np : ∀ a, s.heap.objs.size ≤ a → ∀ q ∈ X.pn, q.1 ≠ a := fun a z q hq y => by
    have := (I.pin q (List.mem_append_left _ hq)).1
    exact absurd (Nat.lt_of_lt_of_le (Heap.lt_size this) (y ▸ z)) (Nat.lt_irrefl _)
  exact ⟨ea, c, d, H', pins, σ, rfl, I.call' ho hu hk hg (fun b z => absurd z (by simp)), Nat.le_trans I.sz h1, n1, np ea h1, .inr ⟨T, hF, Nat.le_trans I.sz h2, n2, np T h2⟩, hE⟩
end


structure OkX (P : Program) (w : World) (K : PySem.W.Frag) (mg : Str → Option Value) (base : Heap) (k : Nat) (x : Str) (ps : List Str) (sp : Sp) : Prop where
  ex : ∃ (f : Addr) (fd : FuncData), PySem.W.keepIn K (.ref f) = true ∧ Binds K fd ps [] ∧ mg x = some (.ref f) ∧ FnOk P w K mg base (CXE P w) k f fd ps sp
section
variable {P : Program} {w : World} {K : PySem.W.Frag} {mg : Str → Option Value} {base : Heap}
theorem Df.okX {x : Str} {st : Stmt} {ps N : List Str} {k : Nat} {sp : Sp} (D : Df K mg x st ps) (Sc : FnScope N ps (defScope st)) (len : ∀ vs H Q E, sp vs H Q E → vs.length = ps.length)
    (hbody : ∀ (f : Addr) (cdv : Value) (A : Around) (outer : List Env) (s : Shared) (H : Hp) (vs : List V) (Q : VK) (E : XK), Room k (A.deeper (envOfC x (defScope st) s.heap.objs.size f cdv)) → sp vs H Q E →
      ∃ t, PSs (cxOf (CXE P w) P w K mg base N x (defScope st) f cdv A outer s H E) (defBody st) t ∧ t { nx := fun _ H' => Q .non H', rt := Q } (start N vs) H) : OkX P w K mg base (k + 1) x ps sp := by
  obtain ⟨f, fd, F, b, m⟩ := D.ex
  refine ⟨f, fd, F.kp, b, m, ?_⟩
  obtain ⟨oc, od, kV, doc, pm, an, cdv, ct, osl, rfl, lk, hcd⟩ := F.ex
  exact fn_of lk hcd Sc len fun A outer s H vs Q E hr h => hbody f cdv A outer s H vs Q E hr h
end
section
variable {X : Cx} {k j : Nat} {x : Str} {ps : List Str} {sp : Sp} {p pos : Pos} {e : Expr} {es : List Expr} {t : TA} {E : XS}

def tCallX (sp : Sp) (E : XS) (t : TA) : TE := fun σ H Q => t σ H fun vs H1 => sp vs H1 Q fun c d H' => E c d σ H'
theorem run_fnX {f : Addr} {fd : FuncData} {pins : List (Addr × Obj)} {σ : St} {H : Hp} {s : Shared} {Q : VK} {us : List Value} {vs : List V} (F : FnOk X.prog X.w X.K X.mg X.base (CXE X.prog X.w) k f fd ps sp) (hr : Room k X.A) (hb : Binds X.K fd ps []) (hx : Thr X E)
    (I : Inv X pins σ H s) (r : Vals vs us) (h : sp vs H Q fun c d H' => E c d σ H') : wpAny (model X.prog X.w) X.A (call (.ref f) us) (EP X pins σ Q) X.xe s := by
  have hl : (us ++ []).length = ps.length := by rw [List.append_nil, ← r.length]; exact F.len _ _ _ _ h
  have hb' := hb s us I.kIn hl
  rw [List.append_nil] at hb'
  refine wpAny_call (codeAny_mono (F.run X.A X.stack s H ⟨us, []⟩ us vs Q (fun c d H' => E c d σ H') hr I.env0 hb' r h) fun r s' hq => ?_)
  rcases r with e | (u | _ | _ | _)
  · exact hx e s' (fl_call I hq)
  all_goals first | exact I.after hq | exact False.elim hq
theorem pe_callX (hx : Thr X E) (F : OkX X.prog X.w X.K X.mg X.base k x ps sp) (hr : Room j X.A) (hk : k ≤ j) (ha : PA X (e :: es) t) (hg : Gl X x := by rfl) (hdb : (x == ("__debug__" : Str)) = false := by decide)
    (he : starEach (e :: es) X.env = (false, eval e X.env) :: starEach es X.env := by rfl) (hpl : (backTo pos (starEach es X.env)).any (·.1) = false := by rfl) : PE X (.Call (.Name x p) (e :: es) [] pos) (tCallX sp E t) := by
  intro pins s σ H Q I h
  obtain ⟨f, fd, kp, b, m, G⟩ := F.ex
  refine wpAny_Call_Name_kw (ld_glob I hg m ?_ hdb)
  refine PySem.W.callWith_K (h₀ := X.base) I.ok.mod.kin kp (thn (ha pos pins s σ H _ I h) fun us s1 ⟨vs, H1, I1, r, q⟩ => ⟨I1.kIn, ?_⟩) he hpl
  exact run_fnX G (hr.mono hk) b hx I1 r q
end
end L2

set_option Elab.async false
set_option linter.all false
set_option maxRecDepth 100000
set_option maxHeartbeats 1000000
namespace L2
open PySem PySem.Spec PyProof.Rows PySem.W

def ExN (C a : Addr) : HO := .ext fun h => ∃ (vs : Array Value) (sl : Array (Option Value)) (t : Addr), h.get? a = some ⟨.ref C, none, .fields vs, sl⟩ ∧ vs[0]? = some (.ref t) ∧ vs[1]? = some .none
def ExD (C d a : Addr) : HO := .ext fun h => ∃ (vs : Array Value) (sl : Array (Option Value)), h.get? a = some ⟨.ref C, some d, .fields vs, sl⟩ ∧ vs[1]? = some .none
theorem upd_id {H : Hp} {a : Addr} {o : HO} (e : H a = some o) : upd H a o = H := by
  funext b
  unfold upd
  split
  · rename_i z; rw [z, e]
  · rfl
section
variable {P : Program} {w : World} {H : Hp} {h : Heap} {C d a : Addr}
theorem exn_ok {vs : Array Value} {sl : Array (Option Value)} {t : Addr} (e : h.get? a = some ⟨.ref C, none, .fields vs, sl⟩) (h0 : vs[0]? = some (.ref t)) (h1 : vs[1]? = some .none) : ObjOk P w H h a (ExN C a) :=
  ⟨⟨vs, sl, t, e, h0, h1⟩, ⟨_, e⟩, fun _ _ ⟨vs, sl, t, e, r⟩ k => ⟨vs, sl, t, k _ e, r⟩⟩
theorem exd_ok {vs : Array Value} {sl : Array (Option Value)} (e : h.get? a = some ⟨.ref C, some d, .fields vs, sl⟩) (h1 : vs[1]? = some .none) : ObjOk P w H h a (ExD C d a) :=
  ⟨⟨vs, sl, e, h1⟩, ⟨_, e⟩, fun _ _ ⟨vs, sl, e, r⟩ k => ⟨vs, sl, k _ e, r⟩⟩
end
section
variable {X : Cx} {C B : Addr} {b self name : Str} {e a1 : Expr} {es : List Expr} {te : TE} {t : TA} {np p1 apos cpos pos pos' : Pos} {i : Nat}

def rInit (C : Addr) : List V → Hp → VK → Prop := fun xs H Q => ∃ a v, xs = [.ref a, v] ∧ H a = some (ExN C a) ∧ Q .non H
theorem call_init (c : XCl X.K C) : CallR X (.builtin "ValueError.__init__") (rInit C) := by
  intro pins s σ H xs us Q I r h
  obtain ⟨a, v, rfl, ea, q⟩ := h
  obtain ⟨u1, u2, rfl, r1, r2⟩ := vals2 r
  obtain rfl : u1 = Value.ref a := r1
  obtain ⟨⟨vs, sl, t, e, h0, h1⟩, _⟩ := I.hok a _ ea
  refine exc_init I.kIn c.sh e h0 (by show 1 ≤ _; rw [sizeLine_eq]; decide) fun h' k z => ⟨.non, H, ?_, rfl, q⟩
  have I' := I.write (x := a) (e := a) (o := ExN C a) (h' := h') (t' := s.toks) (by rw [ea]; exact True.intro) (.inl rfl) k ⟨_, z⟩ (exn_ok (t := s.heap.objs.size) z (by
    have : 0 < vs.size := (Array.getElem?_eq_some_iff.mp h0).1
    simp [this]) (by simpa [Array.getElem?_setIfInBounds] using h1))
  rw [upd_id ea] at I'
  exact I'

def upIn (K : Frag) (B : Addr) : Bool := specialIn K (.ref B) "__getattribute__" == some (some (.builtin "type.__getattribute__")) && readsIn K B (.type "type") && (match findCls K (.ref B) (.type "type") "__init__" with | some (.val v) => v == .builtin "ValueError.__init__" | _ => false)
theorem pe_init {pl : Sem Bool} (hm : X.mg b = some (.ref B)) (hu : upIn X.K B = true) (c : XCl X.K C) (ha : PA X (a1 :: es) t) (hg : Gl X b := by rfl) (hd : (b == ("__debug__" : Str)) = false := by decide)
    (hst : starEach (a1 :: es) X.env = (false, eval a1 X.env) :: starEach es X.env := by rfl) (hpl : (backTo cpos (starEach es X.env)).any (·.1) = false := by rfl)
    (ht : eval (.Call (.Attribute (.Name b np) "__init__" apos) (a1 :: es) [] cpos) X.env = (do
      let ov ← eval (.Name b np) X.env
      standAt apos.atName
      let (f, first) ← holding [ov] (getMethod ov "__init__" pl)
      callWith cpos f first (backTo cpos (starEach (a1 :: es) X.env)) (backToKw cpos (keywordEach [] X.env))) := by rfl) : PE X (.Call (.Attribute (.Name b np) "__init__" apos) (a1 :: es) [] cpos) (tCB (rInit C) t) := by
  intro pins s σ H Q I h
  simp only [upIn, Bool.and_eq_true, beq_iff_eq] at hu
  obtain ⟨⟨u1, u2⟩, u3⟩ := hu
  split at u3
  · rename_i v hv
    obtain rfl : v = .builtin "ValueError.__init__" := beq_iff_eq.mp u3
    refine methodCall_KW (pl := pl) (ld_glob I hg hm (method_cls I.kIn u1 (cls_value I.kIn u2 hv rfl ?_)) hd) ht
    exact callWith_builtin1 (thn (ha cpos pins _ σ H _ (I.tok _) h) fun us s1 ⟨vs, H1, I1, r1, q1⟩ => call_init c pins s1 σ H1 vs us Q I1 r1 q1) hst hpl
  · cases u3

def tSet0 (K : Frag) (C : Addr) (ta tv : TE) (name : Str) : TS := fun D σ H => tv σ H fun y H1 => ta σ H1 fun x H2 => ∃ a, x = .ref a ∧ H2 a = some (ExN C a) ∧ ∀ d, H2 d = none → d ≠ a → D.nx σ (upd (upd H2 a (ExD C d a)) d (.xd [(name, y)]))
theorem ps_set0 {o value : Expr} {ta tv : TE} (c : XCl X.K C) (hn : findIn X.K (.ref C) name = some none) (ha : PE X o ta) (hv : PE X value tv) (hs : swapsWith value (some (.Attribute o name pos')) pos.line X.env = pure false := by rfl) :
    PS X (.Assign [.Attribute o name pos'] value pos) (tSet0 X.K C ta tv name) := by
  intro pins s σ H D I h
  refine plainObj_wpAny_Assign_Attribute (thn (hv pins s σ H _ I h) fun u s1 ⟨y, H1, I1, ry, q⟩ => thn (ha pins s1 σ H1 _ I1 q) fun ov s2 ⟨x, H2, I2, rx, a, ex, ea, q2⟩ => ?_) hs
  subst ex
  obtain rfl : ov = Value.ref a := rx
  obtain ⟨⟨vs, sl, t, e, h0, h1⟩, _⟩ := I2.hok a _ ea
  refine exc_set0 I2.kIn e c.sh c.hd c.sa hn fun h' d tk g1 g2 g3 g4 => ?_
  have hn := I2.hok.fresh g1
  have nd : d ≠ a := fun z => by rw [z, ea] at hn; cases hn
  refine ⟨σ, _, ?_, q2 d hn nd⟩
  have u : Un X.fs [] H2 (upd (upd H2 a (ExD C d a)) d (.xd [(name, y)])) s2.heap h' := by
    have na : ∀ b, H2 b = none → b ≠ a := fun b z y => by rw [y, ea] at z; cases z
    have nd' : ∀ b o, s2.heap.get? b = some o → b ≠ d := fun b o z y => absurd (Nat.lt_of_lt_of_le (Heap.lt_size z) (y ▸ g1)) (Nat.lt_irrefl _)
    have nx : ∀ b o, H2 b = some o → b ≠ d := fun b o z y => by rw [y, hn] at z; cases z
    refine ⟨fun b o z n _ _ => g4 b o (na b n) z, fun b o z n _ _ => ⟨o.slots, g4 b o (na b n) z⟩, fun b o z n _ => by rw [upd_ne (nd' b o z), upd_ne (na b n)]; exact n, fun b o z _ => ?_, fun b xs z => ?_, fun b o u z => ?_, fun b ps z => ⟨#[], ?_⟩⟩
    · by_cases hb : b = a
      · rw [hb]; exact ⟨_, g2⟩
      · exact ⟨o, g4 b o hb z⟩
    all_goals
      have nb : b ≠ a := fun y => by rw [y, ea] at z; cases z
      rw [upd_ne (nx b _ z), upd_ne nb, z]
    simp
  refine I2.un u fun b o z => ?_
  by_cases hb : b = d
  · subst hb
    rw [upd_same] at z
    cases z
    refine ⟨_, g3, fun f => ?_⟩
    by_cases hf : f = name
    · subst hf; simp only [if_pos]; simpa [List.lookup, RelO] using ry
    · have : (f == name) = false := beq_eq_false_iff_ne.mpr hf
      simp only [if_neg hf, List.lookup, this]; trivial
  · rw [upd_ne hb] at z
    by_cases hb2 : b = a
    · subst hb2
      rw [upd_same] at z
      cases z
      exact exd_ok g2 h1
    · rw [upd_ne hb2] at z
      have nown : ∀ c y, H2 c = some (.own y) → c ≠ a := fun c y r q => by rw [q, ea] at r; cases r
      have ntup : ∀ c y, H2 c = some (.tup y) → c ≠ a := fun c y r q => by rw [q, ea] at r; cases r
      have nx : ∀ b o, H2 b = some o → b ≠ d := fun b o z y => by rw [y, hn] at z; cases z
      refine (I2.hok b o z).stay (fun c v hc q => g4 c v ?_ q) (fun c q => by rw [upd_ne (nx c _ q), upd_ne (nown c _ q)]; exact q) fun c xs q => by rw [upd_ne (nx c _ q), upd_ne (ntup c _ q)]; exact q
      rcases hc with rfl | hc
      · exact hb2
      · exact nown c _ hc

def tFs (te : TE) : TE := fun σ H Q => te σ H fun v H1 => ((∃ n : Int, v = .int n ∧ 0 ≤ n ∧ n < 1000000) ∨ ∃ z : Str, v = .str z ∧ z.length ≤ 1000000) ∧ ∀ y, Q (.str y) H1
theorem pe_fs {a : Str} {j : Nat} {q1 q2 q3 : Pos} (he : PE X e te) (ha : a.length ≤ 1000 := by decide +kernel) : PE X (.JoinedStr [.Constant (.str a) j q1, .FormattedValue e (-1) none q2] q3) (tFs te) := by
  intro pins s σ H Q I h
  refine JoinedStr_many (joinParts_cons (Calls.Constant_str ⟨?_, ?_⟩))
  · rw [strLen_append, sizeLine_eq]
    show 0 + a.length ≤ _
    omega
  refine joinParts_cons (FormattedValue_plain (thn (he pins _ σ H _ (I.tok _) h) fun u s1 ⟨v, H1, I1, r, hv, q⟩ => ?_))
  have fin : ∀ (y : Str) (tk : Nat), y.length ≤ 1000001 → (Str.empty ++ a ++ y).length ≤ sizeLine ∧ wpAny (model X.prog X.w) X.A (joinParts (Str.empty ++ a ++ y) []) (EP X pins σ Q) X.xe { s1 with toks := tk } := fun y tk hy => by
    have hz : (Str.empty ++ a ++ y).length ≤ sizeLine := by
      rw [strLen_append, strLen_append, sizeLine_eq]
      show 0 + a.length + y.length ≤ _
      omega
    exact ⟨hz, joinParts_nil ⟨.str _, H1, I1.tok _, ⟨_, rfl⟩, q _⟩ hz⟩
  rcases hv with ⟨n, rfl, n0, n1⟩ | ⟨z, rfl, hz⟩
  · obtain ⟨tk, rfl⟩ := r
    refine formatField_int_small (log_small n0 n1) (fin _ _ ?_)
    have e1 := int_text_length_le10 (a := n) (k := 7) (by decide) (by omega)
    show (Str.ofString (toString n)).length ≤ _
    rw [PySem.ofString_length]
    omega
  · obtain ⟨tk, rfl⟩ := r
    exact formatField_str (fun t' tk' => fin _ _ (by omega)) (by rw [sizeLine_eq]; omega)
end
end L2

set_option Elab.async false
set_option linter.all false
set_option maxRecDepth 100000
set_option maxHeartbeats 1000000
namespace L2
open PySem PySem.Spec PyProof.Rows PySem.W


def sp_init (C : Addr) (f : Str) (pay : V → Prop) : Sp := fun vs H Q _ => ∃ a v, vs = [.ref a, v] ∧ H a = some (ExN C a) ∧ pay v ∧ ∀ d, H d = none → d ≠ a → Q .non (upd (upd H a (ExD C d a)) d (.xd [(f, v)]))

def payT (v : V) : Prop := (∃ n : Int, v = .int n ∧ 0 ≤ n ∧ n < 1000000) ∨ ∃ z : Str, v = .str z ∧ z.length ≤ 1000000
structure Err (P : Program) (w : World) (K : Frag) (mg : Str → Option Value) (base : Heap) (x : Str) (C : Addr) (f : Str) (pay : V → Prop) : Prop where
  gl : mg x = some (.ref C)
  cl : XCl K C
  kp : keepIn K (.ref C) = true
  ex : ∃ (fI : Addr) (fd : FuncData) (oI : Obj) (ps : List Str), xInit K C = some (some (.ref fI)) ∧ K.lookup fI = some oI ∧ oI.cls = .type "function" ∧ Binds K fd ps [] ∧ FnOk P w K mg base CX0 1 fI fd ps (sp_init C f pay)
theorem init_read {K : Frag} {C : Addr} {f p : Str} {a : Addr} {v : V} {H : Hp} {Q : VK} (ea : H a = some (ExN C a)) (hp : payT v) (q : ∀ d, H d = none → d ≠ a → Q .non (upd (upd H a (ExD C d a)) d (.xd [(f, v)]))) :
    tSeq (tDrop (tCB (rInit C) (tCons (tVar 0) (tCons (tFs (tVar 1)) tNil)))) (tSet0 K C (tVar 0) (tVar 1) f) { nx := fun _ H' => Q .non H', rt := Q } (start ["self", p] [.ref a, v]) H :=
  ⟨.ref a, rfl, v, rfl, hp, fun y => ⟨a, .str y, rfl, ea, v, rfl, .ref a, rfl, a, rfl, ea, fun d h1 h2 => q d h1 h2⟩⟩
section
variable {X : Cx} {E : XS} {C : Addr} {x f : Str} {pay : V → Prop} {e : Expr} {es : List Expr} {t : TA} {np cpos pos : Pos} {j : Nat}
def tRaise (C : Addr) (f : Str) (pay : V → Prop) (E : XS) (t : TA) : TS := fun _ σ H => t σ H fun vs H1 => ∃ v, vs = [v] ∧ pay v ∧ ∀ d H2, Same H1 H2 → H1 d = none → H2 d = some (.xd [(f, v)]) → E (.ref C) (some d) σ H2
theorem ps_raise (hx : Thr X E) (R : Err X.prog X.w X.K X.mg X.base x C f pay) (hr : Room j X.A) (hj : 2 ≤ j) (ha : PA X (e :: es) t) (hg : Gl X x := by rfl) (hdb : (x == ("__debug__" : Str)) = false := by decide)
    (he : starEach (e :: es) X.env = (false, eval e X.env) :: starEach es X.env := by rfl) (hpl : (backTo cpos (starEach es X.env)).any (·.1) = false := by rfl) :
    PS X (.Raise (some (.Call (.Name x np) (e :: es) [] cpos)) none pos) (tRaise C f pay E t) := by
  intro pins s σ H D I h
  have c := R.cl
  rw [arm_exec_Raise]
  refine wpAny_bind (wpAny_standAt (exc_raise (C := C) (K := X.K) hr.hd ?_))
  refine wpAny_bind (wpAny_mono (Q := fun v s₁ => ∃ x dd vs sl, v = .ref x ∧ X.K.In s₁.heap ∧ XCl X.K C ∧ s₁.heap.get? x = some ⟨.ref C, dd, .fields vs, sl⟩ ∧ vs[1]? = some .none ∧ X.xe (.ref x) s₁) ?_ (fun v s₁ h₁ => wpAny_bind (wpAny_standAt (wpAny_pure h₁))) fun _ _ z => z)
  refine wpAny_Call_Name_kw (ld_glob I hg R.gl ?_ hdb)
  refine callWith_K (h₀ := X.base) I.ok.mod.kin R.kp (thn (ha cpos pins s σ H _ I h) fun us s1 ⟨vs, H1, I1, r, v, hvs, hp, q⟩ => ⟨I1.kIn, ?_⟩) he hpl
  subst hvs
  obtain ⟨u, rfl, rv⟩ := vals1 r
  obtain ⟨fI, fd, oI, ps, i1, i2, i3, hb, F⟩ := R.ex
  refine exc_make I1.kIn c.sh i1 i2 i3 (by show 1 ≤ _; rw [sizeLine_eq]; decide) fun h' a g1 g2 => ?_
  obtain ⟨t0, z1, _, _⟩ := g2.there
  have n1 := I1.hok.fresh g1
  have I2 : Inv X pins σ (upd H1 a (ExN C a)) { s1 with heap := h' } := I1.laid (t' := s1.toks) g2.keeps g1 (exn_ok (t := t0) z1 rfl rfl)
  have hsp : sp_init C f pay [.ref a, v] (upd H1 a (ExN C a)) (fun w2 H2 => w2 = .non ∧ ∃ d, upd H1 a (ExN C a) d = none ∧ d ≠ a ∧ H2 = upd (upd (upd H1 a (ExN C a)) a (ExD C d a)) d (.xd [(f, v)])) E0 :=
    ⟨a, v, rfl, upd_same, hp, fun d q1 q2 => ⟨rfl, d, q1, q2, rfl⟩⟩
  have r2 : Vals [V.ref a, v] [Value.ref a, u] := .cons rfl (.cons rv .nil)
  have hb' := hb { s1 with heap := h' } [.ref a, u] I2.kIn (by rw [← F.len _ _ _ _ hsp]; rfl)
  refine wpAny_call (codeAny_mono (F.run (X.A.under (.builtin "type.__call__" ⟨.ref C :: [u], []⟩)) X.stack { s1 with heap := h' } _ ⟨[.ref a, u], []⟩ _ _ _ _ ((hr.mono hj).make C [u] []) (I2.env0.make C [u] []) hb' (by simpa using r2) hsp) fun r s' hq => ?_)
  rcases r with er | fl
  · exact False.elim hq
  cases fl with
  | next => exact False.elim hq
  | brk => exact False.elim hq
  | cont => exact False.elim hq
  | ret w2 =>
    obtain ⟨v2, H2, I3, rv2, rfl, d, q1, q2, rfl⟩ := I2.after hq
    refine ⟨rv2, a, some d, ?_⟩
    have hx1 : ObjOk X.prog X.w (upd (upd (upd H1 a (ExN C a)) a (ExD C d a)) d (.xd [(f, v)])) s'.heap a (ExD C d a) := I3.hok a _ (by rw [upd_ne (Ne.symm q2), upd_same])
    obtain ⟨⟨vs', sl', e1, e2⟩, _⟩ := hx1
    refine ⟨vs', sl', rfl, I3.kIn, c, e1, e2, hx _ _ ?_⟩
    have np : ∀ q ∈ X.pn, q.1 ≠ a := fun q hq y => by
      have := (I1.pin q (List.mem_append_left _ hq)).1
      exact absurd (Nat.lt_of_lt_of_le (Heap.lt_size this) (y ▸ g1)) (Nat.lt_irrefl _)
    have q1' : H1 d = none := by rw [upd_ne q2] at q1; exact q1
    -- the object is no longer tracked
    have sa : Same H1 (fun b => if b = a then none else upd (upd (upd H1 a (ExN C a)) a (ExD C d a)) d (.xd [(f, v)]) b) := fun b o hb => by
      have ba : b ≠ a := fun y => by rw [y, n1] at hb; cases hb
      have bd : b ≠ d := fun y => by rw [y, q1'] at hb; cases hb
      simp only [if_neg ba]
      rw [upd_ne bd, upd_ne ba, upd_ne ba]; exact hb
    refine ⟨a, .ref C, some d, _, [], σ, rfl, ?_, Nat.le_trans I1.sz g1, ?_, np, .inl ⟨sl', vs', e1, e2⟩, q d _ sa q1' ?_⟩
    · have I4 : Inv X [] σ (upd (upd (upd H1 a (ExN C a)) a (ExD C d a)) d (.xd [(f, v)])) s' := I3.pins_of fun p hp => absurd hp (by simp)
      have key : ∀ b o, (fun b => if b = a then none else upd (upd (upd H1 a (ExN C a)) a (ExD C d a)) d (.xd [(f, v)]) b) b = some o → b ≠ a ∧ upd (upd (upd H1 a (ExN C a)) a (ExD C d a)) d (.xd [(f, v)]) b = some o := fun b o z => by
        by_cases hb : b = a
        · simp [hb] at z
        · simp only [if_neg hb] at z; exact ⟨hb, z⟩
      have back : ∀ b o, b ≠ a → upd (upd (upd H1 a (ExN C a)) a (ExD C d a)) d (.xd [(f, v)]) b = some o → (fun b => if b = a then none else upd (upd (upd H1 a (ExN C a)) a (ExD C d a)) d (.xd [(f, v)]) b) b = some o := fun b o hb z => by
        simp only [if_neg hb]; exact z
      have nex : ∀ b o, upd (upd (upd H1 a (ExN C a)) a (ExD C d a)) d (.xd [(f, v)]) b = some o → (∀ φ, o ≠ .ext φ) → b ≠ a := fun b o z no y => by
        rw [y, upd_ne (Ne.symm q2), upd_same] at z
        cases z
        exact no _ rfl
      refine I4.step (h' := s'.heap) (g' := s'.gens) (t' := s'.toks) (d' := s'.drawn) (ch := []) (fun _ z => absurd z (by simp)) (fun b o _ _ _ z _ => z) (fun b o _ _ _ z _ => ⟨o.slots, z⟩) (fun b o _ _ z => ?_) (fun b o _ z => ⟨o, z⟩) (fun b xs z => back b _ (nex b _ z fun _ y => by cases y) z) (fun b o u z => back b _ (nex b _ z fun _ y => by cases y) z)
        (fun b ps z => ⟨#[], by rw [Array.append_empty]; exact back b _ (nex b _ z fun _ y => by cases y) z⟩) (fun m z => z) (fun b o z => ?_) I4.bare
      · by_cases hb : b = a
        · simp [hb]
        · simp only [if_neg hb]; exact z
      · obtain ⟨hb, z⟩ := key b o z
        exact (I4.hok b o z).stay (fun _ _ _ y => y) (fun c y => back c _ (nex c _ y fun _ y => by cases y) y) fun c xs y => back c _ (nex c _ y fun _ y => by cases y) y
    · simp
    · simp only [if_neg q2]; rw [upd_same]
end
end L2

set_option Elab.async false
set_option linter.all false
set_option maxRecDepth 100000
set_option maxHeartbeats 1000000
namespace L2
open PySem PySem.Spec PyProof.Rows PySem.W
section
variable {X : Cx} {pins : List (Addr × Obj)} {σ : St} {H : Hp} {s : Shared}

def Ours (X : Cx) (b : Addr) : Prop := X.s₀.heap.objs.size ≤ b ∧ b ≠ X.env.locals ∧ (∀ x c, X.env.cells.lookup x = some c → c ≠ b) ∧ ∀ p ∈ X.pn, p.1 ≠ b
theorem ours_at (I : Inv X pins σ H s) {b : Addr} {o : Obj} {vs : Array Value} (e : s.heap.get? b = some o) (hd : o.data = .fields vs) (h0 : X.s₀.heap.objs.size ≤ b) (hp : ∀ p ∈ X.pn, p.1 ≠ b) : Ours X b := by
  refine ⟨h0, fun z => ?_, fun x c hc z => ?_, hp⟩
  · obtain ⟨m, ⟨o', es, ep, e', d', _⟩, _⟩ := I.loc
    rw [← z, e] at e'
    cases e'
    rw [hd] at d'
    cases d'
  · obtain ⟨v, o', e', d'⟩ := I.cell x c hc
    rw [z, e] at e'
    cases e'
    rw [hd] at d'
    cases d'
theorem ours_new (I : Inv X pins σ H s) {b : Addr} (h : s.heap.objs.size ≤ b) : Ours X b := by
  refine ⟨Nat.le_trans I.sz h, fun z => absurd I.lt (by rw [← z]; exact Nat.not_lt.mpr h), fun x c hc z => ?_, fun p hp z => ?_⟩
  · obtain ⟨v, o', e', d'⟩ := I.cell x c hc
    exact absurd (Nat.lt_of_lt_of_le (Heap.lt_size e') (z ▸ h)) (Nat.lt_irrefl _)
  · have := (I.pin p (List.mem_append_left _ hp)).1
    exact absurd (Nat.lt_of_lt_of_le (Heap.lt_size this) (z ▸ h)) (Nat.lt_irrefl _)

theorem Inv.kp {h' : Heap} {H' : Hp} {ch : List Addr} (I : Inv X [] σ H s) (k : Kp ch (frs X.stack) s.heap h') (hc : ∀ b ∈ ch, Ours X b ∧ H b = none) (hH : ∀ b, b ∉ ch → H' b = H b) (hok : HOk X.prog X.w H' h') : Inv X [] σ H' { s with heap := h' } := by
  have nt : ∀ b o, H b = some o → b ∉ ch := fun b o z y => by rw [(hc b y).2] at z; cases z
  refine I.step (h' := h') (g' := s.gens) (t' := s.toks) (d' := s.drawn) (ch := ch) (fun b hb => ?_) (fun b o n1 n2 n3 z _ => ?_) (fun b o n1 n2 n3 z _ => k.slot b o n3 z) (fun b o n3 z n => by rw [hH b n3]; exact n) (fun b o n3 z => let ⟨sl, q⟩ := k.slot b o n3 z; ⟨_, q⟩)
    (fun b xs z => by rw [hH b (nt b _ z)]; exact z) (fun b o u z => by rw [hH b (nt b _ z)]; exact z) (fun b ps z => ⟨#[], by rw [hH b (nt b _ z), Array.append_empty]; exact z⟩) (fun m hm => ?_) hok I.bare
  · obtain ⟨a1, a2, a3, a4⟩ := (hc b hb).1
    exact ⟨.inr a1, a2, a3, fun p hp => (List.mem_append.mp hp).elim (a4 p) fun z => absurd z (by simp)⟩
  · exact k.keep b o n3 (fun y => (List.mem_cons.mp (I.stkSub b y)).elim n1 n2) z
  · obtain ⟨o, es, ep, ho, r⟩ := hm
    obtain ⟨sl, q⟩ := k.slot _ o (fun z => (hc _ z).1.2.1 rfl) ho
    exact ⟨_, es, ep, q, r⟩

theorem Inv.lost {h' : Heap} {tk : Nat} {m' : Str → Option Value} (I : Inv X pins σ H s) (hn : h'.Ns X.env.locals m') (hs : Heap.SameBut X.env.locals s.heap h') : Inv X pins (σ.map fun _ => none) H { s with heap := h', toks := tk } := by
  have lt : ∀ b o, X.s₀.heap.get? b = some o → b ≠ X.env.locals := fun b o e => Nat.ne_of_lt (Nat.lt_of_lt_of_le (Heap.lt_size e) I.ok.above)
  refine ⟨I.ok, I.os, I.bare, ⟨fun b o e n hb hx => ?_, fun b o e n hb hx => ?_, I.base.free, fun b o e hx => ?_, I.base.tups, I.base.frzs, I.base.tbls⟩, ⟨_, hn, fun j y v' e1 e2 e3 => ?_⟩, fun y c e => ?_, I.free, I.freeC, fun p hp => ?_, fun b ob e => ?_, by simpa using I.len⟩
  · exact (hs.2 b (lt b o e)).trans (I.base.keep b o e n hb hx)
  · obtain ⟨sl, e1⟩ := I.base.slot b o e n hb hx
    exact ⟨sl, (hs.2 b (lt b o e)).trans e1⟩
  · obtain ⟨o', e1⟩ := I.base.there b o e hx
    exact ⟨o', (hs.2 b (lt b o e)).trans e1⟩
  · rw [List.getElem?_map] at e2
    cases q : σ[j]? with
    | none => rw [q] at e2; cases e2
    | some z => rw [q] at e2; cases e2
  · obtain ⟨w', z⟩ := I.cell y c e
    exact ⟨w', z.sameBut hs (I.cne y c e)⟩
  · obtain ⟨e, n, ne, nf, d⟩ := I.pin p hp
    exact ⟨(hs.2 p.1 ne).trans e, n, ne, nf, d⟩
  · refine (I.hok b ob e).stay (fun c w' hc q => (hs.2 c ?_).trans q) (fun _ q => q) fun _ _ q => q
    rintro rfl
    rcases hc with rfl | hc
    · rw [I.free] at e; cases e
    · rw [I.free] at hc; cases hc

abbrev Cx.tryIn (X : Cx) (pn : List (Addr × Obj)) (xe : Value → Shared → Prop) : Cx := { X with pn := pn, xe := xe }
abbrev Cx.exIn (X : Cx) (pn : List (Addr × Obj)) (ea : Addr) : Cx := { X with pn := pn, A := X.A.mark (some (.ref ea)), calm := false, xe := fun _ _ => False }
theorem Cx.Ok.tryIn (ok : X.Ok) (pn : List (Addr × Obj)) (xe : Value → Shared → Prop) : (X.tryIn pn xe).Ok :=
  ⟨ok.mod, ok.kind, ok.glob, ok.blt, ok.above, ok.inj, ok.has, ok.cab, ok.hd, ok.frames, ok.stk, ok.exf, ok.bs, ok.bsz, ok.noex, ok.exfs, ok.funs, ok.frf⟩
theorem Cx.Ok.exIn (ok : X.Ok) (pn : List (Addr × Obj)) (ea : Addr) : (X.exIn pn ea).Ok :=
  ⟨ok.mod, ok.kind, ok.glob, ok.blt, ok.above, ok.inj, ok.has, ok.cab, fun z => absurd (show false = true from z) (by decide), ok.frames, ok.stk, ok.exf, ok.bs, ok.bsz, ok.noex, ok.exfs, ok.funs, ok.frf⟩
theorem Inv.tryIn (I : Inv X pins σ H s) (xe : Value → Shared → Prop) : Inv (X.tryIn (X.pn ++ pins) xe) [] σ H s := ⟨I.ok.tryIn _ _, I.os, I.bare, I.base, I.loc, I.cell, I.free, I.freeC, fun p hp => I.pin p (by simpa using hp), I.hok, I.len⟩
theorem Inv.untry {xe : Value → Shared → Prop} (ok : X.Ok) (I : Inv (X.tryIn (X.pn ++ pins) xe) [] σ H s) : Inv X pins σ H s := ⟨ok, I.os, I.bare, I.base, I.loc, I.cell, I.free, I.freeC, fun p hp => I.pin p (by simpa using hp), I.hok, I.len⟩
theorem Inv.toEx {xe : Value → Shared → Prop} (ok : X.Ok) (ea : Addr) (I : Inv (X.tryIn (X.pn ++ pins) xe) [] σ H s) : Inv (X.exIn (X.pn ++ pins) ea) [] σ H s := ⟨ok.exIn _ _, I.os, I.bare, I.base, I.loc, I.cell, I.free, I.freeC, I.pin, I.hok, I.len⟩
theorem Inv.unEx {ea : Addr} (ok : X.Ok) (I : Inv (X.exIn (X.pn ++ pins) ea) [] σ H s) : Inv X pins σ H s := ⟨ok, I.os, I.bare, I.base, I.loc, I.cell, I.free, I.freeC, fun p hp => I.pin p (by simpa using hp), I.hok, I.len⟩
end


def Caught (H : Hp) (a C : Addr) (d : Option Addr) : Prop := ∃ o, H a = some (.frz o (.own a)) ∧ o.cls = .ref C ∧ o.dict = d ∧ ∃ vs, o.data = .fields vs

def tTry (K : Frag) (Dc : Addr) (i : Nat) (tb : XS → TS) (th : TS) : TS := fun D σ H =>
  tb (fun c d σ' H' => ∃ C, c = .ref C ∧ XCl K C ∧ mroIn K C (.ref Dc) = some true ∧ ∀ ea H2, Same H' H2 → Caught H2 ea C d → th { nx := fun σ2 H2 => D.nx (σ2.map fun _ => none) H2, rt := D.rt, bk := fun σ2 H2 => D.bk (σ2.map fun _ => none) H2, ct := fun σ2 H2 => D.ct (σ2.map fun _ => none) H2 } (σ'.set i (some (.ref ea))) H2) D σ H
section
variable {X : Cx} {Dc : Addr} {x n : Str} {i : Nat} {tb : XS → TS} {th : TS} {body suite : List Stmt} {b₀ : Stmt} {np hpos pos : Pos}
theorem ps_try (hm : X.mg x = some (.ref Dc)) (cD : XCl X.K Dc) (hN : X.N.Nodup) (hi : X.N[i]? = some n) (hl : X.env.scope.names.lookup n = some .local) (hst : X.stack = X.env :: X.outer) (hf : X.env.frame = some X.env.locals)
    (hb : ∀ (E : XS) (pn : List (Addr × Obj)) (xe : Value → Shared → Prop), PassesOwn (model X.prog X.w) X.A X.env xe → Thr (X.tryIn pn xe) E → PSs (X.tryIn pn xe) body (tb E))
    (hh : ∀ pn ea, PSs (X.exIn pn ea) (b₀ :: suite) th) (hg : Gl X x := by rfl) (hdb : (x == ("__debug__" : Str)) = false := by decide) :
    PS X (.Try body [.ExceptHandler (some (.Name x np)) (some n) (b₀ :: suite) hpos] [] [] pos) (tTry X.K Dc i tb th) := by
  intro pins s σ H D I h
  refine wpAny_Try_except ?_
  refine wpAny_mono (hb _ (X.pn ++ pins) (fun e s₁ => wpAny (model X.prog X.w) X.A (noteFrame e X.env) (fun _ s₂ => wpAny (model X.prog X.w) X.A (setFlight e none) (fun _ s₃ =>
    wpAny (model X.prog X.w) X.A (handleBy e X.env [.ExceptHandler (some (.Name x np)) (some n) (b₀ :: suite) hpos]) (SP X pins D) X.xe s₃) X.xe s₂) X.xe s₁) PassesOwn.looking ?_ [] s σ H D (I.tryIn _) h) (fun f s1 q => ?_) fun e s1 z => z
  · intro e s' hF
    obtain ⟨ea, c, d, H', pins', σ', rfl, I1', hea, hHe, hpn, hv, C, rfl, cC, hmr, hth⟩ := hF
    have I1 : Inv (X.tryIn (X.pn ++ pins) _) [] σ' H' s' := I1'.pins_of fun p hp => absurd hp (by simp)
    clear I1'
    have hfr : X.A.frames = some (X.env :: X.outer) := by rw [← hst]; exact I.ok.frames
    have hlf : s'.heap.FunFrames X.base (X.env :: X.outer) := by rw [← hst]; exact I1.stack
    have hfree : ∀ b ∈ frs (X.env :: X.outer), H' b = none := by rw [← hst]; exact I1.stkFree
    have go : ∀ (h2 : Heap) (T : Addr) (ch : List Addr), s'.heap.objs.size ≤ T → Fly h2 ea T (.ref C) d .none → Kp ch (frs (X.env :: X.outer)) s'.heap h2 → ea ∈ ch → T ∈ ch → (∀ b ∈ ch, Ours (X.tryIn (X.pn ++ pins) fun _ _ => True) b ∧ H' b = none) →
        wpAny (model X.prog X.w) X.A (handleBy (.ref ea) X.env [.ExceptHandler (some (.Name x np)) (some n) (b₀ :: suite) hpos]) (SP X pins D) X.xe { s' with heap := h2 } := by
      intro h2 T ch g1 g2 g3 m1 m2 g4
      have I2 : Inv (X.tryIn (X.pn ++ pins) _) [] σ' H' { s' with heap := h2 } := I1.kp (by rw [hst]; exact g3) (fun b hb => ⟨(g4 b hb).1, (g4 b hb).2⟩) (fun _ _ => rfl) (I1.hok.kp g3 (fun b hb => (g4 b hb).2) hfree)
      have I3 := I2.toEx I.ok ea
      obtain ⟨sl, vs, oT, ts, he, hv1, tn, hT, hd, h3⟩ := id g2
      refine wpAny_handleBy_cons (codeAny_handlers_test (ld_glob (X := X.exIn (X.pn ++ pins) ea) I3 hg hm ?_ hdb)) (by intro q; cases q)
      refine exc_match (s := { s' with heap := h2 }) I3.kIn he rfl cC cD hmr ?_
      refine codeAny_handlers_suite_as ?_
      refine flight_off (s := { s' with heap := h2 }) g2 fun h4 f1 f2 f3 => ?_
      obtain ⟨sl4, vs4, oT4, ts4, he4, _⟩ := id f1
      have I4 : Inv (X.exIn (X.pn ++ pins) ea) [] σ' (upd H' ea (.frz ⟨.ref C, d, .fields vs4, sl4⟩ (.own ea))) { s' with heap := h4 } := by
        have k : Kp [ea, T] (frs X.stack) h2 h4 := f2.mono (fun b hb => List.mem_cons_of_mem _ hb) (fun b hb => absurd hb (by simp))
        refine Inv.kp (s := { s' with heap := h2 }) I3 k (fun b hb => ?_) (fun b hb => ?_) fun b o z => ?_
        · have : b ∈ ch := by
            rcases List.mem_cons.mp hb with z | z
            · rw [z]; exact m1
            · rw [show b = T by simpa using z]; exact m2
          exact ⟨(g4 b this).1, (g4 b this).2⟩
        · exact upd_ne fun z => hb (by simp [z])
        · by_cases hb : b = ea
          · subst hb
            rw [upd_same] at z
            cases z
            exact ⟨he4, ⟨_, he4⟩⟩
          · rw [upd_ne hb] at z
            have nT : ∀ c u, H' c = some u → c ∉ [T] := fun c u q y => by
              rw [show c = T by simpa using y, (g4 T m2).2] at q; cases q
            have ne : ∀ c u, H' c = some u → c ≠ ea := fun c u q y => by rw [y, hHe] at q; cases q
            refine (I2.hok b o z).stay (fun c u hc q => ?_) (fun c q => by rw [upd_ne (ne c _ q)]; exact q) fun c xs q => by rw [upd_ne (ne c _ q)]; exact q
            rcases hc with rfl | hc
            · exact f2.keep _ u (nT _ _ z) (by simp) q
            · exact f2.keep _ u (nT _ _ hc) (by simp) q
      refine store_ok (X := X.exIn (X.pn ++ pins) ea) I4 hN hi (.inl hl) (v := .ref ea) rfl (fun s5 I5 => ?_) (.inr hl)
      have hsm : Same H' (upd H' ea (.frz ⟨.ref C, d, .fields vs4, sl4⟩ (.own ea))) := fun b o q => by rw [upd_ne fun y => by rw [y, hHe] at q; cases q]; exact q
      refine wpAny_mono (hh (X.pn ++ pins) ea [] s5 _ _ _ I5 (hth ea _ hsm ⟨_, upd_same, rfl, rfl, _, rfl⟩)) (fun f s6 q => ?_) fun _ _ z => z.elim
      have gone : ∀ σ6 H6, Inv (X.exIn (X.pn ++ pins) ea) [] σ6 H6 s6 → (∀ s7, Inv X pins (σ6.map fun _ => none) H6 s7 → SP X pins D f s7) → wpAny (model X.prog X.w) X.A (do bindName X.env n .none; unbindBehindTheSuite X.env n hpos) (fun _ s7 => SP X pins D f s7) X.xe s6 := by
        intro σ6 H6 J k
        obtain ⟨m, hn, _⟩ := J.loc
        exact wpAny_nameGoes hl hn (by rw [J.ok.kind]; rfl) fun h' m' z1 z2 => k _ ((J.unEx I.ok).lost z1 z2)
      cases f with
      | next => obtain ⟨σ6, H6, J, q⟩ := q; exact gone σ6 H6 J fun s7 J' => ⟨_, H6, J', q⟩
      | brk => obtain ⟨σ6, H6, J, q⟩ := q; exact gone σ6 H6 J fun s7 J' => ⟨_, H6, J', q⟩
      | cont => obtain ⟨σ6, H6, J, q⟩ := q; exact gone σ6 H6 J fun s7 J' => ⟨_, H6, J', q⟩
      | ret u => obtain ⟨v, σ6, H6, J, r, q⟩ := q; exact gone σ6 H6 J fun s7 J' => ⟨v, _, H6, J', r, q⟩
    rcases hv with ⟨sl, vs, he, h1⟩ | ⟨T0, hF, hT, hHT, hpT⟩
    · refine note_first hfr hlf hf he h1 fun h1' T g1 g2 g3 => flight_off (s := { s' with heap := h1' }) g2 fun h2 f1 f2 f3 => ?_
      refine go h2 T ([ea] ++ [T]) g1 f1 (g3.trans (f2.mono (fun _ z => z) fun b z => absurd z (by simp))) (by simp) (by simp) fun b hb => ?_
      rcases List.mem_append.mp hb with z | z
      · rw [show b = ea by simpa using z]; exact ⟨ours_at I1 he rfl hea hpn, hHe⟩
      · rw [show b = T by simpa using z]; exact ⟨ours_new I1 g1, I1.hok.fresh g1⟩
    · obtain ⟨sl, vs, oT, ts, he, hv1, tn, hTT, hd, h3⟩ := id hF
      refine note_next hfr hlf hf hF fun h1' T g1 g2 g3 => flight_off (s := { s' with heap := h1' }) g2 fun h2 f1 f2 f3 => ?_
      refine go h2 T ([T0, ea] ++ [T]) g1 f1 (g3.trans (f2.mono (fun _ z => z) fun b z => absurd z (by simp))) (by simp) (by simp) fun b hb => ?_
      rcases List.mem_append.mp hb with z | z
      · rcases List.mem_cons.mp z with z | z
        · rw [z]; exact ⟨ours_at I1 hTT hd hT hpT, hHT⟩
        · rw [show b = ea by simpa using z]; exact ⟨ours_at I1 he rfl hea hpn, hHe⟩
      · rw [show b = T by simpa using z]; exact ⟨ours_new I1 g1, I1.hok.fresh g1⟩
  · cases f with
    | next => obtain ⟨σ', H', I', q⟩ := q; exact wpAny_execs_nil ⟨σ', H', I'.untry I.ok, q⟩
    | brk => obtain ⟨σ', H', I', q⟩ := q; exact ⟨σ', H', I'.untry I.ok, q⟩
    | cont => obtain ⟨σ', H', I', q⟩ := q; exact ⟨σ', H', I'.untry I.ok, q⟩
    | ret u => obtain ⟨v, σ', H', I', r, q⟩ := q; exact ⟨v, σ', H', I'.untry I.ok, r, q⟩
end
end L2

set_option Elab.async false
set_option linter.all false
set_option maxRecDepth 100000
set_option maxHeartbeats 1000000
namespace L2
open PySem PySem.Spec PyProof.Rows PySem.W

structure Got (K : Frag) (H : Hp) (a C : Addr) (fs : List (Str × V)) : Prop where
  cl : XCl K C
  ex : ∃ d, Caught H a C (some d) ∧ H d = some (.xd fs)
theorem Caught.mono {H H' : Hp} {a C : Addr} {d : Option Addr} (c : Caught H a C d) (s : Same H H') : Caught H' a C d := by
  obtain ⟨o, e, r⟩ := c
  exact ⟨o, s _ _ e, r⟩
theorem Got.mono {K : Frag} {H H' : Hp} {a C : Addr} {fs : List (Str × V)} (g : Got K H a C fs) (s : Same H H') : Got K H' a C fs := by
  obtain ⟨d, c, e⟩ := g.ex
  exact ⟨g.cl, d, c.mono s, s _ _ e⟩
section
variable {X : Cx} {pins : List (Addr × Obj)} {σ : St} {H : Hp} {s : Shared} {a C : Addr} {fs : List (Str × V)}
theorem got_inst (I : Inv X pins σ H s) (g : Got X.K H a C fs) : ∃ (ox od : Obj) (mA : Str → Option Value), InstAt s.heap a ox C (some od) ∧ (∀ f, lookIn f od = some (mA f)) ∧ ∀ f, RelO (fs.lookup f) (mA f) := by
  obtain ⟨d, ⟨o, e, h1, h2, vs, h3⟩, ed⟩ := g.ex
  obtain ⟨e', _⟩ := (show ObjOk X.prog X.w H s.heap a (.frz o (.own a)) from I.hok a _ e)
  obtain ⟨mA, n, r⟩ := (show ObjOk X.prog X.w H s.heap d (.xd fs) from I.hok d _ ed)
  obtain ⟨od, ho, hl⟩ := lookIn_ns n
  obtain ⟨oc, odi, oda, osl⟩ := o
  dsimp only at h1 h2 h3
  subst h1 h2 h3
  exact ⟨_, od, mA, ⟨e', rfl, rfl, ho⟩, hl, r⟩
def isC : V → Bool | .ref _ => true | .ty _ => true | _ => false
def clsU : V → Value | .ref a => .ref a | .ty n => .type n | _ => .none
theorem clsU_of {v : V} {u : Value} (h : isC v = true) (r : RelV v u) : u = clsU v := by
  cases v <;> first | exact r | cases h
theorem clsU_all : ∀ {vs : List V} {us : List Value}, vs.all isC = true → Vals vs us → us = vs.map clsU
  | _, _, _, .nil => rfl
  | _, _, h, .cons r t => by
    simp only [List.all_cons, Bool.and_eq_true] at h
    rw [List.map_cons, ← clsU_of h.1 r, ← clsU_all h.2 t]

def rIsX (K : Frag) : List V → Hp → VK → Prop := fun xs H Q => ∃ a c C fs b, xs = [.ref a, c] ∧ Got K H a C fs ∧ isC c = true ∧ kitOne K (.ref C) (clsU c) = some b ∧ Q (.bl b) H
def rIsXT (K : Frag) : List V → Hp → VK → Prop := fun xs H Q => ∃ a p C fs ys b, xs = [.ref a, .ref p] ∧ H p = some (.tup ys) ∧ Got K H a C fs ∧ ys.all isC = true ∧ kitAny K (.ref C) (ys.map clsU) = some b ∧ Q (.bl b) H
theorem call_isX : CallR X (.builtin "isinstance") (rIsX X.K) := by
  intro pins s σ H xs us Q I r h
  obtain ⟨a, c, C, fs, b, rfl, g, hc, e, q⟩ := h
  obtain ⟨u1, u2, rfl, r1, r2⟩ := vals2 r
  obtain rfl : u1 = Value.ref a := r1
  obtain rfl := clsU_of hc r2
  obtain ⟨ox, od, mA, J, _⟩ := got_inst I g
  exact kia_one (exc_kit g.cl) I.kIn J e (fun z => nomatch z) fun tk => ⟨.bl b, H, I.tok _, rfl, q⟩
theorem call_isXT : CallR X (.builtin "isinstance") (rIsXT X.K) := by
  intro pins s σ H xs us Q I r h
  obtain ⟨a, p, C, fs, ys, b, rfl, ep, g, hc, e, q⟩ := h
  obtain ⟨u1, u2, rfl, r1, r2⟩ := vals2 r
  obtain rfl : u1 = Value.ref a := r1
  obtain rfl : u2 = Value.ref p := r2
  obtain ⟨ox, od, mA, J, _⟩ := got_inst I g
  obtain ⟨_, its, rv, o, ho, hoc, n, hod⟩ := (show ObjOk X.prog X.w H s.heap p (.tup ys) from I.hok p _ ep)
  obtain rfl := clsU_all hc rv
  obtain ⟨oc, odi, oda, osl⟩ := o
  dsimp only at hoc hod
  subst hoc hod
  exact kia_tup (exc_kit g.cl) I.kIn J ho e (fun z => nomatch z) fun tk => ⟨.bl b, H, I.tok _, rfl, q⟩
theorem call_isXK {K : Frag} (hK : X.K = K) : CallR X (.builtin "isinstance") (rIsX K) := by subst hK; exact call_isX
theorem call_isXTK {K : Frag} (hK : X.K = K) : CallR X (.builtin "isinstance") (rIsXT K) := by subst hK; exact call_isXT

def tAtX (K : Frag) (te : TE) (f : Str) : TE := fun σ H Q => te σ H fun x H1 => ∃ a C fs v, x = .ref a ∧ Got K H1 a C fs ∧ findIn K (.ref C) f = some none ∧ fs.lookup f = some v ∧ Q v H1
theorem pe_atX {K : Frag} {e : Expr} {te : TE} {f : Str} {pos : Pos} (hK : X.K = K) (he : PE X e te) (hb : attributeBase e f X.env (eval e X.env) = eval e X.env := by rfl) : PE X (.Attribute e f pos) (tAtX K te f) := by
  subst hK
  intro pins s σ H Q I h
  refine attr_of hb (thn (he pins s σ H _ I h) fun u s1 ⟨x, H1, I1, rx, a, C, fs, v, ex, g, n, l, q⟩ => ?_)
  subst ex
  obtain rfl : u = Value.ref a := rx
  obtain ⟨ox, od, mA, J, hl, hr⟩ := got_inst I1 g
  obtain ⟨u, hu, ru⟩ := RelO.some_of (v := v) (o := mA f) (by rw [← l]; exact hr f)
  exact exc_get I1.kIn J g.cl (findObj_own g.cl.hd n rfl (by rw [hl, hu])) (handed_of ru) ⟨v, H1, I1.tok _, ru, q⟩
end

section
variable {X : Cx}
def rIsInt : List V → Hp → VK → Prop := fun xs H Q => (∃ i, xs = [.int i, .ty "int"] ∧ Q (.bl true) H) ∨ (∃ i, xs = [.bl i, .ty "int"] ∧ Q (.bl true) H) ∨ (∃ i, xs = [.str i, .ty "int"] ∧ Q (.bl false) H) ∨ (xs = [.non, .ty "int"] ∧ Q (.bl false) H)
def rIsBool : List V → Hp → VK → Prop := fun xs H Q => (∃ i, xs = [.int i, .ty "bool"] ∧ Q (.bl false) H) ∨ (∃ i, xs = [.bl i, .ty "bool"] ∧ Q (.bl true) H) ∨ (∃ i, xs = [.str i, .ty "bool"] ∧ Q (.bl false) H) ∨ (xs = [.non, .ty "bool"] ∧ Q (.bl false) H)
def rIsStr : List V → Hp → VK → Prop := fun xs H Q => (∃ i, xs = [.int i, .ty "str"] ∧ Q (.bl false) H) ∨ (∃ i, xs = [.bl i, .ty "str"] ∧ Q (.bl false) H) ∨ (∃ i, xs = [.str i, .ty "str"] ∧ Q (.bl true) H) ∨ (xs = [.non, .ty "str"] ∧ Q (.bl false) H)
end
end L2

set_option Elab.async false
set_option linter.all false
set_option maxRecDepth 100000
set_option maxHeartbeats 1000000
namespace L2
open PySem PySem.Spec PyProof.Rows PySem.W
section
variable {X : Cx} {k j : Nat} {x : Str} {ps : List Str} {sp : Sp} {p pos : Pos} {e : Expr} {es : List Expr} {t : TA} {a : Addr}
theorem passN {P : Program} {w : World} : Passes (CXE P w) X E0 := fun _ _ _ _ _ _ _ h => by
  obtain ⟨_, _, _, _, _, _, _, _, _, _, _, _, _, _, _, z⟩ := h
  exact z.elim

theorem pe_callN (F : OkX X.prog X.w X.K X.mg X.base k x ps sp) (hr : Room j X.A) (hk : k ≤ j) (ha : PA X (e :: es) t) (hg : Gl X x := by rfl) (hdb : (x == ("__debug__" : Str)) = false := by decide)
    (he : starEach (e :: es) X.env = (false, eval e X.env) :: starEach es X.env := by rfl) (hpl : (backTo pos (starEach es X.env)).any (·.1) = false := by rfl) : PE X (.Call (.Name x p) (e :: es) [] pos) (tCall sp [] E0 t) := by
  obtain ⟨f, fd, kp, b, m, G⟩ := F.ex
  exact pe_call G (hr.mono hk) hg m kp b .nil passN ha hdb he hpl

theorem pe_cls (h : X.mg x = some (.ref a)) (hg : Gl X x := by rfl) (hd : (x == ("__debug__" : Str)) = false := by decide) : PE X (.Name x pos) (tC (.ref a)) := pe_glob hg h rfl hd
end
theorem bb_ValueError : bootBuiltins "ValueError" = some (.type "ValueError") := by decide +kernel

structure Ini (K : Frag) (C : Addr) (qual : Str) (st : Stmt) (ps : List Str) : Prop where
  ex : ∃ (fI : Addr) (fd : FuncData) (oI : Obj), xInit K C = some (some (.ref fI)) ∧ K.lookup fI = some oI ∧ oI.cls = .type "function" ∧ Fun K "__init__" qual st fI fd ∧ Binds K fd ps []
theorem ini_mk {K : Frag} {C : Addr} {qual : Str} {st : Stmt} {ps : List Str} {f : Addr} {od an : Option Addr} {osl : Array (Option Value)} {kV doc pm cdv ct : Value}
    (b : ∀ (kV doc pm : Value) (an : Option Addr) (cdv ct : Value) (us : List Value), us.length = ps.length → bindArgs (fnOf "__init__" qual (defArgs st) (defBody st) (defScope st) .none kV doc pm an cdv ct) ⟨us, []⟩ = pure (ps.zip us))
    (a : xInit K C = some (some (.ref f))) (l : K.lookup f = some ⟨.type "function", od, .func (fnOf "__init__" qual (defArgs st) (defBody st) (defScope st) .none kV doc pm an cdv ct), osl⟩)
    (c : codeIn K cdv qual = true) (k : keepIn K (.ref f) = true) : Ini K C qual st ps :=
  ⟨f, _, _, a, l, rfl, fun_mk l c k, (fun_mk l c k).binds b⟩
end L2

set_option Elab.async false
set_option linter.all false
set_option maxRecDepth 100000
set_option maxHeartbeats 1000000
namespace L2
open PySem PySem.Spec PySem.Calls PyProof.Rows PySem.W
section
variable {X : Cx}

def rInsert : V → List V → Hp → VK → Prop := fun x vs H Q => ∃ l xs i y, x = .ref l ∧ vs = [.int i, y] ∧ H l = some (.lst xs) ∧ 0 ≤ i ∧ i ≤ xs.length ∧ xs.length < sizeLine ∧ Q .non (upd H l (.lst (xs.take i.toNat ++ y :: xs.drop i.toNat)))
def eqS (xs ys : List V) : Bool := (List.range (min xs.length ys.length)).all (fun j => eqV (xs.getD j .non) (ys.getD j .non)) && xs.length == ys.length
def rEqS (K : PySem.W.Frag) : R2 := fun x y H Q => ∃ a b xs ys, x = .ref a ∧ y = .ref b ∧ ((SqL K H a xs ∧ SqL K H b ys) ∨ (SqT K H a xs ∧ SqT K H b ys)) ∧ xs.all flatV = true ∧ ys.all flatV = true ∧ Q (.bl (eqS xs ys)) H
def rNeS (K : PySem.W.Frag) : R2 := fun x y H Q => ∃ a b xs ys, x = .ref a ∧ y = .ref b ∧ ((SqL K H a xs ∧ SqL K H b ys) ∨ (SqT K H a xs ∧ SqT K H b ys)) ∧ xs.all flatV = true ∧ ys.all flatV = true ∧ Q (.bl (!eqS xs ys)) H
theorem eqs_at {A : Around} {s : Shared} {xs ys : List V} {us vs : List Value} (r1 : Vals xs us) (r2 : Vals ys vs) (f1 : xs.all flatV = true) (f2 : ys.all flatV = true) :
    ∀ j (h1 : j < us.toArray.size) (h2 : j < vs.toArray.size), SeqAt.EqAt A s us.toArray[j] vs.toArray[j] (eqV (xs.getD j .non) (ys.getD j .non)) := by
  intro j h1 h2
  rw [List.size_toArray] at h1 h2
  have l1 := r1.length
  have l2 := r2.length
  have e1 : xs[j]? = some xs[j] := List.getElem?_eq_getElem (by omega)
  have e2 : ys[j]? = some ys[j] := List.getElem?_eq_getElem (by omega)
  obtain ⟨u, hu, ru⟩ := r1.get e1
  obtain ⟨v, hv, rv⟩ := r2.get e2
  rw [List.getElem?_eq_getElem h1] at hu
  rw [List.getElem?_eq_getElem h2] at hv
  rw [List.getElem_toArray, List.getElem_toArray, Option.some.inj hu, Option.some.inj hv, List.getD_eq_getElem?_getD, List.getD_eq_getElem?_getD, e1, e2]
  exact eqAt_V ru rv (List.all_eq_true.mp f1 _ (List.getElem_mem _)) (List.all_eq_true.mp f2 _ (List.getElem_mem _))
theorem op_eqS (hu : X.A.units < cLine) : OpR X (compareOp .Eq) (rEqS X.K) := by
  intro pins s σ H x y v u Q I rx ry h
  obtain ⟨a, b, xs, ys, rfl, rfl, hq, f1, f2, q⟩ := h
  cases rx
  cases ry
  rcases hq with ⟨ha, hb⟩ | ⟨ha, hb⟩
  · obtain ⟨its, r1, p1, _⟩ := I.list ha
    obtain ⟨its2, r2, p2, _⟩ := I.list hb
    have l1 := r1.length
    have l2 := r2.length
    by_cases hl : xs.length = ys.length
    · refine SeqAt.eq_listAt p1.isList p2.isList (by simp; omega) hu (eqs_at r1 r2 f1 f2) ⟨.bl _, H, I, rfl, ?_⟩
      have : eqS xs ys = (List.range its.toArray.size).all (fun j => eqV (xs.getD j .non) (ys.getD j .non)) := by
        unfold eqS
        rw [List.size_toArray, ← l1, hl, Nat.min_self]
        simp
      rw [← this]
      exact q
    · refine SeqAt.eq_list_lengthsAt p1.isList p2.isList (by simp; omega) hu ⟨.bl _, H, I, rfl, ?_⟩
      have : eqS xs ys = false := by
        unfold eqS
        rw [show (xs.length == ys.length) = false by simp [hl], Bool.and_false]
      rw [← this]
      exact q
  · obtain ⟨its, r1, p1, _⟩ := I.tuple ha
    obtain ⟨its2, r2, p2, _⟩ := I.tuple hb
    have l1 := r1.length
    have l2 := r2.length
    refine SeqAt.eq_tupleAt p1 p2 hu (eqs_at r1 r2 f1 f2) ⟨.bl _, H, I, rfl, ?_⟩
    rw [List.size_toArray, List.size_toArray, ← l1, ← l2]
    exact q
theorem op_eqSK {K : Frag} (hK : X.K = K) (hu : X.A.units < cLine) : OpR X (compareOp .Eq) (rEqS K) := by subst hK; exact op_eqS hu
theorem hu_lt {A : Around} {k : Nat} (hr : Room k A) : A.units < cLine := Nat.lt_of_succ_lt (hu_of hr)
end
end L2

set_option Elab.async false
set_option linter.all false
set_option maxRecDepth 100000
set_option maxHeartbeats 1000000
namespace L2
open PySem PySem.W

end L2

set_option Elab.async false
set_option linter.all false
set_option maxRecDepth 100000
set_option maxHeartbeats 1000000
namespace L2
open PySem PySem.Spec PySem.Calls PyProof.Rows PySem.W
section
variable {X : Cx} {pins : List (Addr × Obj)} {σ : St} {H : Hp} {s : Shared} {h' : Heap}

theorem Inv.turned2 {t' : Nat} {e it : Addr} (I : Inv X pins σ H s) (k : ∀ b o, b ≠ e → b ≠ it → s.heap.get? b = some o → h'.get? b = some o) (fe : FpOk X pins H e) (fi : FpOk X pins H it) :
    Inv X pins σ H { s with heap := h', toks := t' } := by
  obtain ⟨e0, e1, _, e3, e4, e5⟩ := fe
  obtain ⟨i0, i1, _, i3, i4, i5⟩ := fi
  have hk : ∀ b o, b ∉ [e, it] → s.heap.get? b = some o → h'.get? b = some o := fun b o hb q => k b o (fun z => hb (by simp [z])) (fun z => hb (by simp [z])) q
  have nn : ∀ b u, H b = some u → b ∉ [e, it] := fun b u q z => by
    rcases List.mem_cons.mp z with z | z
    · rw [z, e0] at q; cases q
    · rw [List.mem_singleton.mp z, i0] at q; cases q
  refine I.step (g' := s.gens) (d' := s.drawn) (ch := [e, it]) ?_ (fun b o _ _ hc q _ => hk b o hc q) (fun b o _ _ hc q _ => ⟨o.slots, hk b o hc q⟩) (fun _ _ _ _ n => n) (fun b o hc q => ⟨o, hk b o hc q⟩)
    (fun _ _ q => q) (fun _ _ _ q => q) (fun b ps q => ⟨#[], by rw [q]; simp⟩) ?_ ?_ I.bare
  · intro b hb
    rcases List.mem_cons.mp hb with z | z
    · rw [z]; exact ⟨e3, e1, e4, e5⟩
    · rw [List.mem_singleton.mp z]; exact ⟨i3, i1, i4, i5⟩
  · intro m hm
    obtain ⟨o, es, ep, ho, r⟩ := hm
    exact ⟨o, es, ep, k _ o (Ne.symm e1) (Ne.symm i1) ho, r⟩
  · intro b u q
    refine (I.hok b u q).stay (fun c v hc z => hk c v ?_ z) (fun _ z => z) fun _ _ z => z
    rcases hc with z' | z'
    · rw [z']; exact nn b u q
    · exact nn c _ z'
end

def Ite (go : Nat → Hp → Prop) (yv : Nat → Hp → V → Prop) (stop : Nat → Hp → Prop) : It := ⟨go, fun i H x H' => ∃ p v, H p = none ∧ yv i H v ∧ x = .ref p ∧ H' = upd H p (.tup [.int i, v]), stop⟩
theorem turn_enum {P : Program} {w : World} {K : PySem.W.Frag} {elts : List Expr} {ek : Nat} {epos : Pos} {e it : Addr} {go : Nat → Hp → Prop} {yv : Nat → Hp → V → Prop} {stop : Nat → Hp → Prop} {tn : Nat → Heap → Prop} (hne : e ≠ it)
    (hobj : ∀ i h, tn i h → ∃ o, h.get? it = some o ∧ ∀ v, o.data ≠ .cell v)
    (hkeep : ∀ i h h', tn i h → (∀ o, h.get? it = some o → h'.get? it = some o) → tn i h')
    (hitem : ∀ (X : Cx), X.prog = P → X.w = w → X.K = K → X.calm = true → ∀ (i : Nat) (pins : List (Addr × Obj)) (s : Shared) (σ : St) (H : Hp), Inv X pins σ H s → tn i s.heap → go i H → (∃ old, IsEnum s.heap e it i old) →
      ∃ fp n Pd St, Draws P w X.A.in1 it fp n Pd St ∧ St i s.heap ∧ i < n ∧ e ∉ fp ∧ (∀ h, St (i + 1) h → tn (i + 1) h) ∧ ∀ x, Pd i x → ∃ v, RelV v x ∧ yv i H v)
    (hdone : ∀ (X : Cx), X.prog = P → X.w = w → X.K = K → X.calm = true → ∀ (i : Nat) (pins : List (Addr × Obj)) (s : Shared) (σ : St) (H : Hp), Inv X pins σ H s → tn i s.heap → stop i H →
      ∃ fp n Pd St, Draws P w X.A.in1 it fp n Pd St ∧ St n s.heap) :
    Turn P w K (.Tuple elts ek epos) (Ite go yv stop) [e, it] e (fun i h => (∃ old, IsEnum h e it i old) ∧ tn i h) where
  mem := by simp
  obj := fun i h st b hb => by
    rcases List.mem_cons.mp hb with z | z
    · obtain ⟨⟨old, q⟩, _⟩ := st
      rw [z]
      exact ⟨_, q, fun v z => nomatch z⟩
    · rw [List.mem_singleton.mp z]
      exact hobj i h st.2
  keep := fun i h h' st k => by
    obtain ⟨⟨old, q⟩, st⟩ := st
    exact ⟨⟨old, k e (by simp) _ q⟩, hkeep i h h' st (k it (by simp))⟩
  item := by
    intro X hP hw hK hc i pins s σ H E I hf st hg
    obtain ⟨⟨old, q⟩, st⟩ := st
    obtain ⟨fp, n, Pd, St, D, hs, hlt, hef, hst, hv⟩ := hitem X hP hw hK hc i pins s σ H I st hg ⟨old, q⟩
    refine wpAny_pyNext_enum_itemD D q hs hlt hne hef fun x h1 tk hx ho hs1 hT hsz hk => ⟨_, rfl, ?_⟩
    obtain ⟨v, rv, yv'⟩ := hv x hx
    have helt : e < s.heap.objs.size := Heap.lt_size q
    refine wpAny_letOwnedTupleGo_enum ho fun h2 he2 hs2 => ?_
    have hTe : s.heap.objs.size ≠ e := Nat.ne_of_gt helt
    have hT2 : h2.get? s.heap.objs.size = some { cls := .type "tuple", data := .seq #[.int i tk, x] } := (hs2.2 _ hTe).trans hT
    have fe := hf e (by simp)
    have fi := hf it (by simp)
    have fresh : H s.heap.objs.size = none := I.hok.fresh (Nat.le_refl _)
    have hit : s.heap.objs.size ≠ it := by
      obtain ⟨o, z⟩ := D.live _ _ hs
      exact Nat.ne_of_gt (Heap.lt_size z)
    -- the pair, laid ahead of the turn
    have I0 := I.laid (t' := s.toks) (a := s.heap.objs.size) (o := .tup [.int i, v]) (h' := s.heap.push { cls := .type "tuple", data := .seq #[.int i tk, x] }) (fun b o z => Heap.get?_push_of_some _ z) (Nat.le_refl _) (by
      refine ⟨by show 2 ≤ sizeLine; decide, [.int i tk, x], .cons ⟨tk, rfl⟩ (.cons rv .nil), ?_⟩
      exact ⟨_, Heap.get?_push_size _ rfl, rfl, _, rfl⟩)
    have fe0 : FpOk X pins (upd H s.heap.objs.size (.tup [.int i, v])) e := ⟨by rw [upd_ne (Ne.symm hTe)]; exact fe.1, fe.2⟩
    have fi0 : FpOk X pins (upd H s.heap.objs.size (.tup [.int i, v])) it := ⟨by rw [upd_ne (Ne.symm hit)]; exact fi.1, fi.2⟩
    have I2 := I0.turned2 (h' := h2) (t' := tk + 1) (e := e) (it := it) (fun b o hbe hbi z => by
      by_cases hb : b = s.heap.objs.size
      · rw [hb] at z ⊢
        have z' : some ({ cls := .type "tuple", data := .seq #[.int i tk, x] } : Obj) = some o := (Heap.get?_push_size _ rfl).symm.trans z
        rw [hT2]; exact z'
      · have z' : s.heap.get? b = some o := by
          have z2 := z
          rw [Heap.get?_push_ne _ _ _ hb] at z2
          exact z2
        exact (hs2.2 b hbe).trans (hk b o hbe hbi z')) fe0 fi0
    refine ⟨.ref s.heap.objs.size, upd H s.heap.objs.size (.tup [.int i, v]), I2, rfl, ⟨_, v, fresh, yv', rfl, rfl⟩, ⟨⟨_, he2⟩, ?_⟩, fun b hb => ?_⟩
    · refine hkeep _ _ _ (hst h1 hs1) fun o z => (hs2.2 it (Ne.symm hne)).trans z
    · rcases List.mem_cons.mp hb with z | z
      · rw [z]; exact fe0.1
      · rw [List.mem_singleton.mp z]; exact fi0.1
  done := by
    intro X hP hw hK hc i pins s σ H E I hf st hg
    obtain ⟨⟨old, q⟩, st⟩ := st
    obtain ⟨fp, n, Pd, St, D, hs⟩ := hdone X hP hw hK hc i pins s σ H I st hg
    have fi := hf it (by simp)
    refine wpAny_pyNext_enum_endD D q hs fun h1 hx => ⟨rfl, I.turned (t' := s.toks) (fun b o hb z => hx b o hb z) fi.1 fi.2.1 fi.2.2.2.1 fi.2.2.2.2.1 fi.2.2.2.2.2⟩
  self := fun A i s Q E st h => by
    obtain ⟨⟨old, q⟩, _⟩ := st
    exact wpAny_pyIter_enum q h

section
variable {X : Cx}
def goS (x : Str) : Nat → Hp → Prop := fun i _ => i < x.cps.size
def yvS (x : Str) : Nat → Hp → V → Prop := fun i _ v => ∃ c, x.cps[i]? = some c ∧ v = .str ⟨#[c]⟩
def stS (x : Str) : Nat → Hp → Prop := fun i _ => x.cps.size ≤ i
theorem turn_enumS {P : Program} {w : World} {K : PySem.W.Frag} {elts : List Expr} {ek : Nat} {epos : Pos} {e it : Addr} (hne : e ≠ it) (x : Str) (t : Tok) :
    Turn P w K (.Tuple elts ek epos) (Ite (goS x) (yvS x) (stS x)) [e, it] e (fun i h => (∃ old, IsEnum h e it i old) ∧ (h.IsStrIter it (strIterType x) x t i ∧ i ≤ x.cps.size)) := by
  have dr : ∀ A : Around, A.handled = none → Draws P w A it [it] x.cps.size (fun i v => ∃ c u, x.cps[i]? = some c ∧ v = .str ⟨#[c]⟩ u) (fun i h => h.IsStrIter it (strIterType x) x t i) := fun A hA => by
    unfold strIterType
    cases ha : x.cps.all (· < 128)
    · exact Draws.strWide hA it x t
    · exact Draws.strAscii hA it x t
  refine turn_enum hne ?_ ?_ ?_ ?_
  · intro i h st
    obtain ⟨o, ho, _, hd⟩ := st.1
    exact ⟨o, ho, fun v z => by rw [hd] at z; cases z⟩
  · intro i h h' st k
    obtain ⟨⟨o, ho, r⟩, hl⟩ := st
    exact ⟨⟨o, k o ho, r⟩, hl⟩
  · intro X hP hw hK hc i pins s σ H I st hg he
    refine ⟨[it], _, _, _, dr X.A.in1 (I.ok.hd hc), st.1, hg, by simp [hne], fun h z => ⟨z, hg⟩, fun v hv => ?_⟩
    obtain ⟨c, u, hcu, rfl⟩ := hv
    exact ⟨.str ⟨#[c]⟩, ⟨u, rfl⟩, c, hcu, rfl⟩
  · intro X hP hw hK hc i pins s σ H I st hg
    have hi : i = x.cps.size := Nat.le_antisymm st.2 hg
    subst hi
    exact ⟨[it], _, _, _, dr X.A.in1 (I.ok.hd hc), st.1⟩
def iEnumS (ta : TA) : TI := fun σ H R => ta σ H fun vs H1 => ∃ z, vs = [.str z] ∧ R (Ite (goS z) (yvS z) (stS z)) H1
theorem pi_enumS {a : Expr} {ta : TA} {p pos : Pos} {elts : List Expr} {ek : Nat} {epos : Pos} (hg : Gl X "enumerate") (hm : X.mg "enumerate" = none) (ha : PA X [a] ta) (hs : starEach [a] X.env = [(false, eval a X.env)] := by rfl) :
    PI X (.Tuple elts ek epos) (.Call (.Name "enumerate" p) [a] [] pos) (iEnumS ta) := by
  intro pins s σ H R I h
  refine Call_ (ld_blt I hg hm boot_enumerate (PyProof.Rows.callWith_type1 (thn (ha pos pins s σ H _ I h) fun us s1 ⟨vs, H1, I1, r1, q1⟩ => ?_) hs rfl))
  obtain ⟨z, e, q⟩ := q1
  subst e
  obtain ⟨u, rfl, t, rfl⟩ := r1.one
  refine call_enumerate_str fun h' he hit hsz hk => wpAny_pyIter_enum he ?_
  have hlt : s1.heap.objs.size ≤ s1.heap.objs.size + 1 := Nat.le_succ _
  refine ⟨s1.heap.objs.size + 1, [s1.heap.objs.size + 1, s1.heap.objs.size], _, _, H1, rfl, I1.kept (t' := s1.toks) hk, turn_enumS (Nat.succ_ne_self _) z t, ⟨⟨_, he⟩, hit, Nat.zero_le _⟩, fun b hb => ?_, q⟩
  have hb' : s1.heap.objs.size ≤ b := by
    rcases List.mem_cons.mp hb with z | z
    · rw [z]; exact hlt
    · rw [List.mem_singleton.mp z]; exact Nat.le_refl _
  exact I1.fpOk hb' (I1.hok.fresh hb')

theorem fb_enumS {K : PySem.W.Frag} {l : List Nat} {a b : Nat} {tb : TS} {D : Ends} {σ : St} {H : Hp} (Pv : Nat → St → Hp → Prop) (h0 : Pv 0 σ H)
    (hs : ∀ i c σ H, l[i]? = some c → Pv i σ H → ∀ p, H p = none → tb { D with nx := Pv (i + 1), ct := Pv (i + 1), bk := D.nx } ((σ.set a (some (.int i))).set b (some (.str (S [c])))) (upd H p (.tup [.int i, .str (S [c])])))
    (hd : ∀ σ H, Pv l.length σ H → D.nx σ H) : forBody (Ite (goS (S l)) (yvS (S l)) (stS (S l))) (gTup K 2 (gCons (gName a) (gCons (gName b) gNil))) tb D σ H := by
  refine ⟨fun i m σ H => m = l.length - i ∧ i ≤ l.length ∧ Pv i σ H, ⟨l.length, by simp, Nat.zero_le _, h0⟩, ?_⟩
  rintro i m σ H ⟨rfl, hi, p⟩
  by_cases hlt : i < l.length
  · refine .inr ⟨by show i < (S l).cps.size; rw [S_size]; exact hlt, Pv (i + 1), fun σ' H' p' => ⟨l.length - (i + 1), by omega, rfl, hlt, p'⟩, fun x H' y => ?_⟩
    obtain ⟨q, v, hq, ⟨c, hc, rfl⟩, rfl, rfl⟩ := y
    rw [S_get] at hc
    exact ⟨q, _, rfl, SqT.of upd_same, rfl, _, _, rfl, _, _, rfl, rfl, hs i c σ H hc p q hq⟩
  · have e : i = l.length := by omega
    subst e
    exact .inl ⟨by show (S l).cps.size ≤ l.length; rw [S_size]; exact Nat.le_refl _, hd σ H p⟩
end
end L2

set_option Elab.async false
set_option linter.all false
set_option maxRecDepth 100000
set_option maxHeartbeats 1000000
namespace L2
open PySem PySem.Spec PySem.Calls PyProof.Rows PySem.W

structure RoomH (k : Nat) (A : Around) : Prop where
  dp : A.depth + 3 * k + 5 < recursionLimit
  un : A.units + 16 * k + 200 < cLine
theorem RoomH.mono {j k : Nat} {A : Around} (r : RoomH k A) (h : j ≤ k) : RoomH j A := ⟨by have := r.dp; omega, by have := r.un; omega⟩
theorem RoomH.deeper {k : Nat} {A : Around} (r : RoomH (k + 1) A) (env : Env) : RoomH k (A.deeper env) :=
  ⟨by have := r.dp; show A.depth + 1 + 3 * k + 5 < _; omega, by have := r.un; show A.units + 3 + 16 * k + 200 < _; omega⟩
abbrev Cx.hot (X : Cx) : Cx := { X with calm := false }
section
variable {P : Program} {w : World} {K : PySem.W.Frag} {mg : Str → Option Value} {base : Heap}
end
section
variable {X : Cx} {k j : Nat} {x : Str} {ps : List Str} {sp : Sp} {p pos : Pos} {e : Expr} {es : List Expr} {t : TA}
end
end L2

set_option Elab.async false
set_option linter.all false
set_option maxRecDepth 100000
set_option maxHeartbeats 1000000
namespace L2
open PySem PySem.Spec PyProof.Rows


def lcBody2 (K : PySem.W.Frag) (J : It) (tt : TT) (te : TE) (σ : St) (H1 : Hp) (Q : VK) : Prop := ∀ D, H1 D = none → ∃ W : Nat → Nat → List V → Hp → Prop, (∃ m, W 0 m [] (upd H1 D (.lst []))) ∧ ∀ i m ys H', W i m ys H' → H' D = some (.lst ys) ∧
  ((J.stop i H' ∧ Q (.ref D) H') ∨ (J.go i H' ∧ ∀ v H2, J.yld i H' v H2 → ∃ pa u1 u2, v = .ref pa ∧ SqT K H2 pa [u1, u2] ∧ tt (some u1 :: some u2 :: σ) H2 fun b H3 =>
    if b = true then te (some u1 :: some u2 :: σ) H3 fun y H4 => H4 D = some (.lst ys) ∧ ys.length < sizeLine ∧ ∃ m', m' < m ∧ W (i + 1) m' (ys ++ [y]) (upd H4 D (.lst (ys ++ [y]))) else ∃ m', m' < m ∧ W (i + 1) m' ys H3))
def tLC2 (K : PySem.W.Frag) (wi : TI) (tt : TT) (te : TE) : TE := fun σ H Q => wi σ H fun J H1 => lcBody2 K J tt te σ H1 Q


section
variable {X : Cx} {elt iter : Expr} {x x2 : Str} {px py pt pos : Pos} {kt : Nat} {ifs : List Expr} {scope : Scope} {wi : TI} {tt : TT} {te : TE}

end
end L2

set_option Elab.async false
set_option linter.all false
set_option maxRecDepth 100000
set_option maxHeartbeats 1000000
namespace L2
open PySem PySem.Spec PySem.Calls PyProof.Rows PySem.W

def goL (K : Frag) (l : Addr) : Nat → Hp → Prop := fun i H => ∃ xs x, SqL K H l xs ∧ xs[i]? = some x
def yvL (K : Frag) (l : Addr) : Nat → Hp → V → Prop := fun i H v => ∀ xs, SqL K H l xs → xs[i]? = some v
def stL0 (K : Frag) (l : Addr) : Nat → Hp → Prop := fun i H => ∃ xs, SqL K H l xs ∧ xs.length = i
section
variable {X : Cx}
def iEnumL (K : Frag) (ta : TA) : TI := fun σ H R => ta σ H fun vs H1 => ∃ l xs, vs = [.ref l] ∧ SqL K H1 l xs ∧ R (Ite (goL K l) (yvL K l) (stL0 K l)) H1
end

def Pairs (H : Hp) (a : Addr) (ps : List (List Nat × List Nat)) : Prop := ∃ as : List Addr, H a = some (.lst (as.map V.ref)) ∧ as.length = ps.length ∧ ∀ (i : Nat) p, ps[i]? = some p → ∃ b, as[i]? = some b ∧ H b = some (.tup [.str (S p.1), .str (S p.2)])
theorem Pairs.mono {H H' : Hp} {a : Addr} {ps : List (List Nat × List Nat)} (h : Pairs H a ps) (g : Same H H') : Pairs H' a ps := by
  obtain ⟨as, h1, h2, h3⟩ := h
  refine ⟨as, g _ _ h1, h2, fun i p e => ?_⟩
  obtain ⟨b, h4, h5⟩ := h3 i p e
  exact ⟨b, h4, g _ _ h5⟩

theorem tLC2_eq (K : Frag) (wi : TI) (tt : TT) (te : TE) : tLC2 K wi tt te = fun σ H Q => wi σ H fun J H1 => lcBody2 K J tt te σ H1 Q := rfl
end L2

set_option Elab.async false
set_option linter.all false
set_option maxRecDepth 100000
set_option maxHeartbeats 1000000
namespace L2
open PySem PySem.Spec PySem.Calls PyProof.Rows PySem.W
theorem bb_list : bootBuiltins "list" = some (.type "list") := by decide +kernel
section
variable {X : Cx}

def rListS : List V → Hp → VK → Prop := fun xs H Q => ∃ l, xs = [.str (S l)] ∧ l.length ≤ 1000000 ∧ ∀ p, H p = none → Q (.ref p) (upd H p (.lst (l.map fun c => .str (S [c]))))
def NoT (K : Frag) (H : Hp) (x : V) : Prop := x = .non ∨ (∃ b, x = .bl b) ∨ (∃ i, x = .int i) ∨ (∃ a xs, x = .ref a ∧ H a = some (.lst xs)) ∨ (∃ a xs, x = .ref a ∧ H a = some (.tup xs)) ∨ ∃ a kvs, x = .ref a ∧ H a = some (.dK kvs)
theorem NoT.mono {K : Frag} {H H' : Hp} {x : V} (h : NoT K H x) (g : Same H H') : NoT K H' x := by
  rcases h with h | h | h | ⟨a, xs, h, e⟩ | ⟨a, xs, h, e⟩ | ⟨a, xs, h, e⟩
  · exact .inl h
  · exact .inr (.inl h)
  · exact .inr (.inr (.inl h))
  · exact .inr (.inr (.inr (.inl ⟨a, xs, h, g _ _ e⟩)))
  · exact .inr (.inr (.inr (.inr (.inl ⟨a, xs, h, g _ _ e⟩))))
  · exact .inr (.inr (.inr (.inr (.inr ⟨a, xs, h, g _ _ e⟩))))
def rIsStrA (K : Frag) : List V → Hp → VK → Prop := fun xs H Q => ∃ x, xs = [x, .ty "str"] ∧ ((∃ i, x = .str i ∧ Q (.bl true) H) ∨ (NoT K H x ∧ Q (.bl false) H))
theorem call_isstrA : CallR X (.builtin "isinstance") (rIsStrA X.K) := by
  intro pins s σ H xs us Q I r h
  obtain ⟨x, rfl, h⟩ := h
  rcases h with ⟨i, rfl, q⟩ | ⟨h, q⟩
  · exact call_isinst pins s σ H _ us Q I r ⟨_, _, _, _, rfl, .str i, rfl, q⟩
  · rcases h with rfl | ⟨i, rfl⟩ | ⟨i, rfl⟩ | ⟨a, xs, rfl, e⟩ | ⟨a, xs, rfl, e⟩ | ⟨a, xs, rfl, e⟩
    · exact call_isinst pins s σ H _ us Q I r ⟨_, _, _, _, rfl, .non, rfl, q⟩
    · exact call_isinst pins s σ H _ us Q I r ⟨_, _, _, _, rfl, .bl i, rfl, q⟩
    · exact call_isinst pins s σ H _ us Q I r ⟨_, _, _, _, rfl, .int i, rfl, q⟩
    · exact call_isinst pins s σ H _ us Q I r ⟨_, _, _, _, rfl, .lst e, rfl, q⟩
    · exact call_isinst pins s σ H _ us Q I r ⟨_, _, _, _, rfl, .tup e, rfl, q⟩
    · exact call_isinst pins s σ H _ us Q I r ⟨_, _, _, _, rfl, .dK e, rfl, q⟩
theorem call_isstrAK {K : Frag} (hK : X.K = K) : CallR X (.builtin "isinstance") (rIsStrA K) := by subst hK; exact call_isstrA


theorem Inv.big' {pins : List (Addr × Obj)} {σ : L2.St} {H : Hp} {s : Shared} (I : Inv X pins σ H s) : sysModules < s.heap.objs.size := by
  have h : mainGlobals < s.heap.objs.size := (I.mod.glob.keeps I.bk).lt
  exact Nat.lt_trans (by decide) h
def tD0 : TE := fun _ H Q => ∀ p, H p = none → Q (.ref p) (upd H p (.dK []))
theorem pe_d0 {pos : Pos} : PE X (.Dict [] [] pos) tD0 := fun pins s σ H Q I h =>
  wpAny_Dict_empty ⟨.ref s.heap.objs.size, _, I.laid (a := s.heap.objs.size) (o := .dK []) (t' := s.toks) (fun _ _ q => Heap.get?_push_of_some _ q) (Nat.le_refl _) ⟨Nat.zero_le _, beq_eq_false_iff_ne.mpr (Ne.symm (Nat.ne_of_lt I.big')), [], .nil, Heap.DictOf.new s.heap⟩, rfl, h _ (I.hok.fresh (Nat.le_refl _))⟩
end
end L2

set_option Elab.async false
set_option linter.all false
set_option maxRecDepth 100000
set_option maxHeartbeats 1000000
namespace L2
open PySem PySem.Spec PySem.Calls PyProof.Rows PySem.W

inductive Dat where
  | fl (v : V)
  | tp (xs : List Dat)
  | ls (xs : List Dat)
mutual
def IsDt (H : Hp) : Dat → V → Prop
  | .fl x, v => v = x ∧ flatV x = true
  | .tp ds, v => ∃ a vs, v = .ref a ∧ H a = some (.tup vs) ∧ IsDs H ds vs
  | .ls ds, v => ∃ a vs, v = .ref a ∧ H a = some (.lst vs) ∧ IsDs H ds vs
def IsDs (H : Hp) : List Dat → List V → Prop
  | [], vs => vs = []
  | d :: ds, vs => ∃ v r, vs = v :: r ∧ IsDt H d v ∧ IsDs H ds r
end
mutual
def eqD : Dat → Dat → Bool
  | .fl x, .fl y => eqV x y
  | .tp xs, .tp ys => eqDs xs ys
  | .ls xs, .ls ys => eqDs xs ys
  | .fl _, .tp _ => false
  | .fl _, .ls _ => false
  | .tp _, .fl _ => false
  | .tp _, .ls _ => false
  | .ls _, .fl _ => false
  | .ls _, .tp _ => false
def eqDs : List Dat → List Dat → Bool
  | [], [] => true
  | x :: xs, y :: ys => eqD x y && eqDs xs ys
  | [], _ :: _ => false
  | _ :: _, [] => false
end
mutual
def depD : Dat → Nat
  | .fl _ => 0
  | .tp xs => depDs xs + 1
  | .ls xs => depDs xs + 1
def depDs : List Dat → Nat
  | [] => 0
  | d :: ds => max (depD d) (depDs ds)
end
mutual
theorem IsDt.mono {H H' : Hp} (g : Same H H') : ∀ {d : Dat} {v : V}, IsDt H d v → IsDt H' d v
  | .fl x, v, h => by simp only [IsDt] at h ⊢; exact h
  | .tp ds, v, h => by
    simp only [IsDt] at h ⊢
    obtain ⟨a, vs, e, h1, h2⟩ := h
    exact ⟨a, vs, e, g _ _ h1, IsDs.mono g h2⟩
  | .ls ds, v, h => by
    simp only [IsDt] at h ⊢
    obtain ⟨a, vs, e, h1, h2⟩ := h
    exact ⟨a, vs, e, g _ _ h1, IsDs.mono g h2⟩
theorem IsDs.mono {H H' : Hp} (g : Same H H') : ∀ {ds : List Dat} {vs : List V}, IsDs H ds vs → IsDs H' ds vs
  | [], vs, h => by simp only [IsDs] at h ⊢; exact h
  | d :: ds, vs, h => by
    simp only [IsDs] at h ⊢
    obtain ⟨v, r, e, h1, h2⟩ := h
    exact ⟨v, r, e, IsDt.mono g h1, IsDs.mono g h2⟩
end
theorem IsDs.len {H : Hp} : ∀ {ds : List Dat} {vs : List V}, IsDs H ds vs → ds.length = vs.length
  | [], vs, h => by simp only [IsDs] at h; subst h; rfl
  | d :: ds, vs, h => by
    simp only [IsDs] at h
    obtain ⟨v, r, e, h1, h2⟩ := h
    rw [e, List.length_cons, List.length_cons, IsDs.len h2]
theorem IsDs.snoc {H : Hp} {d : Dat} {v : V} : ∀ {ds : List Dat} {vs : List V}, IsDs H ds vs → IsDt H d v → IsDs H (ds ++ [d]) (vs ++ [v])
  | [], vs, h, k => by simp only [IsDs] at h; subst h; simp only [List.nil_append, IsDs]; exact ⟨v, [], rfl, k, rfl⟩
  | d :: ds, vs, h, k => by
    simp only [IsDs] at h
    obtain ⟨v, r, e, h1, h2⟩ := h
    subst e
    simp only [List.cons_append, IsDs]
    exact ⟨v, _, rfl, h1, IsDs.snoc h2 k⟩
theorem IsDs.get {H : Hp} : ∀ {ds : List Dat} {vs : List V} {j : Nat} {v : V}, IsDs H ds vs → vs[j]? = some v → ∃ d, ds[j]? = some d ∧ IsDt H d v
  | [], vs, j, v, h, k => by simp only [IsDs] at h; subst h; simp at k
  | d :: ds, vs, j, v, h, k => by
    simp only [IsDs] at h
    obtain ⟨v', r, e, h1, h2⟩ := h
    subst e
    cases j with
    | zero => simp at k; subst k; exact ⟨d, rfl, h1⟩
    | succ j => simpa using IsDs.get h2 (j := j) (by simpa using k)
theorem eqV_same {v : V} (h : flatV v = true) : eqV v v = true := by
  cases v <;> simp [eqV, flatV] at h ⊢
section
variable {X : Cx} {pins : List (Addr × Obj)} {σ : L2.St} {H : Hp} {s : Shared}
theorem tup_at (I : Inv X pins σ H s) {a : Addr} {vs : List V} (h : H a = some (.tup vs)) : ∃ its : List Value, Vals vs its ∧ s.heap.IsTuple a its.toArray := by
  obtain ⟨its, r, p, _⟩ := I.tuple (SqT.of h)
  exact ⟨its, r, p⟩
theorem lst_at (I : Inv X pins σ H s) {a : Addr} {vs : List V} (h : H a = some (.lst vs)) : ∃ its : List Value, Vals vs its ∧ s.heap.IsList a its.toArray := by
  obtain ⟨its, r, p, _⟩ := I.list (SqL.of h)
  exact ⟨its, r, p.isList⟩
end
section
variable {X : Cx}

def rEqD : R2 := fun x y H Q => ∃ d e a b, x = .ref a ∧ y = .ref b ∧ IsDt H d (.ref a) ∧ IsDt H e (.ref b) ∧ depD d ≤ 50 ∧ Q (.bl (eqD d e)) H
def rNeD : R2 := fun x y H Q => ∃ d e a b, x = .ref a ∧ y = .ref b ∧ IsDt H d (.ref a) ∧ IsDt H e (.ref b) ∧ depD d ≤ 50 ∧ Q (.bl (!eqD d e)) H
end
end L2

set_option Elab.async false
set_option linter.all false
set_option maxRecDepth 100000
set_option maxHeartbeats 1000000
namespace L2
open PySem PySem.Spec PySem.Calls PyProof.Rows PySem.W

abbrev Tx := List Nat
def tx (x : Tx) : V := .str (S x)
structure MS where
  mode : Tx
  word : Tx
  opens : List Tx
  talk : Tx
abbrev Ev := List Tx
abbrev Ans := Option (MS × List Ev)
abbrev lt : Tx := [97, 98, 99, 100, 101, 102, 103, 104, 105, 106, 107, 108, 109, 110, 111, 112, 113, 114, 115, 116, 117, 118, 119, 120, 121, 122]
def OpV (H : Hp) (a : Addr) (op : List Tx) : Prop := H a = some (.tup (op.map tx))
def StV (H : Hp) (v : V) (s : MS) : Prop := ∃ p o, v = .ref p ∧ H p = some (.tup [tx s.mode, tx s.word, .ref o, tx s.talk]) ∧ OpV H o s.opens
def EvV (H : Hp) (v : V) (e : Ev) : Prop := ∃ a, v = .ref a ∧ H a = some (.tup (e.map tx))
inductive EvA (H : Hp) : List V → List Ev → Prop
  | nil : EvA H [] []
  | cons {v : V} {e : Ev} {vs : List V} {es : List Ev} : EvV H v e → EvA H vs es → EvA H (v :: vs) (e :: es)
def EvL (H : Hp) (a : Addr) (es : List Ev) : Prop := ∃ vs, H a = some (.lst vs) ∧ EvA H vs es

def AnV (G : Addr → Prop) (H : Hp) (v : V) : Ans → Prop
  | none => v = .non
  | some (s, es) => ∃ p sa ea, v = .ref p ∧ H p = some (.tup [sa, .ref ea]) ∧ StV H sa s ∧ EvL H ea es ∧ G ea
theorem OpV.mono {H H' : Hp} {a : Addr} {op : List Tx} (h : OpV H a op) (g : Same H H') : OpV H' a op := g _ _ h
theorem StV.mono {H H' : Hp} {v : V} {s : MS} (h : StV H v s) (g : Same H H') : StV H' v s := by
  obtain ⟨p, o, e, h1, h2⟩ := h
  exact ⟨p, o, e, g _ _ h1, h2.mono g⟩
theorem EvV.mono {H H' : Hp} {v : V} {e : Ev} (h : EvV H v e) (g : Same H H') : EvV H' v e := by
  obtain ⟨a, e1, h1⟩ := h
  exact ⟨a, e1, g _ _ h1⟩
theorem EvA.mono {H H' : Hp} {vs : List V} {es : List Ev} (h : EvA H vs es) (g : Same H H') : EvA H' vs es := by
  induction h with
  | nil => exact .nil
  | cons h1 h2 ih => exact .cons (h1.mono g) ih
theorem EvL.mono {H H' : Hp} {a : Addr} {es : List Ev} (h : EvL H a es) (g : Same H H') : EvL H' a es := by
  obtain ⟨vs, h1, h2⟩ := h
  exact ⟨vs, g _ _ h1, h2.mono g⟩
theorem AnV.mono {G : Addr → Prop} {H H' : Hp} {v : V} {r : Ans} (h : AnV G H v r) (g : Same H H') : AnV G H' v r := by
  cases r with
  | none => exact h
  | some x =>
    obtain ⟨s, es⟩ := x
    obtain ⟨p, sa, ea, e1, h1, h2, h3, h4⟩ := h
    exact ⟨p, sa, ea, e1, g _ _ h1, h2.mono g, h3.mono g, h4⟩
theorem AnV.imp {G G' : Addr → Prop} {H : Hp} {v : V} {r : Ans} (h : AnV G H v r) (k : ∀ a, G a → G' a) : AnV G' H v r := by
  cases r with
  | none => exact h
  | some x =>
    obtain ⟨s, es⟩ := x
    obtain ⟨p, sa, ea, e1, h1, h2, h3, h4⟩ := h
    exact ⟨p, sa, ea, e1, h1, h2, h3, k _ h4⟩
theorem EvA.len {H : Hp} {vs : List V} {es : List Ev} (h : EvA H vs es) : vs.length = es.length := by
  induction h with
  | nil => rfl
  | cons h1 h2 ih => rw [List.length_cons, List.length_cons, ih]
end L2
namespace L2
open PySem PySem.Spec PySem.Calls PyProof.Rows PySem.W
def TkV (G : Addr → Prop) (H : Hp) (v : V) : Option (Tx × List Ev) → Prop
  | none => v = .non
  | some (t, es) => ∃ p ea, v = .ref p ∧ H p = some (.tup [tx t, .ref ea]) ∧ EvL H ea es ∧ G ea
theorem TkV.mono {G : Addr → Prop} {H H' : Hp} {v : V} {r : Option (Tx × List Ev)} (h : TkV G H v r) (g : Same H H') : TkV G H' v r := by
  cases r with
  | none => exact h
  | some x =>
    obtain ⟨s, es⟩ := x
    obtain ⟨p, ea, e1, h1, h2, h3⟩ := h
    exact ⟨p, ea, e1, g _ _ h1, h2.mono g, h3⟩
end L2
namespace L2
open PySem PySem.Spec PySem.Calls PyProof.Rows PySem.W
end L2
namespace L2
open PySem PySem.Spec PySem.Calls PyProof.Rows PySem.W
theorem atI_last1 {α : Type} (xs : List α) : atI xs (-1) = xs.getLast? := by
  unfold atI ixN
  rw [if_neg (by decide)]
  cases xs with
  | nil => rfl
  | cons x xs =>
    rw [if_pos (by rw [List.length_cons]; omega), List.getLast?_eq_getElem?]
    simp only [Option.bind_some]
    congr 1
    simp
    omega
end L2
namespace L2
open PySem PySem.Spec PySem.Calls PyProof.Rows PySem.W
end L2
namespace L2
open PySem PySem.Spec PySem.Calls PyProof.Rows PySem.W

theorem OpV.updL {H : Hp} {a p : Addr} {op : List Tx} {xs ys : List V} (h : OpV H a op) (hp : H p = some (.lst xs)) : OpV (upd H p (.lst ys)) a op := by
  unfold OpV at h ⊢
  rw [upd_ne (ne_of h hp (by intro z; cases z))]
  exact h
theorem StV.updL {H : Hp} {v : V} {s : MS} {p : Addr} {xs ys : List V} (h : StV H v s) (hp : H p = some (.lst xs)) : StV (upd H p (.lst ys)) v s := by
  obtain ⟨q, o, e, h1, h2⟩ := h
  exact ⟨q, o, e, by rw [upd_ne (ne_of h1 hp (by intro z; cases z))]; exact h1, h2.updL hp⟩
theorem EvV.updL {H : Hp} {v : V} {e : Ev} {p : Addr} {xs ys : List V} (h : EvV H v e) (hp : H p = some (.lst xs)) : EvV (upd H p (.lst ys)) v e := by
  obtain ⟨q, e1, h1⟩ := h
  exact ⟨q, e1, by rw [upd_ne (ne_of h1 hp (by intro z; cases z))]; exact h1⟩
theorem EvA.updL {H : Hp} {vs : List V} {es : List Ev} {p : Addr} {xs ys : List V} (h : EvA H vs es) (hp : H p = some (.lst xs)) : EvA (upd H p (.lst ys)) vs es := by
  induction h with
  | nil => exact .nil
  | cons h1 h2 ih => exact .cons (h1.updL hp) ih

end L2
namespace L2
open PySem PySem.Spec PySem.Calls PyProof.Rows PySem.W
theorem EvA.get {H : Hp} {vs : List V} {es : List Ev} {i : Nat} {v : V} (h : EvA H vs es) (e : vs[i]? = some v) : ∃ x, es[i]? = some x ∧ EvV H v x := by
  induction h generalizing i with
  | nil => simp at e
  | cons h1 h2 ih =>
    cases i with
    | zero => simp at e; subst e; exact ⟨_, rfl, h1⟩
    | succ i => simpa using ih (i := i) (by simpa using e)
end L2

set_option Elab.async false
set_option linter.all false
set_option maxRecDepth 100000
set_option maxHeartbeats 1000000
namespace L2
open PySem PySem.Spec PyProof.Rows


section
variable {κ : Type} [DecidableEq κ]
def valV (kvs : List (κ × V)) (k : κ) : Option V := (kvs.find? fun kv => decide (kv.1 = k)).map (·.2)

def putK (kvs : List (κ × V)) (k : κ) (v : V) : List (κ × V) :=
  if (kvs.any fun kv => decide (kv.1 = k)) = true then kvs.map (fun kv => if kv.1 = k then (kv.1, v) else kv) else kvs ++ [(k, v)]
def dropK (kvs : List (κ × V)) (k : κ) : List (κ × V) := kvs.filter fun kv => decide (kv.1 ≠ k)

theorem valV_pos {p : κ × V} {r : List (κ × V)} {k : κ} (e : p.1 = k) : valV (p :: r) k = some p.2 := by simp [valV, List.find?_cons, e]
theorem valV_neg {p : κ × V} {r : List (κ × V)} {k : κ} (e : ¬ p.1 = k) : valV (p :: r) k = valV r k := by simp [valV, List.find?_cons, e]
theorem valV_any (k : κ) : ∀ kvs : List (κ × V), (kvs.any fun kv => decide (kv.1 = k)) = (valV kvs k).isSome
  | [] => rfl
  | p :: r => by
    rw [List.any_cons]
    by_cases e : p.1 = k
    · simp only [valV_pos e, decide_eq_true e, Bool.true_or, Option.isSome_some]
    · rw [valV_neg e, decide_eq_false e, Bool.false_or]; exact valV_any k r
theorem length_putK (kvs : List (κ × V)) (k : κ) (v : V) : (putK kvs k v).length ≤ kvs.length + 1 := by
  unfold putK
  split
  · rw [List.length_map]; omega
  · rw [List.length_append, List.length_cons, List.length_nil]; omega
theorem RelO.isSome_eq {o : Option V} {u : Option Value} (r : RelO o u) : o.isSome = u.isSome := by
  cases o with
  | none => cases u with
    | none => rfl
    | some _ => exact (show False from r).elim
  | some _ => cases u with
    | none => exact (show False from r).elim
    | some _ => rfl
theorem RelO.getD {o : Option V} {u : Option Value} {d : V} {d' : Value} (r : RelO o u) (rd : RelV d d') : RelV (o.getD d) (u.getD d') := by
  cases o with
  | none => cases u with
    | none => exact rd
    | some _ => exact (show False from r).elim
  | some _ => cases u with
    | none => exact (show False from r).elim
    | some _ => exact r


theorem KV.val {kvs : List (κ × V)} {vs : List (κ × Value)} (r : KV kvs vs) (k : κ) : RelO (valV kvs k) (valueAt vs k) := by
  unfold KV at r
  induction r with
  | nil => exact True.intro
  | @cons p q ps qs h t ih =>
    obtain ⟨h1, h2⟩ := h
    by_cases e : p.1 = k
    · have e' : q.1 = k := h1.symm.trans e
      have b : valueAt (q :: qs) k = some q.2 := by simp [valueAt, List.find?_cons, e']
      rw [valV_pos e, b]; exact h2
    · have e' : ¬ q.1 = k := fun z => e (h1.trans z)
      have b : valueAt (q :: qs) k = valueAt qs k := by simp [valueAt, List.find?_cons, e']
      rw [valV_neg e, b]; exact ih
theorem KV.any {kvs : List (κ × V)} {vs : List (κ × Value)} (r : KV kvs vs) (k : κ) : (kvs.any fun kv => decide (kv.1 = k)) = vs.any fun kv => decide (kv.1 = k) := by
  unfold KV at r
  induction r with
  | nil => rfl
  | cons h t ih => rw [List.any_cons, List.any_cons, ih, h.1]
theorem KV.repl {kvs : List (κ × V)} {vs : List (κ × Value)} (r : KV kvs vs) (k : κ) {y : V} {u : Value} (ry : RelV y u) :
    KV (kvs.map fun kv => if kv.1 = k then (kv.1, y) else kv) (vs.map fun kv => if kv.1 = k then (kv.1, u) else kv) := by
  unfold KV at r ⊢
  induction r with
  | nil => exact .nil
  | @cons p q ps qs h t ih =>
    rw [List.map_cons, List.map_cons]
    refine .cons ?_ ih
    obtain ⟨h1, h2⟩ := h
    by_cases e : p.1 = k
    · rw [if_pos e, if_pos (h1.symm.trans e)]; exact ⟨h1, ry⟩
    · rw [if_neg e, if_neg (fun z => e (h1.trans z))]; exact ⟨h1, h2⟩
theorem KV.put {kvs : List (κ × V)} {vs : List (κ × Value)} (r : KV kvs vs) (k : κ) {y : V} {u : Value} (ry : RelV y u) : KV (putK kvs k y) (stored vs k u) := by
  unfold putK stored
  rw [r.any k]
  by_cases e : (vs.any fun kv => decide (kv.1 = k)) = true
  · rw [if_pos e, if_pos e]; exact r.repl k ry
  · rw [if_neg e, if_neg e]; exact Paired.snoc r ⟨rfl, ry⟩
theorem KV.drop {kvs : List (κ × V)} {vs : List (κ × Value)} (r : KV kvs vs) (k : κ) : KV (dropK kvs k) (without vs k) := by
  unfold KV at r ⊢
  unfold dropK without
  induction r with
  | nil => exact .nil
  | @cons p q ps qs h t ih =>
    obtain ⟨h1, h2⟩ := h
    rw [List.filter_cons, List.filter_cons]
    by_cases e : p.1 = k
    · have a : ¬ decide (p.1 ≠ k) = true := by simp [e]
      have b : ¬ decide (q.1 ≠ k) = true := by simp [h1.symm.trans e]
      rw [if_neg a, if_neg b]; exact ih
    · have e' : ¬ q.1 = k := fun z => e (h1.trans z)
      have a : decide (p.1 ≠ k) = true := by simp [e]
      have b : decide (q.1 ≠ k) = true := by simp [e']
      rw [if_pos a, if_pos b]; exact .cons ⟨h1, h2⟩ ih
theorem KV.keys {kvs : List (κ × V)} {vs : List (κ × Value)} (r : KV kvs vs) : kvs.map (·.1) = vs.map (·.1) := by
  unfold KV at r
  induction r with
  | nil => rfl
  | cons h t ih => rw [List.map_cons, List.map_cons, ih, h.1]
theorem KV.length {kvs : List (κ × V)} {vs : List (κ × Value)} (r : KV kvs vs) : kvs.length = vs.length := Paired.length r
end



theorem kV_is {P : Program} {w : World} {k : Key} {u : Value} (r : RelV (kV k) u) : (mixKind P w).is k u = true := by
  cases k with
  | inl i => obtain ⟨t, e⟩ := (show ∃ t, u = Value.int i t from r); subst e; exact mixKind_int P w i t
  | inr x => obtain ⟨t, e⟩ := (show ∃ t, u = Value.str x t from r); subst e; exact mixKind_str P w x t
theorem items_are {P : Program} {w : World} : ∀ {ks : List Key} {us : List Value}, Vals (ks.map kV) us → ItemsAre (mixKind P w) ks us
  | [], _, r => by rw [List.map_nil] at r; cases r; exact .nil
  | k :: ks, _, r => by
    rw [List.map_cons] at r
    cases r with
    | cons h t => exact .cons (kV_is h) (items_are t)


abbrev KT (H : Hp) : List (List Key × V) → List (List Key × Addr × Value) → Prop := Paired fun p q => p.1 = q.1 ∧ H q.2.1 = some (.tup (p.1.map kV)) ∧ RelV p.2 q.2.2
theorem KT.val {H : Hp} {kvs : List (List Key × V)} {xs : List (List Key × Addr × Value)} (r : KT H kvs xs) (k : List Key) : RelO (valV kvs k) ((atKey xs k).map (·.2)) := by
  induction r with
  | nil => exact True.intro
  | @cons p q ps qs h t ih =>
    obtain ⟨h1, _, h2⟩ := h
    by_cases e : p.1 = k
    · have e' : q.1 = k := h1.symm.trans e
      have b : atKey (q :: qs) k = some q.2 := by simp [atKey, List.find?_cons, e']
      rw [valV_pos e, b]; exact h2
    · have e' : ¬ q.1 = k := fun z => e (h1.trans z)
      have b : atKey (q :: qs) k = atKey qs k := by simp [atKey, List.find?_cons, e']
      rw [valV_neg e, b]; exact ih
theorem KT.repl {H : Hp} {kvs : List (List Key × V)} {xs : List (List Key × Addr × Value)} (r : KT H kvs xs) (k : List Key) {y : V} {u : Value} (ry : RelV y u) :
    KT H (kvs.map fun kv => if kv.1 = k then (kv.1, y) else kv) (xs.map (putAt k u)) := by
  induction r with
  | nil => exact .nil
  | @cons p q ps qs h t ih =>
    rw [List.map_cons, List.map_cons]
    refine .cons ?_ ih
    obtain ⟨h1, h2, h3⟩ := h
    unfold putAt
    by_cases e : p.1 = k
    · rw [if_pos e, if_pos (h1.symm.trans e)]; exact ⟨h1, h2, ry⟩
    · rw [if_neg e, if_neg (fun z => e (h1.trans z))]; exact ⟨h1, h2, h3⟩
theorem KT.put {H : Hp} {kvs : List (List Key × V)} {xs : List (List Key × Addr × Value)} (r : KT H kvs xs) (k : List Key) {b : Addr} {y : V} {u : Value} (hb : H b = some (.tup (k.map kV))) (ry : RelV y u) :
    KT H (putK kvs k y) (storedH xs k b u) := by
  have e : (kvs.any fun kv => decide (kv.1 = k)) = (atKey xs k).isSome := by
    rw [valV_any, (r.val k).isSome_eq, Option.isSome_map]
  unfold putK storedH
  rw [e]
  by_cases q : (atKey xs k).isSome = true
  · rw [if_pos q, if_pos q]; exact r.repl k ry
  · rw [if_neg q, if_neg q]; exact Paired.snoc r ⟨rfl, hb, ry⟩
theorem KT.keeps {H H' : Hp} {kvs : List (List Key × V)} {xs : List (List Key × Addr × Value)} (r : KT H kvs xs) (ht : ∀ b ys, H b = some (.tup ys) → H' b = some (.tup ys)) : KT H' kvs xs :=
  Paired.mapP r fun _ _ z => ⟨z.1, ht _ _ z.2.1, z.2.2⟩

section
variable {P : Program} {w : World} {H : Hp} {h : Heap} {a : Addr}
theorem rd_of {u : HO} (ok : HOk P w H h) (e : Rd H a u) : ObjOk P w H h a u := e.ok ok
theorem dk_rd {kvs : List (Key × V)} (ok : HOk P w H h) (e : Rd H a (.dK kvs)) : kvs.length ≤ sizeLine ∧ (a == sysModules) = false ∧ ∃ vs, KV kvs vs ∧ h.DictOf (mixKind P w) a vs :=
  show ObjOk P w H h a (.dK kvs) from rd_of ok e
theorem dk_of {kvs : List (Key × V)} (ok : HOk P w H h) (e : H a = some (.dK kvs)) : kvs.length ≤ sizeLine ∧ (a == sysModules) = false ∧ ∃ vs, KV kvs vs ∧ h.DictOf (mixKind P w) a vs := dk_rd ok (.inl e)

theorem key_of {ks : List Key} (ok : HOk P w H h) (e : H a = some (.tup (ks.map kV))) : (tupleKind (mixKind P w)).is h ks a := by
  obtain ⟨_, its, r, o, h1, h2, n, h3⟩ := (show ObjOk P w H h a (.tup (ks.map kV)) from ok a _ e)
  exact ⟨o, its.toArray, n, h1, h2, h3, by simpa using items_are r⟩
theorem dt_rd {kvs : List (List Key × V)} (ok : HOk P w H h) (e : Rd H a (.dT kvs)) : kvs.length ≤ sizeLine ∧ (a == sysModules) = false ∧
    ∃ xs, KT H kvs xs ∧ h.DictOfH (tupleKind (mixKind P w)) a xs := by
  obtain ⟨z, y, xs, r, o, es, ep, h1, h2, h3, h4, h5⟩ := (show ObjOk P w H h a (.dT kvs) from rd_of ok e)
  refine ⟨z, y, xs, r, o, es, ep, h1, h2, h3, h4, fun x hx => ?_, h5⟩
  have all : ∀ {l : List (List Key × V)} {m : List (List Key × Addr × Value)}, KT H l m → ∀ x ∈ m, (tupleKind (mixKind P w)).is h x.1 x.2.1 := by
    intro l m q
    induction q with
    | nil => intro x hx; exact nomatch hx
    | @cons p q ps qs hq t ih =>
      intro x hx
      rcases List.mem_cons.mp hx with e | hx
      · subst e
        exact key_of ok (by rw [← hq.1]; exact hq.2.1)
      · exact ih x hx
  exact all r x hx
theorem dt_of {kvs : List (List Key × V)} (ok : HOk P w H h) (e : H a = some (.dT kvs)) : kvs.length ≤ sizeLine ∧ (a == sysModules) = false ∧
    ∃ xs, KT H kvs xs ∧ h.DictOfH (tupleKind (mixKind P w)) a xs := dt_rd ok (.inl e)
end


def DGet (H : Hp) (a : Addr) (y : V) (r : Option V) : Prop :=
  (∃ kvs k, Rd H a (.dK kvs) ∧ y = kV k ∧ r = valV kvs k) ∨ ∃ kvs k b, Rd H a (.dT kvs) ∧ y = .ref b ∧ H b = some (.tup (k.map kV)) ∧ r = valV kvs k

def DPut (H : Hp) (a : Addr) (y v : V) (H' : Hp) : Prop :=
  (∃ kvs k, H a = some (.dK kvs) ∧ y = kV k ∧ kvs.length < sizeLine ∧ H' = upd H a (.dK (putK kvs k v))) ∨
  ∃ kvs k b, H a = some (.dT kvs) ∧ y = .ref b ∧ H b = some (.tup (k.map kV)) ∧ kvs.length < sizeLine ∧ H' = upd H a (.dT (putK kvs k v))
theorem DGet.k {H : Hp} {a : Addr} {kvs : List (Key × V)} {k : Key} (e : H a = some (.dK kvs)) : DGet H a (kV k) (valV kvs k) := .inl ⟨kvs, k, .inl e, rfl, rfl⟩
theorem DGet.t {H : Hp} {a b : Addr} {kvs : List (List Key × V)} {k : List Key} (e : H a = some (.dT kvs)) (eb : H b = some (.tup (k.map kV))) : DGet H a (.ref b) (valV kvs k) := .inr ⟨kvs, k, b, .inl e, rfl, eb, rfl⟩
theorem DPut.k {H : Hp} {a : Addr} {kvs : List (Key × V)} {k : Key} {v : V} (e : H a = some (.dK kvs)) (hl : kvs.length < sizeLine) : DPut H a (kV k) v (upd H a (.dK (putK kvs k v))) := .inl ⟨kvs, k, e, rfl, hl, rfl⟩
theorem DPut.t {H : Hp} {a b : Addr} {kvs : List (List Key × V)} {k : List Key} {v : V} (e : H a = some (.dT kvs)) (eb : H b = some (.tup (k.map kV))) (hl : kvs.length < sizeLine) :
    DPut H a (.ref b) v (upd H a (.dT (putK kvs k v))) := .inr ⟨kvs, k, b, e, rfl, eb, hl, rfl⟩


section
variable {X : Cx} {pins : List (Addr × Obj)} {σ : St} {H : Hp} {s : Shared} {a : Addr} {y v : V} {u r : Value} {o : Option V} {A : Around} {E : Value → Shared → Prop}

theorem Inv.big (I : Inv X pins σ H s) : sysModules < s.heap.objs.size := by
  have h : mainGlobals < s.heap.objs.size := (I.mod.glob.keeps I.bk).lt
  exact Nat.lt_trans (by decide) h


theorem d_getItem {Q : Value → Shared → Prop} (hu : A.units + 1 < cLine) (I : Inv X pins σ H s) (g : DGet H a y (some v)) (ry : RelV y u) (h : ∀ w' s', Inv X pins σ H s' → RelV v w' → Q w' s') :
    wpAny (model X.prog X.w) A (getItem (.ref a) u) Q E s := by
  rcases g with ⟨kvs, k, e, ey, l⟩ | ⟨kvs, k, b, e, ey, eb, l⟩
  · subst ey
    obtain ⟨z, hd, vs, rel, dd⟩ := dk_rd I.hok e
    obtain ⟨w', hw, rw'⟩ := RelO.some_of (v := v) (o := valueAt vs k) (by rw [l]; exact rel.val k)
    exact wpAny_getItem_of (kV_is ry) dd.mapOf hw (h w' _ (I.tok _) rw')
  · subst ey
    cases (show u = Value.ref b from ry)
    obtain ⟨z, hd, xs, rel, dd⟩ := dt_rd I.hok e
    obtain ⟨w', hw, rw'⟩ := RelO.some_of (v := v) (o := (atKey xs k).map (·.2)) (by rw [l]; exact rel.val k)
    obtain ⟨p, hp, hp2⟩ := Option.map_eq_some_iff.mp hw
    refine wpAny_getItem_heap (tupleKind_room_in1 hu) (key_of I.hok eb) dd hp ?_
    rw [hp2]
    exact h w' _ (I.tok _) rw'

theorem d_in {Q : Value → Shared → Prop} (hu : A.units + 1 < cLine) (I : Inv X pins σ H s) (g : DGet H a y o) (ry : RelV y u) (h : ∀ s', Inv X pins σ H s' → Q (.bool o.isSome) s') :
    wpAny (model X.prog X.w) A (compareOp .In u (.ref a)) Q E s := by
  rcases g with ⟨kvs, k, e, ey, l⟩ | ⟨kvs, k, b, e, ey, eb, l⟩
  · subst ey
    obtain ⟨z, hd, vs, rel, dd⟩ := dk_rd I.hok e
    refine wpAny_in_of (kV_is ry) hd dd.mapOf ?_
    rw [← (rel.val k).isSome_eq, ← l]
    exact h _ (I.tok _)
  · subst ey
    cases (show u = Value.ref b from ry)
    obtain ⟨z, hd, xs, rel, dd⟩ := dt_rd I.hok e
    refine wpAny_in_heap (tupleKind_room_in1 hu) (key_of I.hok eb) hd dd ?_
    have q := (rel.val k).isSome_eq
    rw [Option.isSome_map] at q
    rw [← q, ← l]
    exact h _ (I.tok _)
theorem d_write {h' : Heap} {t' : Nat} {ob : HO} (I : Inv X pins σ H s) (mu : Mut (H a)) (hs : Heap.SameBut a s.heap h') (he : ∃ q, h'.get? a = some q) (new : ObjOk X.prog X.w (upd H a ob) h' a ob) :
    Inv X pins σ (upd H a ob) { s with heap := h', toks := t' } :=
  I.write (x := a) (e := a) mu (.inl rfl) (fun b q hb z => (hs.2 b hb).trans z) he new
theorem dk_new {P : Program} {w : World} {H' : Hp} {h' : Heap} {kvs : List (Key × V)} {vs : List (Key × Value)} (z : kvs.length ≤ sizeLine) (hd : (a == sysModules) = false) (rel : KV kvs vs) (dd : h'.DictOf (mixKind P w) a vs) :
    ObjOk P w H' h' a (.dK kvs) := ⟨z, hd, vs, rel, dd⟩

theorem d_setItem {H' : Hp} {Q : Unit → Shared → Prop} (hu : A.units + 1 < cLine) (I : Inv X pins σ H s) (g : DPut H a y v H') (ry : RelV y u) (rv : RelV v r) (h : ∀ s', Inv X pins σ H' s' → Q () s') :
    wpAny (model X.prog X.w) A (setItem (.ref a) u r) Q E s := by
  rcases g with ⟨kvs, k, e, ey, l, eH⟩ | ⟨kvs, k, b, e, ey, eb, l, eH⟩
  · subst ey eH
    obtain ⟨z, hd, vs, rel, dd⟩ := dk_of I.hok e
    have hz : vs.length ≤ sizeLine := by rw [← rel.length]; exact z
    have hl : (putK kvs k v).length ≤ sizeLine := by have := length_putK kvs k v; omega
    refine wpAny_setItem_pairs (hsz := hz) (kV_is ry) dd fun h' dd' hs => h _ ?_
    have he : ∃ q, h'.get? a = some q := let ⟨q, _, _, hq, _⟩ := dd'; ⟨q, hq⟩
    exact d_write I (by rw [e]; exact True.intro) hs he (dk_new hl hd (rel.put k rv) dd')
  · subst ey eH
    cases (show u = Value.ref b from ry)
    obtain ⟨z, hd, xs, rel, dd⟩ := dt_of I.hok e
    have hz : xs.length ≤ sizeLine := by rw [← Paired.length rel]; exact z
    have hl : (putK kvs k v).length ≤ sizeLine := by have := length_putK kvs k v; omega
    refine wpAny_setItem_heap (hsz := hz) (tupleKind_room_in1 hu) (key_of I.hok eb) dd fun h' dd' hs => h _ ?_
    obtain ⟨q, es, ep, hq, h2, h3, h4, _, h5⟩ := dd'
    refine d_write I (by rw [e]; exact True.intro) hs ⟨q, hq⟩ ⟨hl, hd, _, (rel.put k eb rv).keeps fun c ys ec => ?_, q, es, ep, hq, h2, h3, h4, h5⟩
    rw [upd_ne (ne_of ec e (fun z => nomatch z))]
    exact ec
end

section
variable {X : Cx} {pins : List (Addr × Obj)} {σ : St} {H : Hp} {s : Shared} {a : Addr} {kvs : List (Key × V)} {k : Key} {u : Value} {A : Around} {E : Value → Shared → Prop}

end




def NoSl (i : Expr) : Prop := ∀ ov iv, subscripted i false ov iv = operate [ov, iv] (getItem ov iv)
theorem subD_of {prog : Program} {w : World} {A : Around} {E : Value → Shared → Prop} {s : Shared} {env : Env} {value slice : Expr} {pos : Pos} {T id : String} {Q : Value → Shared → Prop}
    (hl : typeLookup (.type T) "__getitem__" = pure (some (.builtin id))) (hs : NoSl slice)
    (h : wpAny (model prog w) A (eval value env) (fun o s₁ => wpAny (model prog w) A (eval slice env) (fun i s₂ => s₂.TypeIs o T ∧ wpAny (model prog w) A (getItem o i) Q E s₂) E s₁) E s) :
    wpAny (model prog w) A (eval (.Subscript value slice pos) env) Q E s := by
  refine Subscript_ (wpAny_mono h (fun o s₁ h₁ => wpAny_mono h₁ (fun i s₂ h₂ => ?_) fun _ _ x => x) fun _ _ x => x)
  obtain ⟨hT, h₂⟩ := h₂
  unfold subscriptTail
  refine wpAny_bind ?_
  rw [getitemInPython_of_ne hT.not_modules]
  refine wpAny_bind (wpAny_specialOf hT hl ?_)
  have fin : wpAny (model prog w) A (subscripted slice false o i) (fun r s₃ => wpAny (model prog w) A (letTemporaryGo value o r >>= fun _ => pure r) Q E s₃) E s₂ := by
    rw [hs o i]
    exact wpAny_operating (wpAny_mono h₂ (fun r s₃ h₃ => wpAny_bind (wpAny_letTemporaryGo (wpAny_pure h₃))) fun _ _ x => x)
  first
    | exact wpAny_pure (wpAny_bind fin)
    | exact wpAny_bind (wpAny_pure (wpAny_bind fin))
    | exact wpAny_bind fin

theorem dict_typeIs {X : Cx} {pins : List (Addr × Obj)} {σ : St} {H : Hp} {s : Shared} {a : Addr} {y : V} {o : Option V} (I : Inv X pins σ H s) (g : DGet H a y o) : s.TypeIs (.ref a) "dict" := by
  rcases g with ⟨kvs, k, e, _, _⟩ | ⟨kvs, k, b, e, _, _, _⟩
  · obtain ⟨_, _, vs, _, dd⟩ := dk_rd I.hok e
    exact dd.typeIs
  · obtain ⟨_, _, xs, _, dd⟩ := dt_rd I.hok e
    exact dd.typeIs
def tDGet (td ty : TE) : TE := fun σ H Q => td σ H fun x H1 => ty σ H1 fun y H2 => ∃ a v, x = .ref a ∧ DGet H2 a y (some v) ∧ Q v H2

section
variable {X : Cx} {o i e value : Expr} {pos pos' tpos : Pos} {td ty tv : TE}
theorem pe_dget (hu : X.A.units + 1 < cLine) (ho : PE X o td) (hi : PE X i ty) (hs : NoSl i) : PE X (.Subscript o i pos) (tDGet td ty) := by
  intro pins s σ H Q I h
  refine subD_of PySem.F.slot_dict_getitem.lookup hs (thn (ho pins s σ H _ I h) fun u s1 ⟨x, H1, I1, rx, q1⟩ => thn (hi pins s1 σ H1 _ I1 q1) fun iv s2 ⟨y, H2, I2, ry, a, v, ex, g, q2⟩ => ?_)
  subst ex
  obtain rfl : u = Value.ref a := rx
  exact ⟨dict_typeIs I2 g, d_getItem hu I2 g ry fun w' s3 I3 rw' => ⟨v, H2, I3, rw', q2⟩⟩
end



theorem dk_empty {P : Program} {w : World} {H : Hp} (h : Heap) (hb : sysModules < h.objs.size) : ObjOk P w H (h.push { cls := .type "dict", data := .dict #[] }) h.objs.size (.dK []) :=
  ⟨Nat.zero_le _, beq_eq_false_iff_ne.mpr (Ne.symm (Nat.ne_of_lt hb)), [], .nil, Heap.DictOf.new h⟩
section
variable {X : Cx} {pos : Pos}
end


def tPairs : List (TE × TE) → St → Hp → (List (V × V) → Hp → Prop) → Prop
  | [], _, H, Q => Q [] H
  | (tk, tv) :: r, σ, H, Q => tk σ H fun x H1 => tv σ H1 fun y H2 => tPairs r σ H2 fun ps H3 => Q ((x, y) :: ps) H3
abbrev VV : List (V × V) → List (Value × Value) → Prop := Paired fun p q => RelV p.1 q.1 ∧ RelV p.2 q.2
def PPs (X : Cx) (pos : Pos) (keys : List (Option Expr)) (values : List Expr) (trs : List (TE × TE)) : Prop :=
  ∀ (pins : List (Addr × Obj)) (s : Shared) (σ : St) (H : Hp) (Q : List (V × V) → Hp → Prop), Inv X pins σ H s → tPairs trs σ H Q →
    wpAny (model X.prog X.w) X.A (evalPairs (pairTrees keys values X.env pos)) (fun vs s' => ∃ ps H', Inv X pins σ H' s' ∧ VV ps vs ∧ Q ps H') X.xe s
theorem pps_nil {X : Cx} {pos : Pos} : PPs X pos [] [] [] := fun pins s σ H Q I h => pairTrees_nil_walk ⟨[], H, I, .nil, h⟩
theorem pps_cons {X : Cx} {pos : Pos} {k v : Expr} {ks : List (Option Expr)} {vs : List Expr} {tk tv : TE} {trs : List (TE × TE)} (hk : PE X k tk) (hv : PE X v tv) (hr : PPs X pos ks vs trs) :
    PPs X pos (some k :: ks) (v :: vs) ((tk, tv) :: trs) := fun pins s σ H Q I h =>
  pairTrees_cons_walk (thn (hk pins s σ H _ I h) fun u s1 ⟨x, H1, I1, rx, q1⟩ => thn (hv pins s1 σ H1 _ I1 q1) fun w2 s2 ⟨y, H2, I2, ry, q2⟩ =>
    thn (hr pins s2 σ H2 _ I2 q2) fun ws s3 ⟨ps, H3, I3, rel, q3⟩ => ⟨(x, y) :: ps, H3, I3, .cons ⟨rx, ry⟩ rel, q3⟩)

def mergeK (kvs more : List (Key × V)) : List (Key × V) := more.foldl (fun acc kv => putK acc kv.1 kv.2) kvs
theorem KV.merge : ∀ {more : List (Key × V)} {rs : List (Key × Value)} {kvs : List (Key × V)} {vs : List (Key × Value)}, KV more rs → KV kvs vs → KV (mergeK kvs more) (merged vs rs) := by
  intro more rs kvs vs r
  unfold KV at r
  induction r generalizing kvs vs with
  | nil => intro q; exact q
  | @cons p q ps qs h t ih =>
    intro r0
    have e : KV (putK kvs p.1 p.2) (stored vs q.1 q.2) := by
      have := r0.put p.1 h.2
      rw [← h.1]; exact this
    exact ih e
theorem length_mergeK : ∀ (more kvs : List (Key × V)), (mergeK kvs more).length ≤ kvs.length + more.length
  | [], kvs => by show kvs.length ≤ kvs.length + 0; omega
  | p :: r, kvs => by
    have h1 := length_mergeK r (putK kvs p.1 p.2)
    have h2 := length_putK kvs p.1 p.2
    show (mergeK (putK kvs p.1 p.2) r).length ≤ _
    rw [List.length_cons]; omega
theorem carries_of {P : Program} {w : World} : ∀ {kvs : List (Key × V)} {ws : List (Value × Value)}, VV (kvs.map fun kv => (kV kv.1, kv.2)) ws → ∃ rs, Carries (mixKind P w) ws rs ∧ KV kvs rs
  | [], _, r => by rw [List.map_nil] at r; cases r; exact ⟨[], True.intro, .nil⟩
  | p :: kvs, _, r => by
    rw [List.map_cons] at r
    cases r with
    | @cons a b as bs h t =>
      obtain ⟨rs, c, q⟩ := carries_of (P := P) (w := w) t
      obtain ⟨b1, b2⟩ := b
      exact ⟨(p.1, b2) :: rs, ⟨kV_is h.1, rfl, c⟩, .cons ⟨rfl, h.2⟩ q⟩

def tDisp (trs : List (TE × TE)) : TE := fun σ H Q => ∀ p, H p = none → tPairs trs σ (upd H p (.dK [])) fun ps H2 => H2 p = some (.dK []) ∧ ∃ kvs : List (Key × V), ps = kvs.map (fun kv => (kV kv.1, kv.2)) ∧ kvs.length ≤ 15 ∧ Q (.ref p) (upd H2 p (.dK (mergeK [] kvs)))
theorem pe_disp {X : Cx} {pos : Pos} {keys : List (Option Expr)} {values : List Expr} {trs : List (TE × TE)} (h : PPs X pos keys values trs) (hall : keys.all (·.isSome) = true) (hl : keys.length = values.length) (h0 : keys ≠ [])
    (h15 : keys.length ≤ 15) : PE X (.Dict keys values pos) (tDisp trs) := by
  intro pins s σ H Q I q
  have hn := I.hok.fresh (Nat.le_refl s.heap.objs.size)
  have I1 := I.laid (a := s.heap.objs.size) (o := .dK []) (h' := s.heap.push { cls := .type "dict", data := .dict #[] }) (t' := s.toks) (fun _ _ q => Heap.get?_push_of_some _ q) (Nat.le_refl _) (dk_empty s.heap I.big)
  refine wpAny_Dict_walk (knd := mixKind X.prog X.w) hall hl h0 h15 (thn (h pins _ σ _ _ I1 (q _ hn)) fun ws s2 ⟨ps, H2, I2, rel, e, kvs, ep, lk, q2⟩ => ?_)
  subst ep
  obtain ⟨rs, c, rk⟩ := carries_of (P := X.prog) (w := X.w) rel
  obtain ⟨z, hd, vs0, r0, dd⟩ := dk_of I2.hok e
  cases r0
  refine ⟨rs, c, dd, fun h' dd' hs => ⟨.ref s.heap.objs.size, _, ?_, rfl, q2⟩⟩
  have hz : (mergeK [] kvs).length ≤ sizeLine := by
    have h1 := length_mergeK kvs []
    rw [List.length_nil] at h1
    rw [sizeLine_eq]; omega
  have he : ∃ q, h'.get? s.heap.objs.size = some q := let ⟨q, _, _, hq, _⟩ := dd'; ⟨q, hq⟩
  exact d_write I2 (by rw [e]; exact True.intro) hs he (dk_new hz hd (rk.merge .nil) dd')




def IsD (H : Hp) (a : Addr) : Prop := (∃ kvs, Rd H a (.dK kvs)) ∨ ∃ kvs, Rd H a (.dT kvs)
section
variable {X : Cx} {pins : List (Addr × Obj)} {σ : St} {H : Hp} {s : Shared} {a : Addr} {y d : V} {u r : Value} {o : Option V} {A : Around} {E : Value → Shared → Prop}

end

def tDGet2 (td ty tx : TE) : TE := fun σ H Q => td σ H fun x H1 => ∃ a, x = .ref a ∧ IsD H1 a ∧ ty σ H1 fun y H2 => tx σ H2 fun z H3 => ∃ o, DGet H3 a y o ∧ Q (o.getD z) H3

section
variable {X : Cx} {o e f : Expr} {apos cpos : Pos} {td ty tx : TE}
end


section
variable {X : Cx} {pins : List (Addr × Obj)} {σ : St} {H : Hp} {s : Shared} {a : Addr} {kvs : List (Key × V)} {A : Around} {E : Value → Shared → Prop}
end


section
variable {X : Cx} {pins : List (Addr × Obj)} {σ : St} {H : Hp} {s : Shared} {a : Addr} {y : V} {u : Value} {A : Around} {E : Value → Shared → Prop}

end
end L2


set_option Elab.async false
set_option linter.all false
set_option maxRecDepth 100000
set_option maxHeartbeats 1000000
namespace L2
open PySem PySem.Spec PySem.Calls PyProof.Rows PySem.W
section
variable {X : Cx} {k j : Nat} {x : Str} {p pos : Pos} {e : Expr} {es : List Expr} {tf : TE} {t : TA}

def FnV (P : Program) (w : World) (K : Frag) (mg : Str → Option Value) (base : Heap) (k : Nat) (f : Addr) (sp : Sp) : Prop := ∃ fd ps, keepIn K (.ref f) = true ∧ Binds K fd ps [] ∧ FnOk P w K mg base CX0 k f fd ps sp
def tCallV (P : Program) (w : World) (K : Frag) (mg : Str → Option Value) (base : Heap) (k : Nat) (tf : TE) (t : TA) : TE := fun σ H Q => tf σ H fun v H0 => ∃ f sp, v = .ref f ∧ FnV P w K mg base k f sp ∧ t σ H0 fun vs H1 => sp vs H1 Q E0
end

inductive EntK (w : World) : List DictEntry → List (Key × V) → Prop
  | nil : EntK w [] []
  | cons {e : DictEntry} {k : Key} {v : V} {es : List DictEntry} {kvs : List (Key × V)} : e.hash = keyH w k → keyIs k e.key = true → RelV v e.val → EntK w es kvs → EntK w (e :: es) ((k, v) :: kvs)
theorem EntK.keys {P : Program} {w : World} {es : List DictEntry} {kvs : List (Key × V)} (h : EntK w es kvs) : ∀ e ∈ es, ∃ k, (mixKind P w).is k e.key = true ∧ e.hash = (mixKind P w).hash k := by
  induction h with
  | nil => intro e he; cases he
  | cons h1 h2 h3 h4 ih =>
    intro e he
    rcases List.mem_cons.mp he with rfl | he
    · exact ⟨_, h2, h1⟩
    · exact ih e he
theorem EntK.pairs {P : Program} {w : World} {es : List DictEntry} {kvs : List (Key × V)} (h : EntK w es kvs) : ∃ vs : List (Key × Value), PySem.Pairs (mixKind P w) es vs ∧ KV kvs vs ∧ vs.map (·.1) = kvs.map (·.1) := by
  induction h with
  | nil => exact ⟨[], .nil, .nil, rfl⟩
  | @cons e k v es kvs h1 h2 h3 h4 ih =>
    obtain ⟨vs, i1, i2, i3⟩ := ih
    exact ⟨(k, e.val) :: vs, .cons h2 rfl i1, .cons ⟨rfl, h3⟩ i2, by rw [List.map_cons, List.map_cons, i3]⟩
def KDict (w : World) (K : Frag) (a : Addr) (kvs : List (Key × V)) : Prop := (a == sysModules) = false ∧ ∃ o es ep, K.lookup a = some o ∧ o.ExactDict ∧ o.data = .dict es ep ∧ EntK w es.toList kvs ∧ (kvs.map (·.1)).Nodup
section
variable {X : Cx} {pins : List (Addr × Obj)} {σ : L2.St} {H : Hp} {s : Shared} {a : Addr} {kvs : List (Key × V)}
theorem KDict.at (I : Inv X pins σ H s) (h : KDict X.w X.K a kvs) : (a == sysModules) = false ∧ ∃ vs, KV kvs vs ∧ s.heap.DictOf (mixKind X.prog X.w) a vs := by
  obtain ⟨h0, o, es, ep, h1, h2, h3, h4, h5⟩ := h
  obtain ⟨vs, i1, i2, i3⟩ := h4.pairs (P := X.prog)
  exact ⟨h0, vs, i2, o, es, ep, I.kIn a o h1, h2, h3, fun e he => h4.keys (P := X.prog) e (by simpa using he), i1, by rw [i3]; exact h5⟩
end
section
variable {X : Cx} {x : Str} {p apos cpos : Pos} {e f : Expr} {ty tx' : TE} {kvs : List (Key × V)}

def tKGet (kvs : List (Key × V)) (ty : TE) : TE := fun σ H Q => ty σ H fun y H1 => ∃ k, y = kV k ∧ Q ((valV kvs k).getD .non) H1
end

section
variable {X : Cx} {a : Expr} {ta : TE}
def tTruK (K : Frag) (ta : TE) : TT := fun σ H Q => ta σ H fun x H' => ∃ k, TruV K x H' k ∧ Q k H'
end

section
variable {X : Cx}
def rIsA (K : Frag) (n : String) : List V → Hp → VK → Prop := fun xs H Q => ∃ x t b, xs = [x, .ty n] ∧ TyOf K H x t ∧ PySem.W.kitOne K t (.type n) = some b ∧ Q (.bl b) H
theorem call_isAK {K : Frag} {n : String} (hK : X.K = K) : CallR X (.builtin "isinstance") (rIsA K n) := by
  subst hK
  intro pins s σ H xs us Q I r h
  obtain ⟨x, t, b, rfl, ty, e, q⟩ := h
  exact call_isinst pins s σ H _ us Q I r ⟨x, n, t, b, rfl, ty, e, q⟩

def rTupL (K : Frag) : List V → Hp → VK → Prop := fun xs H Q => ∃ p ys, xs = [.ref p] ∧ SqL K H p ys ∧ ∀ l, H l = none → Q (.ref l) (upd H l (.tup ys))
def rCatU : R2 := fun x y H Q => ∃ a b xs ys, x = .ref a ∧ y = .ref b ∧ H a = some (.tup xs) ∧ H b = some (.tup ys) ∧ xs.length + ys.length ≤ 1000000 ∧ ∀ p H', Same H H' → H' p = some (.tup (xs ++ ys)) → Q (.ref p) H'
def rStarts : V → List V → Hp → VK → Prop := fun x vs H Q => ∃ l y, x = .str (S l) ∧ vs = [.str (S y)] ∧ Q (.bl (y.isPrefixOf l)) H
end

section
variable {X : Cx} {pins : List (Addr × Obj)} {σ : L2.St} {H : Hp} {s : Shared} {h' : Heap}

end
def Itz (K : Frag) (l1 l2 : Addr) : It := ⟨fun i H => ∃ xs ys x y, SqL K H l1 xs ∧ SqL K H l2 ys ∧ xs[i]? = some x ∧ ys[i]? = some y,
  fun i H v H' => ∃ p x y, H p = none ∧ (∀ xs, SqL K H l1 xs → xs[i]? = some x) ∧ (∀ ys, SqL K H l2 ys → ys[i]? = some y) ∧ v = .ref p ∧ H' = upd H p (.tup [x, y]),
  fun i H => ∃ xs ys, SqL K H l1 xs ∧ SqL K H l2 ys ∧ (xs.length ≤ i ∨ ys.length ≤ i)⟩
section
variable {X : Cx}
def iZip (K : Frag) (ta : TA) : TI := fun σ H R => ta σ H fun vs H1 => ∃ l1 l2, vs = [.ref l1, .ref l2] ∧ (∃ xs, SqL K H1 l1 xs) ∧ (∃ ys, SqL K H1 l2 ys) ∧ R (Itz K l1 l2) H1
end
end L2
namespace L2
open PySem PySem.Spec PySem.Calls PyProof.Rows PySem.W
theorem hu64 {A : Around} {k : Nat} (hr : Room k A) : A.units + 64 < cLine := hr.units
section
variable {X : Cx}
def rIntB : List V → Hp → VK → Prop := fun xs H Q => ∃ k, xs = [.bl k] ∧ Q (.int (if k then 1 else 0)) H
theorem call_intB : CallR X (.type "int") rIntB := by
  intro pins s σ H xs us Q I r h
  exact call_int1 pins s σ H xs us Q I r (.inr h)
end
end L2
namespace L2
open PySem PySem.Spec PySem.Calls PyProof.Rows PySem.W
section
variable {X : Cx} {K : Frag} {o : Expr} {to : TE} {name : Str} {apos cpos : Pos} {T id : String} {r : V → List V → Hp → VK → Prop}
theorem pe_bm0K (hK : X.K = K) (pa : PlainAttrs T) (slot : Slot T name id) (hty : typeOf (.builtin id) = pure (.type "method_descriptor")) (hm : MtR X id r) (ho : PE X o to)
    (hbase : attributeBase o name X.env (eval o X.env) = eval o X.env := by rfl) (hline : (apos.endLine == cpos.line) = true := by rfl) : PE X (.Call (.Attribute o name apos) [] [] cpos) (tBM0 K T r to) := by
  subst hK
  exact pe_bm0 pa slot hty hm ho hbase hline
end
end L2
namespace HT
open PySem PySem.Spec PySem.Calls PyProof.Rows PySem.W
section
variable {prog : Program} {w : World} {A : Around} {E : Value → Shared → Prop} {s : Shared}
end
end HT
namespace L2
open PySem PySem.Spec PySem.Calls PyProof.Rows PySem.W
section
variable {X : Cx}

def rSlU : V → Option Int → Option Int → Hp → VK → Prop := fun x lo hi H Q => ∃ a xs, x = .ref a ∧ H a = some (.tup xs) ∧ ∀ p H', Same H H' → H' p = some (.tup (cutV xs lo hi)) → Q (.ref p) H'
end

theorem seq_gen {a b : TS} {D : Ends} {σ : L2.St} {H : Hp} (R : L2.St → Hp → Prop) (hr : ∀ σ' H', R σ' H' → b D σ' H') (h : ∀ N : L2.St → Hp → Prop, (∀ σ' H', R σ' H' → N σ' H') → a { D with nx := N } σ H) : tSeq a b D σ H := h (b D) hr
end L2
namespace L2
open PySem PySem.Spec PySem.Calls PyProof.Rows PySem.W
end L2

set_option Elab.async false
set_option linter.all false
set_option maxRecDepth 100000
set_option maxHeartbeats 1000000
namespace L2
open PySem PySem.Spec PySem.Calls PyProof.Rows PySem.W

structure QE (X : Cx) (e : Expr) (t : TE) : Prop where
  h : PE X e t
structure QT (X : Cx) (e : Expr) (t : TT) : Prop where
  h : PT X e t
structure QW (X : Cx) (e : Expr) (t : TT) : Prop where
  h : PW X e t
structure QA (X : Cx) (es : List Expr) (t : TA) : Prop where
  h : PA X es t
structure QS (X : Cx) (st : Stmt) (t : TS) : Prop where
  h : PS X st t
structure QSs (X : Cx) (st : List Stmt) (t : TS) : Prop where
  h : PSs X st t
structure QI (X : Cx) (tg iter : Expr) (wi : TI) : Prop where
  h : PI X tg iter wi
structure QG (X : Cx) (target : Expr) (t : TG) : Prop where
  h : PG X target t
structure QGs (X : Cx) (ts : List Expr) (t : TGs) : Prop where
  h : PGs X ts t
structure QO (X : Cx) (e : Option Expr) (t : TO) : Prop where
  h : PO X e t
structure QTs (X : Cx) (ifs : List Expr) (t : TT) : Prop where
  h : PTs X ifs t
section
set_option autoImplicit true
set_option relaxedAutoImplicit true
theorem qa_cons {X : Cx} (ha : QE X e te) (hr : QA X es t) (hs : starEach (e :: es) X.env = (false, eval e X.env) :: starEach es X.env := by rfl) : QA X (e :: es) (tCons te t) := ⟨pa_cons (ha := ha.h) (hr := hr.h) (hs := hs)⟩
theorem qa_nil {X : Cx} : QA X [] tNil := ⟨pa_nil ⟩
theorem qe_S {X : Cx} {x : Str} {l : List Nat} {j pos} (h : x = S l) : QE X (.Constant (.str x) j pos) (tC (.str (S l))) := ⟨pe_S (h := h)⟩
theorem qe_and {X : Cx} {rest : List Expr} (ha : QE X a ta) (hb : QE X (.BoolOp .And (b :: rest) pos) tb) : QE X (.BoolOp .And (a :: b :: rest) pos) (tAndV ta tb) := ⟨pe_and (ha := ha.h) (hb := hb.h)⟩
theorem qe_atX {X : Cx} {K : Frag} {e : Expr} {te : TE} {f : Str} {pos : Pos} (hK : X.K = K) (he : QE X e te) (hb : attributeBase e f X.env (eval e X.env) = eval e X.env := by rfl) : QE X (.Attribute e f pos) (tAtX K te f) := ⟨pe_atX (hK := hK) (he := he.h) (hb := hb)⟩
theorem qe_bl {X : Cx} {b j pos} : QE X (.Constant (.bool b) j pos) (tC (.bl b)) := ⟨pe_bl ⟩
theorem qe_blt {X : Cx} {v : V} {u : Value} {pos : Pos} (hm : X.mg x = none) (hv : bootBuiltins x = some u) (r : RelV v u) (hg : Gl X x := by rfl) (hn : x ≠ "__name__" := by decide) (hd : (x == ("__debug__" : Str)) = false := by decide) : QE X (.Name x pos) (tC v) := ⟨pe_blt (hm := hm) (hv := hv) (r := r) (hg := hg) (hn := hn) (hd := hd)⟩
theorem qe_bm0K {X : Cx} {id : String} {K : Frag} (hK : X.K = K) (pa : PlainAttrs T) (slot : Slot T name id) (hty : typeOf (.builtin id) = pure (.type "method_descriptor")) (hm : MtR X id r) (ho : QE X o to)
    (hbase : attributeBase o name X.env (eval o X.env) = eval o X.env := by rfl) (hline : (apos.endLine == cpos.line) = true := by rfl) : QE X (.Call (.Attribute o name apos) [] [] cpos) (tBM0 K T r to) := ⟨pe_bm0K (hK := hK) (pa := pa) (slot := slot) (hty := hty) (hm := hm) (ho := ho.h) (hbase := hbase) (hline := hline)⟩
theorem qe_bmK {X : Cx} {id : String} {K : Frag} (hK : X.K = K) (pa : PlainAttrs T) (slot : Slot T name id) (hty : typeOf (.builtin id) = pure (.type "method_descriptor")) (hm : MtR X id r) (ho : QE X o to) (ha : QA X (e :: es) t)
    (hbase : attributeBase o name X.env (eval o X.env) = eval o X.env := by rfl)
    (hfew : ((backTo cpos (starEach (e :: es) X.env)).all (fun x => !x.1) && (backToKw cpos (keywordEach [] X.env)).all (fun x => x.1.isSome)
      && decide ((e :: es).length + ([] : List Keyword).length + (if ([] : List Keyword).isEmpty then 0 else 1) < 30)) = true := by rfl)
    (hline : (apos.endLine == cpos.line) = true := by rfl) (hs : starEach (e :: es) X.env = (false, eval e X.env) :: starEach es X.env := by rfl) (hplain : (backTo cpos (starEach es X.env)).any (·.1) = false := by rfl) :
    QE X (.Call (.Attribute o name apos) (e :: es) [] cpos) (tBM K T r to t) := ⟨pe_bmK (hK := hK) (pa := pa) (slot := slot) (hty := hty) (hm := hm) (ho := ho.h) (ha := ha.h) (hbase := hbase) (hfew := hfew) (hline := hline) (hs := hs) (hplain := hplain)⟩
theorem qe_callB {X : Cx} {id : String} (hc : CallR X (.builtin id) r) (hg : Gl X x) (hm : X.mg x = none) (hv : bootBuiltins x = some (.builtin id)) (ha : QA X (e :: es) t) (hn : x ≠ "__name__" := by decide) (hdb : (x == ("__debug__" : Str)) = false := by decide)
    (he : starEach (e :: es) X.env = (false, eval e X.env) :: starEach es X.env := by rfl) (hpl : (backTo pos (starEach es X.env)).any (·.1) = false := by rfl) : QE X (.Call (.Name x p) (e :: es) [] pos) (tCB r t) := ⟨pe_callB (hc := hc) (hg := hg) (hm := hm) (hv := hv) (ha := ha.h) (hn := hn) (hdb := hdb) (he := he) (hpl := hpl)⟩
theorem qe_callF {X : Cx} (F : OkF X.prog X.w X.K X.mg X.base k x ps sp) (hr : Room j X.A) (hk : k ≤ j) (ha : QA X (e :: es) t) (hg : Gl X x := by rfl) (hdb : (x == ("__debug__" : Str)) = false := by decide)
    (he : starEach (e :: es) X.env = (false, eval e X.env) :: starEach es X.env := by rfl) (hpl : (backTo pos (starEach es X.env)).any (·.1) = false := by rfl) : QE X (.Call (.Name x p) (e :: es) [] pos) (tCall sp [] E0 t) := ⟨pe_callF (F := F) (hr := hr) (hk := hk) (ha := ha.h) (hg := hg) (hdb := hdb) (he := he) (hpl := hpl)⟩
theorem qe_callN {X : Cx} (F : OkX X.prog X.w X.K X.mg X.base k x ps sp) (hr : Room j X.A) (hk : k ≤ j) (ha : QA X (e :: es) t) (hg : Gl X x := by rfl) (hdb : (x == ("__debug__" : Str)) = false := by decide)
    (he : starEach (e :: es) X.env = (false, eval e X.env) :: starEach es X.env := by rfl) (hpl : (backTo pos (starEach es X.env)).any (·.1) = false := by rfl) : QE X (.Call (.Name x p) (e :: es) [] pos) (tCall sp [] E0 t) := ⟨pe_callN (F := F) (hr := hr) (hk := hk) (ha := ha.h) (hg := hg) (hdb := hdb) (he := he) (hpl := hpl)⟩
theorem qe_callTy {X : Cx} (hc : CallR X (.type T) r) (hg : Gl X x) (hm : X.mg x = none) (hv : bootBuiltins x = some (.type T)) (ha : QA X (e :: es) t) (hn : x ≠ "__name__" := by decide) (hdb : (x == ("__debug__" : Str)) = false := by decide)
    (he : starEach (e :: es) X.env = (false, eval e X.env) :: starEach es X.env := by rfl) (hpl : (backTo pos (starEach es X.env)).any (·.1) = false := by rfl) : QE X (.Call (.Name x p) (e :: es) [] pos) (tCB r t) := ⟨pe_callTy (hc := hc) (hg := hg) (hm := hm) (hv := hv) (ha := ha.h) (hn := hn) (hdb := hdb) (he := he) (hpl := hpl)⟩
theorem qe_callX {X : Cx} (hx : Thr X E) (F : OkX X.prog X.w X.K X.mg X.base k x ps sp) (hr : Room j X.A) (hk : k ≤ j) (ha : QA X (e :: es) t) (hg : Gl X x := by rfl) (hdb : (x == ("__debug__" : Str)) = false := by decide)
    (he : starEach (e :: es) X.env = (false, eval e X.env) :: starEach es X.env := by rfl) (hpl : (backTo pos (starEach es X.env)).any (·.1) = false := by rfl) : QE X (.Call (.Name x p) (e :: es) [] pos) (tCallX sp E t) := ⟨pe_callX (hx := hx) (F := F) (hr := hr) (hk := hk) (ha := ha.h) (hg := hg) (hdb := hdb) (he := he) (hpl := hpl)⟩
theorem qe_cls {X : Cx} (h : X.mg x = some (.ref a)) (hg : Gl X x := by rfl) (hd : (x == ("__debug__" : Str)) = false := by decide) : QE X (.Name x pos) (tC (.ref a)) := ⟨pe_cls (h := h) (hg := hg) (hd := hd)⟩
theorem qe_cmpR {X : Cx} {op : CmpOp} {r : R2} (ho : OpR X (compareOp op) r) (ha : QE X a ta) (hb : QE X b tb) (hm : behindInMarks op b = false) : QE X (.Compare a [op] [b] pos) (tOp r ta tb) := ⟨pe_cmpR (ho := ho) (ha := ha.h) (hb := hb.h) (hm := hm)⟩
theorem qe_d0 {X : Cx} {pos : Pos} : QE X (.Dict [] [] pos) tD0 := ⟨pe_d0 ⟩
theorem qe_gl {X : Cx} {v : V} {pos : Pos} (h : ∃ u, X.mg x = some u ∧ RelV v u) (hg : Gl X x := by rfl) (hd : (x == ("__debug__" : Str)) = false := by decide) : QE X (.Name x pos) (tC v) := ⟨pe_gl (h := h) (hg := hg) (hd := hd)⟩
theorem qe_int {X : Cx} {i j pos} : QE X (.Constant (.int i) j pos) (tC (.int i)) := ⟨pe_int ⟩
theorem qe_ix {X : Cx} {r : R2} (hr : IxR X r) (ha : QE X a ta) (hb : QE X b tb) (hs : PlainIx b) : QE X (.Subscript a b pos) (tOp r ta tb) := ⟨pe_ix (hr := hr) (ha := ha.h) (hb := hb.h) (hs := hs)⟩
theorem qe_lst {X : Cx} (h : QA X es t) : QE X (.List es pos) (tLst t) := ⟨pe_lst (h := h.h)⟩
theorem qe_non {X : Cx} {j pos} : QE X (.Constant .none j pos) (tC .non) := ⟨pe_non ⟩
theorem qe_one {X : Cx} {op} {t : TE} (h : QE X a t) : QE X (.BoolOp op [a] pos) t := ⟨pe_one (h := h.h)⟩
theorem qe_op {X : Cx} {op : Operator} {r : R2} (ho : OpR X (binaryOp op) r) (ha : QE X a ta) (hb : QE X b tb) : QE X (.BinOp a op b pos) (tOp r ta tb) := ⟨pe_op (ho := ho) (ha := ha.h) (hb := hb.h)⟩
theorem qe_slice {X : Cx} {lo hi : Option Expr} {r : V → Option Int → Option Int → Hp → VK → Prop} (hr : SlR X r) (he : QE X e te) (hl : QO X lo tl) (hu : QO X hi th) : QE X (.Subscript e (.Slice lo hi none p2) pos) (tSl r te tl th) := ⟨pe_slice (hr := hr) (he := he.h) (hl := hl.h) (hu := hu.h)⟩
theorem qe_tup {X : Cx} {x1} (h : QA X es t) : QE X (.Tuple es x1 pos) (tTup t) := ⟨pe_tup (h := h.h)⟩
theorem qe_un {X : Cx} {op : UnaryOp} {r : V → Hp → VK → Prop} (ho : UnR X (unaryOp op) r) (ha : QE X a ta) : QE X (.UnaryOp op a pos) (tUn r ta) := ⟨pe_un (ho := ho) (ha := ha.h)⟩
theorem qg_name {X : Cx} {i : Nat} {x : Str} (hN : X.N.Nodup) (hi : X.N[i]? = some x) (hx : Loc X.env.scope x) (hf : X.fn x = true ∨ X.env.scope.names.lookup x = some .local := by first | exact .inl rfl | exact .inr rfl | assumption) : QG X (.Name x pos) (gName i) := ⟨pg_name (hN := hN) (hi := hi) (hx := hx) (hf := hf)⟩
theorem qg_tup {X : Cx} {es : List Expr} {k : Nat} {t : TGs} {n : Nat} (hc : X.calm = true) (h : QGs X es t)
    (hn : (assignEach es X.env).length = n := by rfl) (hst : (assignEach es X.env).findIdx? (·.1) = none := by rfl) : QG X (.Tuple es k pos) (gTup X.K n t) := ⟨pg_tup (hc := hc) (h := h.h) (hn := hn) (hst := hst)⟩
theorem qgs_cons {X : Cx} {e : Expr} {es : List Expr} {t : TG} {u : TGs} (h1 : QG X e t) (h2 : QGs X es u)
    (hs : (assignEach (e :: es) X.env).map (·.2) = assign e X.env :: (assignEach es X.env).map (·.2) := by rfl) : QGs X (e :: es) (gCons t u) := ⟨pgs_cons (h1 := h1.h) (h2 := h2.h) (hs := hs)⟩
theorem qgs_nil {X : Cx} : QGs X [] gNil := ⟨pgs_nil ⟩
theorem qi_enumS {X : Cx} {a : Expr} {ta : TA} {p pos : Pos} {elts : List Expr} {ek : Nat} {epos : Pos} (hg : Gl X "enumerate") (hm : X.mg "enumerate" = none) (ha : QA X [a] ta) (hs : starEach [a] X.env = [(false, eval a X.env)] := by rfl) :
    QI X (.Tuple elts ek epos) (.Call (.Name "enumerate" p) [a] [] pos) (iEnumS ta) := ⟨pi_enumS (hg := hg) (hm := hm) (ha := ha.h) (hs := hs)⟩
theorem qi_listK {X : Cx} {K : Frag} {tg l : Expr} {tl : TE} (hK : X.K = K) (hl : QE X l tl) : QI X tg l (iList K tl) := ⟨pi_listK (hK := hK) (hl := hl.h)⟩
theorem qi_range1 {X : Cx} {a : Expr} {ta : TA} {p pos : Pos} (hg : Gl X "range") (hm : X.mg "range" = none) (ha : QA X [a] ta) (hs : starEach [a] X.env = [(false, eval a X.env)] := by rfl) : QI X tg (.Call (.Name "range" p) [a] [] pos) (iRng1 ta) := ⟨pi_range1 (hg := hg) (hm := hm) (ha := ha.h) (hs := hs)⟩
theorem qo_none {X : Cx} : QO X none tNoPart := ⟨po_none ⟩
theorem qo_some {X : Cx} (h : QE X e te) : QO X (some e) (tPart te) := ⟨po_some (h := h.h)⟩
theorem qs_asg {X : Cx} {tg e : Expr} {te : TE} {g : TG} (he : QE X e te) (hg : QG X tg g) (hs : swapsWithSole [tg] e pos.line X.env = pure false := by rfl) (hw : swappedStores [tg] e X.env = pure none := by rfl)
    (h1 : (assignEach [tg] X.env).map (·.2) = [assign tg X.env] := by rfl) : QS X (.Assign [tg] e pos) (tAsg te g) := ⟨ps_asg (he := he.h) (hg := hg.h) (hs := hs) (hw := hw) (h1 := h1)⟩
theorem qs_expr {X : Cx} (he : QE X e te) (hs : swapsWith e none pos.line X.env = pure false := by rfl) : QS X (.Expr e pos) (tDrop te) := ⟨ps_expr (he := he.h) (hs := hs)⟩
theorem qs_for {X : Cx} {iter : Expr} {body : List Stmt} {wi : TI} {g : TG} {tb : TS} {pos : Pos} (hp : PassesOwn (model X.prog X.w) X.A X.env X.xe) (hc : X.calm = true) (hi : QI X tg iter wi) (hg : QG X tg g) (hb : QSs X body tb)
    (hs : ∀ x, foldedSetIterable iter X.env x = pure x := by intro _; rfl) : QS X (.For tg iter body [] pos) (tFor wi g tb) := ⟨ps_for (hp := hp) (hc := hc) (hi := hi.h) (hg := hg.h) (hb := hb.h) (hs := hs)⟩
theorem qs_if {X : Cx} {c : Expr} {a b : List Stmt} {tc : TT} (hc : QT X c tc) (ha : QSs X a t) (hb : QSs X b u) : QS X (.If c a b pos) (tIfS tc t u) := ⟨ps_if (hc := hc.h) (ha := ha.h) (hb := hb.h)⟩
theorem qs_raise {X : Cx} (hx : Thr X E) (R : Err X.prog X.w X.K X.mg X.base x C f pay) (hr : Room j X.A) (hj : 2 ≤ j) (ha : QA X (e :: es) t) (hg : Gl X x := by rfl) (hdb : (x == ("__debug__" : Str)) = false := by decide)
    (he : starEach (e :: es) X.env = (false, eval e X.env) :: starEach es X.env := by rfl) (hpl : (backTo cpos (starEach es X.env)).any (·.1) = false := by rfl) :
    QS X (.Raise (some (.Call (.Name x np) (e :: es) [] cpos)) none pos) (tRaise C f pay E t) := ⟨ps_raise (hx := hx) (R := R) (hr := hr) (hj := hj) (ha := ha.h) (hg := hg) (hdb := hdb) (he := he) (hpl := hpl)⟩
theorem qs_ret {X : Cx} (he : QE X e te) : QS X (.Return (some e) pos) (tRet te) := ⟨ps_ret (he := he.h)⟩
theorem qs_set {X : Cx} {i : Nat} {x : Str} {e : Expr} {te : TE} {pos' : Pos} (hN : X.N.Nodup) (hi : X.N[i]? = some x) (hx : Loc X.env.scope x) (he : QE X e te) (hs : swapsWith e (some (.Name x pos')) pos.line X.env = pure false := by rfl) (hf : X.fn x = true ∨ X.env.scope.names.lookup x = some .local := by first | exact .inl rfl | exact .inr rfl | assumption) :
    QS X (.Assign [.Name x pos'] e pos) (tAsg te (gName i)) := ⟨ps_set (hN := hN) (hi := hi) (hx := hx) (he := he.h) (hs := hs) (hf := hf)⟩
theorem qs_try {X : Cx} (hm : X.mg x = some (.ref Dc)) (cD : XCl X.K Dc) (hN : X.N.Nodup) (hi : X.N[i]? = some n) (hl : X.env.scope.names.lookup n = some .local) (hst : X.stack = X.env :: X.outer) (hf : X.env.frame = some X.env.locals)
    (hb : ∀ (E : XS) (pn : List (Addr × Obj)) (xe : Value → Shared → Prop), PassesOwn (model X.prog X.w) X.A X.env xe → Thr (X.tryIn pn xe) E → QSs (X.tryIn pn xe) body (tb E))
    (hh : ∀ pn ea, QSs (X.exIn pn ea) (b₀ :: suite) th) (hg : Gl X x := by rfl) (hdb : (x == ("__debug__" : Str)) = false := by decide) :
    QS X (.Try body [.ExceptHandler (some (.Name x np)) (some n) (b₀ :: suite) hpos] [] [] pos) (tTry X.K Dc i tb th) := ⟨ps_try (hm := hm) (cD := cD) (hN := hN) (hi := hi) (hl := hl) (hst := hst) (hf := hf) (hb := fun E pn xe a b => (hb E pn xe a b).h) (hh := fun pn ea => (hh pn ea).h) (hg := hg) (hdb := hdb)⟩
theorem qss_cons {X : Cx} {rest : List Stmt} {st : Stmt} (h1 : QS X st t) (h2 : QSs X rest u) : QSs X (st :: rest) (tSeq t u) := ⟨pss_cons (h1 := h1.h) (h2 := h2.h)⟩
theorem qss_nil {X : Cx} : QSs X [] tNext := ⟨pss_nil ⟩
theorem qss_one {X : Cx} {st : Stmt} (h1 : QS X st t) : QSs X [st] t := ⟨pss_one (h1 := h1.h)⟩
theorem qt_cmpR {X : Cx} {op : CmpOp} {r : R2} (ho : OpR X (compareOp op) r) (ha : QE X a ta) (hb : QE X b tb) (hm : behindInMarks op b = false) : QT X (.Compare a [op] [b] pos) (tTest (tOp r ta tb)) := ⟨pt_cmpR (ho := ho) (ha := ha.h) (hb := hb.h) (hm := hm)⟩
theorem qt_not {X : Cx} (ha : QT X a tA) : QT X (.UnaryOp .Not a pos) (tNot tA) := ⟨pt_not (ha := ha.h)⟩
theorem qt_val {X : Cx} {e : Expr} {t : TE} (h : QE X e t) (he : ∀ whole, isTrue e X.env whole = (do let v ← whole; standAt e.pos; holding [v] (truthy v)) := by intro _; rfl) : QT X e (tB t) := ⟨pt_val (h := h.h) (he := he)⟩
theorem qts_nil {X : Cx} : QTs X [] tTrue := ⟨pts_nil ⟩
theorem qts_one {X : Cx} {c : Expr} {t : TT} (h : QT X c t) : QTs X [c] t := ⟨pts_one (h := h.h)⟩
theorem qv {X : Cx} (i : Nat) {x : Str} {pos : Pos} (hN : X.N[i]? = some x := by rfl) (hv : Vis X.env.scope x := by first | exact Or.inl rfl | exact Or.inr (Or.inl rfl) | exact Or.inr (Or.inr rfl)) (hd : (x == ("__debug__" : Str)) = false := by decide)
    (hcd : (x == ("__classdict__" : Str)) = false := by decide) : QE X (.Name x pos) (tVar i) := ⟨pv (i := i) (hN := hN) (hv := hv) (hd := hd) (hcd := hcd)⟩
theorem qw_and {X : Cx} {rest : List Expr} (ha : QT X a tA) (hb : QW X (.BoolOp .And (b :: rest) pos) tB') : QW X (.BoolOp .And (a :: b :: rest) pos) (tAnd tA tB') := ⟨pw_and (ha := ha.h) (hb := hb.h)⟩
theorem qw_and1 {X : Cx} (ha : QT X a tA) : QW X (.BoolOp .And [a] pos) tA := ⟨pw_and1 (ha := ha.h)⟩
theorem qw_or {X : Cx} {rest : List Expr} (ha : QT X a tA) (hb : QW X (.BoolOp .Or (b :: rest) pos) tB') : QW X (.BoolOp .Or (a :: b :: rest) pos) (tOr tA tB') := ⟨pw_or (ha := ha.h) (hb := hb.h)⟩
theorem qw_or1 {X : Cx} (ha : QT X a tA) : QW X (.BoolOp .Or [a] pos) tA := ⟨pw_or1 (ha := ha.h)⟩
theorem QW.qt {X : Cx} {e : Expr} {t : TT} (h : QW X e t) : QT X e t := ⟨h.h.pt⟩
end
end L2

set_option linter.all false
set_option autoImplicit false
namespace L2
open PySem PySem.Spec PySem.Calls PyProof.Rows PySem.W
section
variable {X : Cx} {pins : List (Addr × Obj)} {σ : St} {H : Hp} {s : Shared} {a b : Addr} {kvs more : List (Key × V)} {A : Around} {E : Value → Shared → Prop}

end
def tDUpd (td ty : TE) : TE := fun σ H Q => td σ H fun x H1 => ∃ a, x = .ref a ∧ IsD H1 a ∧ ty σ H1 fun y H2 => ∃ b kvs more, y = .ref b ∧ a ≠ b ∧ H2 a = some (.dK kvs) ∧ H2 b = some (.dK more) ∧ kvs.length + more.length ≤ sizeLine ∧ Q .non (upd H2 a (.dK (mergeK kvs more)))
section
variable {X : Cx} {o e : Expr} {apos cpos : Pos} {td ty : TE}
end
structure QPs (X : Cx) (pos : Pos) (keys : List (Option Expr)) (values : List Expr) (trs : List (TE × TE)) : Prop where
  h : PPs X pos keys values trs
theorem qpp_nil {X : Cx} {pos : Pos} : QPs X pos [] [] [] := ⟨pps_nil⟩
theorem qpp_cons {X : Cx} {pos : Pos} {k v : Expr} {ks : List (Option Expr)} {vs : List Expr} {tk tv : TE} {trs : List (TE × TE)} (hk : QE X k tk) (hv : QE X v tv) (hr : QPs X pos ks vs trs) : QPs X pos (some k :: ks) (v :: vs) ((tk, tv) :: trs) := ⟨pps_cons hk.h hv.h hr.h⟩
theorem qe_disp {X : Cx} {pos : Pos} {keys : List (Option Expr)} {values : List Expr} {trs : List (TE × TE)} (h : QPs X pos keys values trs) (hall : keys.all (·.isSome) = true) (hl : keys.length = values.length) (h0 : keys ≠ [])
    (h15 : keys.length ≤ 15) : QE X (.Dict keys values pos) (tDisp trs) := ⟨pe_disp h.h hall hl h0 h15⟩
theorem qe_dget {X : Cx} {o i : Expr} {pos : Pos} {td ty : TE} (hu : X.A.units + 1 < cLine) (ho : QE X o td) (hi : QE X i ty) (hs : NoSl i) : QE X (.Subscript o i pos) (tDGet td ty) := ⟨pe_dget hu ho.h hi.h hs⟩
end L2

set_option Elab.async false
set_option linter.all false
set_option maxRecDepth 100000
namespace L2
open PySem PySem.Spec PyProof.Rows
section
variable {X : Cx} {tg : Expr}

def Itd (lo d : Int) (n : Nat) : It := ⟨fun i _ => i < n, fun i H x H' => H' = H ∧ x = .int (lo + i * d), fun i _ => n ≤ i⟩
def iRng3 (ta : TA) : TI := fun σ H R => ta σ H fun vs H1 => ∃ i j k : Int, vs = [.int i, .int j, .int k] ∧ (k ≠ 0 ∧ Builtin.Range.small i j k = true ∧ Builtin.divisionGoesByPylong (j - i) k = false) ∧ ∃ n : Nat, (n : Int) = Builtin.Range.rangeSize i j k ∧ R (Itd i k n) H1
end
end L2


set_option Elab.async false
set_option linter.all false
set_option maxRecDepth 100000
set_option maxHeartbeats 1000000
namespace L2
open PySem PySem.Spec PyProof.Rows

def ren (x y : Str) : Str := if y = x then Str.ofString "" else y
structure LcScopeS (X : Cx) (x : Str) (scope : Scope) : Prop where
  xN : x ∉ X.N.map (ren x)
  nd : (X.N.map (ren x)).Nodup
  kind : scope.kind = .function
  cell : ∀ y ∈ scope.names, y.2 ≠ .cell
  names : ∀ y ∈ scope.names, y.2 = .local → scope.names.lookup y.1 = some .local
  var : scope.names.lookup x = some .local
  free : ∀ y ∈ scope.names, y.2 = .free → X.env.kindOf y.1 = some .cell
  out : ∀ y ∈ X.N.map (ren x), scope.names.lookup y ≠ some .local
  blank : scope.names.lookup (Str.ofString "") = none
  calm : X.calm = true
def blkS (X : Cx) (x : Str) (scope : Scope) (cl : List (Str × Addr)) (C : Addr) (s3 : Shared) (H3 : Hp) (fp : List Addr) : Cx :=
  { X with N := x :: X.N.map (ren x), s₀ := s3, H₀ := H3, env := compEnvC scope cl C X.env, outer := X.stack, ex := fp, fn := fun _ => false, pn := [], xe := fun _ _ => False }
section
variable {X : Cx} {elt iter : Expr} {x : Str} {px pos : Pos} {ifs : List Expr} {scope : Scope} {wi : TI} {tt : TT} {te : TE}
theorem lc_coreS {pins : List (Addr × Obj)} {σ : St} {H : Hp} {s : Shared} {E : Value → Shared → Prop} {Q : Value → Shared → Prop} {use : Option (Value → Sem Unit)} {QV : VK} (L : LcScopeS X x scope) (I : Inv X pins σ H s)
    (hi : wpAny (model X.prog X.w) X.A (eval iter X.env) (fun v s1 => wpAny (model X.prog X.w) X.A (pyIter v) (PIE X pins σ (.Name x px) (fun J H1 => ∀ D, H1 D = none → ∃ W : Nat → Nat → List V → Hp → Prop, (∃ m, W 0 m [] (upd H1 D (.lst []))) ∧ ∀ i m ys H', W i m ys H' → H' D = some (.lst ys) ∧
  ((J.stop i H' ∧ QV (.ref D) H') ∨ (J.go i H' ∧ ∀ v H2, J.yld i H' v H2 → tt (some v :: σ) H2 fun b H3 =>
    if b = true then te (some v :: σ) H3 fun y H4 => H4 D = some (.lst ys) ∧ ys.length < sizeLine ∧ ∃ m', m' < m ∧ W (i + 1) m' (ys ++ [y]) (upd H4 D (.lst (ys ++ [y]))) else ∃ m', m' < m ∧ W (i + 1) m' ys H3)))) E s1) E s)
    (ht : ∀ cl C s3 H3 fp, PTs (blkS X x scope cl C s3 H3 fp) ifs tt) (he : ∀ cl C s3 H3 fp, PE (blkS X x scope cl C s3 H3 fp) elt te)
    (hs : ∀ x, foldedSetIterable iter X.env x = pure x)
    (fin : ∀ (D C : Addr) (H' : Hp) (s' : Shared) (m : Str → Option Value), Inv X pins σ H' s' → FpOk X pins H' C → s'.heap.Ns C m → QV (.ref D) H' → compPost (model X.prog X.w) X.A E use Q (.ref D) C (.ok .next) s') :
    wpAny (model X.prog X.w) X.A (comprehension (.ListComp elt [⟨.Name x px, iter, ifs, 0⟩] scope pos) scope X.env (firstIterPos [⟨.Name x px, iter, ifs, 0⟩] pos) (newList []) false (eval iter X.env) use) Q E s := by
  obtain ⟨cl, hcl, cl1, cl2⟩ := closure_of (env := X.env) (scope := scope) (fun y hy hf => I.ok.has y.1 (.inl (L.free y hy hf)))
  refine wpAny_comprehension_free (use := use) rfl hs hcl L.kind L.names (wpAny_mono hi (fun xv s₁ h₁ => wpAny_mono h₁ (fun it s2 h₂ => ?_) fun _ _ e => e) fun _ _ e => e)
  obtain ⟨it, fp, tn, J, H2, rfl, I2, T, st2, f2, hW⟩ := h₂
  have fr2 : H2 s2.heap.objs.size = none := I2.hok.fresh (Nat.le_refl _)
  obtain ⟨W, ⟨m0, w0⟩, turn⟩ := hW _ fr2
  refine wpAny_newObj_type ?_
  have I3 : Inv X pins σ (upd H2 s2.heap.objs.size (.lst [])) { s2 with heap := s2.heap.push { cls := .type "list", dict := none, data := .seq ([] : List Value).toArray } } :=
    I2.laid (t' := s2.toks) (o := .lst []) (fun b ob q => Heap.get?_push_of_some _ q) (Nat.le_refl _) ⟨Nat.zero_le _, [], 0, .nil, Heap.get?_push_size _ rfl⟩
  generalize hD : s2.heap.objs.size = D at I3 turn w0 fr2 ⊢
  generalize hH3 : upd H2 D (.lst []) = H3 at I3 w0
  generalize hs3 : ({ s2 with heap := s2.heap.push { cls := .type "list", dict := none, data := .seq ([] : List Value).toArray } } : Shared) = s3 at I3 ⊢
  have k23 : ∀ b o, s2.heap.get? b = some o → s3.heap.get? b = some o := fun b o e => by rw [← hs3]; exact Heap.get?_push_of_some _ e
  have os3 : s3.os = s2.os := by rw [← hs3]
  have fpD : ∀ b ∈ fp, b ≠ D := fun b hb z => by
    obtain ⟨o, e, _⟩ := T.obj _ _ st2 b hb
    exact absurd (Heap.lt_size e) (by rw [z, ← hD]; exact Nat.lt_irrefl _)
  have f3 : ∀ b ∈ fp, FpOk X pins H3 b := fun b hb => ⟨by rw [← hH3, upd_ne (fpD b hb)]; exact (f2 b hb).1, (f2 b hb).2⟩
  have st3 : tn 0 s3.heap := T.keep _ _ _ st2 fun b hb o e => k23 b o e
  refine wpAny_newFunctionEnv L.cell (fun y hy => by simp at hy) (fun h₁ hns₁ hsb₁ => ?_) L.kind
  generalize hC : s3.heap.objs.size = C at hns₁ hsb₁ ⊢
  have k34 : ∀ b o, s3.heap.get? b = some o → h₁.get? b = some o := fun b o e => hsb₁.extBut b o (by rintro rfl; exact absurd (Heap.lt_size e) (by rw [hC]; exact Nat.lt_irrefl _)) (Heap.get?_push_of_some _ e)
  -- the block's context
  let X' : Cx := blkS X x scope cl C s3 H3 fp
  have relab : ∀ y, X'.env.scope.names.lookup y = (scope.names.lookup y).map fun k => if (k == NameKind.free && X.env.scope.kind == .function && X.env.kindOf y == some .cell) then NameKind.cell else k := fun y => relabel_lookup y scope.names
  have visC : ∀ y, (X'.env.kindOf y = some .cell ∨ X'.env.kindOf y = some .free) → scope.names.lookup y = some .free := fun y hy => by
    have e := relab y
    have hy : X'.env.scope.names.lookup y = some .cell ∨ X'.env.scope.names.lookup y = some .free := hy
    rw [e] at hy
    cases q : scope.names.lookup y with
    | none => rw [q] at hy; simp at hy
    | some k =>
      rw [q] at hy
      simp only [Option.map_some, Option.some.injEq] at hy
      by_cases hf : k = .free
      · rw [hf]
      · have hb : (k == NameKind.free) = false := by simpa using hf
        simp only [hb, Bool.false_and, Bool.false_eq_true, if_false] at hy
        rcases hy with rfl | rfl
        · exact absurd rfl (L.cell _ (PySem.mem_of_lookup q))
        · exact absurd rfl hf
  have okX' : X'.Ok := by
    refine ⟨I3.ok.mod, ?_, I3.ok.glob, I3.ok.blt, ?_, ?_, ?_, ?_, I3.ok.hd, I3.ok.frames, .inl rfl, ?_, ?_, ?_, ?_, ?_, ?_, ?_⟩
    · show (relabel scope X.env).kind = .function
      exact L.kind
    · show s3.heap.objs.size ≤ C
      exact Nat.le_of_eq hC
    · exact fun a b c h1 h2 => I3.ok.inj a b c (cl1 a c h1) (cl1 b c h2)
    · exact fun y hy => cl2 (y, .free) (PySem.mem_of_lookup (visC y hy)) rfl
    · exact fun y c hf => by cases hf
    · refine fun b hb => ⟨?_, fun y c e z => (f3 b hb).2.2.2.2.1 y c (cl1 y c e) z⟩
      show b ≠ C
      intro z
      obtain ⟨o, e, _⟩ := T.obj _ _ st3 b hb
      exact absurd (Heap.lt_size e) (by rw [z, ← hC]; exact Nat.lt_irrefl _)
    · exact fun b o e => I3.bs b o e
    · exact Nat.le_trans I3.ok.bsz I3.sz
    · intro b o e hb
      rcases (f3 b hb).2.2.2.1 with z | z
      · exact I3.ok.noex b o e z
      · exact absurd (Nat.lt_of_lt_of_le (Heap.lt_size e) (Nat.le_trans I3.ok.bsz z)) (Nat.lt_irrefl _)
    · intro b hb z
      rcases List.mem_cons.mp (I3.stkSub b z) with e | e
      · exact (f3 b hb).2.1 e
      · exact (f3 b hb).2.2.1 e
    · exact I3.stack
    · exact I3.stkFree
  have hfreeC : H3 C = none := I3.hok.fresh (Nat.le_of_eq hC)
  have I4 : Inv X' [] (none :: σ) H3 { s3 with heap := h₁, toks := s3.toks + ([] : List (Str × Value)).length } := by
    refine ⟨okX', rfl, I3.bare, Un.kept k34, ⟨_, hns₁, ?_⟩, ?_, hfreeC, ?_, fun p hp => absurd (show p ∈ ([] : List (Addr × Obj)) from hp) (by simp), I3.hok.kept k34, ?_⟩
    · intro i y v e1 e2 e3
      cases i with
      | zero => simp at e2
      | succ j =>
        have e1 : (X.N.map (ren x))[j]? = some y := by simpa using (show (x :: X.N.map (ren x))[j + 1]? = some y from e1)
        have e2 : σ[j]? = some (some v) := by simpa using e2
        have hyN : y ∈ X.N.map (ren x) := List.mem_of_getElem? e1
        have hfr : scope.names.lookup y = some .free := by
          rcases e3 with e3 | e3 | e3
          · rw [relab y] at e3
            cases q : scope.names.lookup y with
            | none => rw [q] at e3; simp at e3
            | some k =>
              rw [q] at e3
              simp only [Option.map_some, Option.some.injEq] at e3
              by_cases hf : k = .free
              · rw [hf]
              · have hb : (k == NameKind.free) = false := by simpa using hf
                simp only [hb, Bool.false_and, Bool.false_eq_true, if_false] at e3
                exact absurd (by rw [q, e3]) (L.out y hyN)
          · exact visC y (.inl e3)
          · exact visC y (.inr e3)
        have e1 : X.N[j]? = some y := by
          rw [List.getElem?_map] at e1
          cases q0 : X.N[j]? with
          | none => rw [q0] at e1; cases e1
          | some y0 =>
            rw [q0] at e1
            have e1 : ren x y0 = y := Option.some.inj e1
            unfold ren at e1
            split at e1
            · rw [← e1, L.blank] at hfr; cases hfr
            · rw [e1]
        have hkc := L.free (y, .free) (PySem.mem_of_lookup hfr) rfl
        have hkc : X.env.kindOf y = some .cell := hkc
        obtain ⟨mX, _, hlX⟩ := I3.loc
        obtain ⟨u, r, l⟩ := hlX j y v e1 e2 (.inr (.inl hkc))
        refine ⟨u, r, ?_⟩
        rcases l with ⟨l, _⟩ | ⟨_, c, hc, hcell⟩
        · rw [hkc] at l; cases l
        · obtain ⟨c', hc'⟩ := cl2 (y, .free) (PySem.mem_of_lookup hfr) rfl
          have hc' : cl.lookup y = some c' := hc'
          have := cl1 y c' hc'
          rw [hc] at this
          cases this
          refine .inr ⟨?_, c, hc', ?_⟩
          · rcases e3 with e3 | e3 | e3
            · rw [relab y, hfr] at e3
              simp only [Option.map_some, Option.some.injEq] at e3
              split at e3 <;> cases e3
            · exact .inl e3
            · exact .inr e3
          · obtain ⟨o, ho, hd⟩ := hcell
            exact ⟨o, k34 _ _ ho, hd⟩
    · intro y c e
      obtain ⟨v, o, ho, hd⟩ := I3.cell y c (cl1 y c e)
      exact ⟨v, o, k34 _ _ ho, hd⟩
    · exact fun y c e => I3.freeC y c (cl1 y c e)
    · show (none :: σ).length = (x :: X.N.map (ren x)).length
      rw [List.length_cons, List.length_cons, List.length_map, I3.len]
  have st4 : tn 0 h₁ := T.keep _ _ _ st3 fun b hb o e => k34 b o e
  have stat : ∀ {H' : Hp}, (∀ b ∈ fp, H' b = none) → ∀ b ∈ fp, FpOk X' [] H' b := fun hn b hb => by
    refine ⟨hn b hb, (okX'.exf b hb).1, okX'.exfs b hb, .inl hb, (okX'.exf b hb).2, fun p hp => absurd (show p ∈ ([] : List (Addr × Obj)) from hp) (by simp)⟩
  have hNd : X'.N.Nodup := List.nodup_cons.mpr ⟨L.xN, L.nd⟩
  have hvar : X'.env.scope.names.lookup x = some .local := by
    rw [relab x, L.var]
    rfl
  have loop : ∀ s4 : Shared, s4 = { s3 with heap := h₁, toks := s3.toks + ([] : List (Str × Value)).length } →
      codeAny (model X.prog X.w) X.A (.compLoop (.ListComp elt [⟨.Name x px, iter, ifs, 0⟩] scope pos) 0 (.ref it) (.ref D) X'.env) (compPost (model X.prog X.w) X.A E use Q (.ref D) C) s4 := by
    rintro s4 rfl
    refine compLoop_go (fun n s' => ∃ i ys o H', Inv X' [] (o :: σ) H' s' ∧ tn i s'.heap ∧ (∀ b ∈ fp, H' b = none) ∧ W i n ys H') ?_ m0 ⟨0, [], none, H3, I4, st4, fun b hb => (f3 b hb).1, w0⟩
    rintro n s5 ⟨i, ys, o, H5, I5, st5, fr5, w5⟩
    obtain ⟨hD5, turn5⟩ := turn i n ys H5 w5
    rcases turn5 with ⟨stop, qn⟩ | ⟨go, step⟩
    · refine wpAny_mono (T.done X' rfl rfl rfl L.calm i [] s5 (o :: σ) H5 (fun _ _ => False) I5 (stat fr5) st5 stop) (fun r s6 h6 => ?_) fun _ _ z => z
      obtain ⟨rfl, I6⟩ := h6
      have un6 : Un (frs X.stack) fp H3 H5 s3.heap s6.heap := I6.base
      have IX : Inv X pins σ H5 s6 := I3.call' I6.os un6 I6.hok I6.bare fun b hb => ⟨(f3 b hb).2.2.2.1, (f3 b hb).2.1, (f3 b hb).2.2.2.2.1, (f3 b hb).2.2.2.2.2⟩
      obtain ⟨mC, hnC, _⟩ := I6.loc
      exact fin D C H5 s6 mC IX (I3.fpOk (H' := H5) (Nat.le_of_eq hC) I6.free) hnC qn
    · refine wpAny_mono (T.item X' rfl rfl rfl L.calm i [] s5 (o :: σ) H5 (fun _ _ => False) I5 (stat fr5) st5 go) (fun r s6 h6 => ?_) fun _ _ z => z.elim
      obtain ⟨u, rfl, h6⟩ := h6
      refine wpAny_mono h6 (fun _ s6 h6 => ?_) fun _ _ z => z
      obtain ⟨v, H6, I6, r6, y6, st6, fr6⟩ := h6
      have I6' := I6.pinned (stat fr6) (T.obj _ _ st6)
      have hv6 := step v H6 y6
      show wpAny (model X'.prog X'.w) X'.A (assign (.Name x px) X'.env u) _ _ s6
      refine wpAny_mono (Q := fun _ s7 => Inv X' ([] ++ pinsAt fp s6.heap) (some v :: σ) H6 s7) (E := fun _ _ => False) (wpAny_assign_Name (store_ok I6' hNd (i := 0) rfl (.inl hvar) r6 (fun s7 I7 => (show Inv X' ([] ++ pinsAt fp s6.heap) (some v :: σ) H6 s7 from I7)) (.inr hvar))) (fun _ s7 I7 => ?_) fun _ _ z => z.elim
      refine wpAny_mono ((ht cl C s3 H3 fp) _ s7 _ H6 _ I7 hv6) (fun b s8 h8 => ?_) fun _ _ z => z.elim
      obtain ⟨H8, I8, q8⟩ := h8
      have done : ∀ {ys' : List V} {H9 : Hp} {s9 : Shared} {n' : Nat}, Inv X' ([] ++ pinsAt fp s6.heap) (some v :: σ) H9 s9 → W (i + 1) n' ys' H9 → ∃ i ys o H', Inv X' [] (o :: σ) H' s9 ∧ tn i s9.heap ∧ (∀ b ∈ fp, H' b = none) ∧ W i n' ys H' := fun {ys' H9 s9 n'} I9 w9 => by
        refine ⟨i + 1, ys', some v, H9, I9.unpinned, T.keep _ _ _ st6 fun b hb o e => (I9.pin (b, o) (List.mem_append_right _ (List.mem_append_right _ (mem_pinsAt hb e)))).1, fun b hb => ?_, w9⟩
        obtain ⟨o, e, d⟩ := T.obj _ _ st6 b hb
        exact (I9.pin (b, o) (List.mem_append_right _ (List.mem_append_right _ (mem_pinsAt hb e)))).2.1
      cases b with
      | false =>
        have q8 : ∃ m', m' < n ∧ W (i + 1) m' ys H8 := q8
        obtain ⟨m', hm, w8⟩ := q8
        exact ⟨m', hm, done I8 w8⟩
      | true =>
        have q8 : te (some v :: σ) H8 _ := q8
        refine wpAny_mono ((he cl C s3 H3 fp) _ s8 _ H8 _ I8 q8) (fun yv s9 h9 => ?_) fun _ _ z => z.elim
        obtain ⟨y, H9, I9, r9, hD9, hz9, m', hm, w9⟩ := h9
        refine wpAny_mono (mt_append (X := X') _ s9 _ H9 (.ref D) [y] (.ref D) [yv] (fun v' H' => v' = .non ∧ H' = upd H9 D (.lst (ys ++ [y]))) I9 rfl (.cons r9 .nil) ⟨D, ys, y, rfl, rfl, hD9, hz9, rfl, rfl⟩) (fun _ s10 h10 => ?_) fun _ _ z => z.elim
        obtain ⟨_, H10, I10, _, _, rfl⟩ := h10
        exact ⟨m', hm, done I10 w9⟩
  exact codeAny_compStart_list (loop _ rfl) (T.self _ 0 _ _ _ st4 (loop _ rfl))


theorem lcsS {N : List Str} {sc scope : Scope} (e1 : X.N = N) (e2 : X.env.scope = sc) (c : X.calm = true)
    (h : x ∉ N.map (ren x) ∧ (N.map (ren x)).Nodup ∧ scope.kind = .function ∧ (∀ y ∈ scope.names, y.2 ≠ .cell) ∧ (∀ y ∈ scope.names, y.2 = .local → scope.names.lookup y.1 = some .local) ∧ scope.names.lookup x = some .local ∧
      (∀ y ∈ scope.names, y.2 = .free → sc.names.lookup y.1 = some .cell) ∧ (∀ y ∈ N.map (ren x), scope.names.lookup y ≠ some .local) ∧ scope.names.lookup (Str.ofString "") = none) : LcScopeS X x scope := by
  subst e1 e2
  obtain ⟨h1, h2, h3, h4, h5, h6, h7, h8, h9⟩ := h
  exact ⟨h1, h2, h3, h4, h5, h6, h7, h8, h9, c⟩
end
end L2

set_option Elab.async false
set_option linter.all false
set_option maxRecDepth 100000
namespace L2
open PySem PySem.Spec PyProof.Rows
section
variable {X : Cx}

def rMulL : R2 := fun x y H Q => ∃ (a : Addr) (xs : List V) (n : Int), x = .ref a ∧ y = .int n ∧ H a = some (.lst xs) ∧ 0 ≤ n ∧ n ≤ 100000 ∧ xs.length * n.toNat ≤ 16777216 ∧ ∀ p, H p = none → Q (.ref p) (upd H p (.lst (List.replicate n.toNat xs).flatten))
def rIsB : R2 := fun x y H Q => ∃ c, y = .bl c ∧ ((∃ b, x = .bl b ∧ Q (.bl (b == c)) H))
def rIsNotB : R2 := fun x y H Q => ∃ c, y = .bl c ∧ ((∃ b, x = .bl b ∧ Q (.bl (!(b == c))) H))
def rAllB : List V → Hp → VK → Prop := fun xs H Q => ∃ (p : Addr) (bs : List Bool), xs = [.ref p] ∧ H p = some (.lst (bs.map V.bl)) ∧ Q (.bl (bs.all id)) H
theorem vals_bl : ∀ {bs : List Bool} {us : List Value}, Vals (bs.map V.bl) us → us = bs.map Value.bool
  | [], _, h => by cases h; rfl
  | b :: bs, _, h => by
    cases h with
    | cons a r =>
      cases a
      rw [vals_bl r]
      rfl
theorem call_allB (hc : X.calm = true) : CallR X (.builtin "all") rAllB := by
  intro pins s σ H xs us Q I r h
  obtain ⟨p, bs, rfl, hp, q⟩ := h
  obtain ⟨u, rfl, hu⟩ := vals1 r
  cases hu
  obtain ⟨its, rv, hl⟩ := lst_at I hp
  have e := vals_bl rv
  subst e
  have hlt : p < s.heap.objs.size := by
    obtain ⟨o, ho, _⟩ := hl
    exact Heap.lt_size ho
  refine call_all_walk (wpAny_pyIter_list hl ?_)
  refine ⟨s.heap.objs.size, _, _, _, _, _, fun i => bs.getD i false, rfl, Walks.list (A := X.A.in1) (I.ok.hd hc) _ p (Nat.ne_of_lt hlt) (bs.map Value.bool).toArray, ⟨⟨_, Heap.get?_push_size _ rfl, rfl, rfl⟩, ?_⟩, ?_, fun h' tk kp => ?_⟩
  · obtain ⟨o, ho, h1⟩ := hl
    exact ⟨o, Heap.get?_push_of_some _ ho, h1⟩
  · intro i v s' R E' hv hR
    have hv : (bs.map Value.bool)[i]? = some v := by simpa using hv
    rw [List.getElem?_map] at hv
    cases hb : bs[i]? with
    | none => rw [hb] at hv; cases hv
    | some b =>
      rw [hb] at hv
      cases hv
      have hR : R (bs.getD i false) s' := hR
      rw [List.getD_eq_getElem?_getD, hb] at hR
      exact wpAny_truthy_bool hR
  · have I1 : Inv X pins σ H { s with heap := h', toks := tk } := I.kept fun b o e => kp b o (by
      have := Heap.lt_size e
      intro z
      rw [List.mem_singleton.mp z] at this
      exact Nat.lt_irrefl _ this) (Heap.get?_push_of_some _ e)
    refine ⟨.bl (bs.all id), H, I1, ?_, q⟩
    show Value.bool _ = Value.bool _
    congr 1
    rw [show (bs.map Value.bool).toArray.size = bs.length by simp]
    rw [Bool.eq_iff_iff, List.all_eq_true, List.all_eq_true]
    constructor
    · intro h x hx
      obtain ⟨n, hn, rfl⟩ := List.mem_iff_getElem.mp hx
      have := h n (List.mem_range.mpr hn)
      rw [List.getD_eq_getElem?_getD, List.getElem?_eq_getElem hn] at this
      exact this
    · intro h n hn
      have hn := List.mem_range.mp hn
      rw [List.getD_eq_getElem?_getD, List.getElem?_eq_getElem hn]
      exact h _ (List.getElem_mem hn)
end
end L2
namespace L2
open PySem PySem.Spec PyProof.Rows
section
variable {X : Cx}

def rEqTS : R2 := fun x y H Q => (∃ (a : Addr) (xs : List V) (z : Str), x = .ref a ∧ y = .str z ∧ H a = some (.tup xs) ∧ Q (.bl false) H) ∨ ∃ l m : List Nat, x = .str (S l) ∧ y = .str (S m) ∧ Q (.bl (decide (l = m))) H
end
end L2

set_option Elab.async false
set_option linter.all false
set_option maxRecDepth 100000
namespace L2
open PySem PySem.Spec PyProof.Rows

def pdV : V → Option PyData
  | .non => some .none
  | .bl b => some (.bool b)
  | .int i => some (.int i)
  | .str x => some (.str x)
  | _ => none
def pdVs : List V → Option (List PyData)
  | [] => some []
  | v :: r => match pdV v, pdVs r with
    | some d, some ds => some (d :: ds)
    | _, _ => none
inductive PdA (H : Hp) : Addr → PyData → Prop
  | lst {a xs ds} : H a = some (.lst xs) → pdVs xs = some ds → PdA H a (.list ds)
  | tup {a xs ds} : H a = some (.tup xs) → pdVs xs = some ds → PdA H a (.tuple ds)
  | dct {a} {kvs : List (Key × V)} {ks vs : List PyData} : H a = some (.dK kvs) → pdVs (kvs.map fun e => kV e.1) = some ks → pdVs (kvs.map fun e => e.2) = some vs → PdA H a (.dict (ks.zip vs))
theorem PdA.mono {H H' : Hp} {a : Addr} {d : PyData} (h : PdA H a d) (g : Same H H') : PdA H' a d := by
  cases h with
  | lst h e => exact .lst (g _ _ h) e
  | tup h e => exact .tup (g _ _ h) e
  | dct h e k => exact .dct (g _ _ h) e k
def PdT (H : Hp) (x : V) (d : PyData) : Prop := pdV x = some d ∨ ∃ a, x = .ref a ∧ PdA H a d
theorem PdT.mono {H H' : Hp} {x : V} {d : PyData} (h : PdT H x d) (g : Same H H') : PdT H' x d := by
  rcases h with h | ⟨a, e, h⟩
  · exact .inl h
  · exact .inr ⟨a, e, h.mono g⟩
def rRepr : List V → Hp → VK → Prop := fun xs H Q => ∃ (x : V) (d : PyData), xs = [x] ∧ PdT H x d ∧ d.showable = true ∧ d.shown.length ≤ sizeLine ∧ Q (.str d.shown) H
theorem bb_all : bootBuiltins "all" = some (.builtin "all") := by decide +kernel
section
variable {X : Cx} {a b c : Expr} {ta tb tc : TE} {pos : Pos}
end
end L2

set_option Elab.async false
set_option linter.all false
set_option maxRecDepth 100000
namespace L2
open PySem PySem.Spec PyProof.Rows
section
variable {X : Cx}

def rMulT : R2 := fun x y H Q => ∃ (a : Addr) (xs : List V) (n : Int), x = .ref a ∧ y = .int n ∧ H a = some (.tup xs) ∧ xs ≠ [] ∧ 2 ≤ n ∧ n ≤ 100000 ∧ xs.length * n.toNat ≤ 16777216 ∧ ∀ p, H p = none → Q (.ref p) (upd H p (.tup (List.replicate n.toNat xs).flatten))
end
end L2
namespace L2
open PySem PySem.Spec PyProof.Rows
def IsRevT (h : Heap) (a l : Addr) (i : Int) : Prop := ∃ o, h.get? a = some o ∧ o.cls = .type "reversed" ∧ o.data = .fields #[.ref l, rawInt i]
section
variable {prog : Program} {w : World} {A : Around} {E : Value → Shared → Prop} {s : Shared}
theorem IsRevT.typeIs {a l : Addr} {i : Int} (x : IsRevT s.heap a l i) : s.TypeIs (.ref a) "reversed" := let ⟨o, ho, hc, _⟩ := x; ⟨o, ho, hc⟩
theorem IsRevT.at {h h' : Heap} {a l : Addr} {i : Int} (x : IsRevT h a l i) (e : ∀ o, h.get? a = some o → h'.get? a = some o) : IsRevT h' a l i := let ⟨o, ho, r⟩ := x; ⟨o, e _ ho, r⟩
end
section
variable {X : Cx} {tg : Expr}

def ItRT (K : PySem.W.Frag) (a : Addr) (n : Nat) : It :=
  ⟨fun i H => ∃ xs x, SqT K H a xs ∧ xs.length = n ∧ xs.reverse[i]? = some x, fun i H x H' => H' = H ∧ ∀ xs, SqT K H a xs → xs.reverse[i]? = some x, fun i _ => i = n⟩
def ItRL (K : PySem.W.Frag) (a : Addr) (n : Nat) : It :=
  ⟨fun i H => ∃ xs x, SqL K H a xs ∧ xs.length = n ∧ xs.reverse[i]? = some x, fun i H x H' => H' = H ∧ ∀ xs, SqL K H a xs → xs.reverse[i]? = some x, fun i _ => i = n⟩
theorem turn_revL {P : Program} {w : World} {K : PySem.W.Frag} {tg : Expr} (a it : Addr) (n : Nat) : Turn P w K tg (ItRL K a n) [it] it (fun i h => h.IsRevIter it a ((n : Int) - 1 - (i : Int))) where
  mem := by simp
  obj := fun i h st b hb => by
    have e : b = it := by simpa using hb
    subst e
    obtain ⟨o, e, c, d⟩ := st
    exact ⟨o, e, fun v z => by rw [d] at z; cases z⟩
  keep := fun i h h' st k => st.at fun o e => k it (by simp) o e
  item := by
    intro X hP hw hK hc i pins s σ H E I hf st hg
    subst hP hw hK
    obtain ⟨xs, x, hq, hn, hx⟩ := hg
    obtain ⟨its, rv, p, hz⟩ := I.list hq
    have hlen := rv.length
    have hil : i < xs.length := by
      have := (List.getElem?_eq_some_iff.mp hx).1
      rwa [List.length_reverse] at this
    have hx2 : xs[xs.length - 1 - i]? = some x := by rw [← List.getElem?_reverse hil]; exact hx
    obtain ⟨u, hu, ru⟩ := rv.get hx2
    obtain ⟨f0, f1, f2, f3, f4, f5⟩ := hf it (by simp)
    have ei : (n : Int) - 1 - (i : Int) = ((xs.length - 1 - i : Nat) : Int) := by omega
    rw [ei] at st
    refine wpAny_pyNext_rev_item st p.isList (x := u) (by simpa using hu) fun h' st' sb => ?_
    have I1 : Inv X pins σ H { s with heap := h' } := I.turned (t' := s.toks) (fun b o hb e => (sb.2 b hb).trans e) f0 f1 f3 f4 f5
    have e2 : ((xs.length - 1 - i : Nat) : Int) - 1 = (n : Int) - 1 - ((i + 1 : Nat) : Int) := by omega
    rw [e2] at st'
    obtain ⟨o, e, c, d⟩ := id st'
    exact ⟨u, rfl, go_of (s := { s with heap := h' }) e c d (by decide) ⟨x, H, I1, ru, ⟨rfl, fun ys hy => by rw [I.list_inj hy hq]; exact hx⟩, st', fun b hb => (hf b hb).1⟩⟩
  done := by
    intro X hP hw hK hc i pins s σ H E I hf st hg
    subst hP hw hK
    have hg : i = n := hg
    subst hg
    obtain ⟨f0, f1, f2, f3, f4, f5⟩ := hf it (by simp)
    rw [show (i : Int) - 1 - (i : Int) = -1 by omega] at st
    exact wpAny_pyNext_rev_end (I.ok.hd hc) st fun h' eb => ⟨rfl, I.turned (t' := s.toks) (fun b o hb e => eb b o hb e) f0 f1 f3 f4 f5⟩
  self := fun _ _ _ _ _ st h => wpAny_pyIter_revIter st h
theorem bb_reversed : bootBuiltins "reversed" = some (.type "reversed") := by decide +kernel
def iRevT (K : PySem.W.Frag) (ta : TA) : TI := fun σ H R => ta σ H fun vs H1 => ∃ l xs, vs = [.ref l] ∧ SqT K H1 l xs ∧ R (ItRT K l xs.length) H1
def iRevL (K : PySem.W.Frag) (ta : TA) : TI := fun σ H R => ta σ H fun vs H1 => ∃ l xs, vs = [.ref l] ∧ SqL K H1 l xs ∧ R (ItRL K l xs.length) H1
theorem pi_revL {a : Expr} {ta : TA} {p pos : Pos} {K : PySem.W.Frag} (hK : X.K = K) (hg : Gl X "reversed") (hm : X.mg "reversed" = none) (ha : PA X [a] ta) (hs : starEach [a] X.env = [(false, eval a X.env)] := by rfl) :
    PI X tg (.Call (.Name "reversed" p) [a] [] pos) (iRevL K ta) := by
  subst hK
  intro pins s σ H R I h
  refine Call_ (ld_blt I hg hm bb_reversed (PyProof.Rows.callWith_type1 (thn (ha pos pins s σ H _ I h) fun us s1 ⟨vs, H1, I1, r1, q1⟩ => ?_) hs rfl))
  obtain ⟨l, xs, e, hq, q⟩ := q1
  subst e
  obtain ⟨u, rfl, ru⟩ := r1.one
  cases ru
  obtain ⟨its, rv, pl, hz⟩ := I1.list hq
  have hlen := rv.length
  refine call_reversed_list pl.isList ?_
  have hit : (s1.heap.push (revObj l ((its.toArray.size : Int) - 1))).IsRevIter s1.heap.objs.size l ((xs.length : Int) - 1 - ((0 : Nat) : Int)) := ⟨_, Heap.get?_push_size _ rfl, rfl, by simp [revObj, hlen]⟩
  refine wpAny_pyIter_revIter (s := { s1 with heap := s1.heap.push (revObj l ((its.toArray.size : Int) - 1)) }) hit ?_
  refine ⟨s1.heap.objs.size, [s1.heap.objs.size], _, _, H1, rfl, I1.kept (t' := s1.toks) (fun b o e => Heap.get?_push_of_some _ e), turn_revL l _ xs.length, hit, fun b hb => ?_, q⟩
  have e : b = s1.heap.objs.size := by simpa using hb
  subst e
  exact I1.fpOk (Nat.le_refl _) (I1.hok.fresh (Nat.le_refl _))
theorem qi_revL {a : Expr} {ta : TA} {p pos : Pos} {K : PySem.W.Frag} (hK : X.K = K) (hg : Gl X "reversed") (hm : X.mg "reversed" = none) (ha : QA X [a] ta) (hs : starEach [a] X.env = [(false, eval a X.env)] := by rfl) :
    QI X tg (.Call (.Name "reversed" p) [a] [] pos) (iRevL K ta) := ⟨pi_revL hK hg hm ha.h hs⟩
theorem fb_revL {K : PySem.W.Frag} {a : Addr} {xs : List V} {g : TG} {tb : TS} {D : Ends} {σ : L2.St} {H : Hp} (Pv : Nat → L2.St → Hp → Prop) (h0 : Pv 0 σ H) (hl : ∀ i σ H, i ≤ xs.length → Pv i σ H → SqL K H a xs)
    (hs : ∀ i x σ H, xs.reverse[i]? = some x → Pv i σ H → g x σ H fun σ2 H2 => tb { D with nx := Pv (i + 1), ct := Pv (i + 1), bk := D.nx } σ2 H2) (hd : ∀ σ H, Pv xs.length σ H → D.nx σ H) : forBody (ItRL K a xs.length) g tb D σ H := by
  refine ⟨fun i m σ H => m = xs.length - i ∧ i ≤ xs.length ∧ Pv i σ H, ⟨xs.length, by simp, Nat.zero_le _, h0⟩, ?_⟩
  rintro i m σ H ⟨rfl, hi, p⟩
  have q := hl i σ H hi p
  by_cases hlt : i < xs.length
  · have hlt' : i < xs.reverse.length := by rw [List.length_reverse]; exact hlt
    refine .inr ⟨⟨xs, xs.reverse[i], q, rfl, List.getElem?_eq_getElem hlt'⟩, Pv (i + 1), fun σ' H' p' => ⟨xs.length - (i + 1), by omega, rfl, hlt, p'⟩, fun x H' y => ?_⟩
    obtain ⟨e, y⟩ := y
    subst e
    exact hs i x σ _ (y xs q) p
  · have e : i = xs.length := by omega
    subst e
    exact .inl ⟨rfl, hd σ H p⟩
end
end L2

set_option Elab.async false
set_option linter.all false
set_option maxRecDepth 100000
namespace L2
open PySem PySem.Spec PyProof.Rows

def repN (c : Nat) (z : List Nat) : List Nat → List Nat
  | [] => []
  | k :: r => (if k = c then z else [k]) ++ repN c z r
section
variable {X : Cx}

variable {st : Stmt} {rest : List Stmt} {t u : TS}
def tRepl (c : Nat) (z : List Nat) (to : TE) : TE := fun σ H Q => to σ H fun x H1 => ∃ l, x = .str (S l) ∧ l.length ≤ 100000 ∧ Q (.str (S (repN c z l))) H1

end
end L2

set_option Elab.async false
set_option linter.all false
set_option maxRecDepth 100000
namespace L2
open PySem PySem.Spec PyProof.Rows
section
variable {X : Cx} {pos : Pos}

theorem qg_sub {o i : Expr} {to ti : TE} {t : TSet} (ho : QE X o to) (hi : QE X i ti) (hs : PSet X t)
    (ha : ∀ v, assign (.Subscript o i pos) X.env v = (do
      let ov ← holding [v] (eval o X.env)
      let iv ← holding [v, ov] (eval i X.env)
      standAt pos
      holding [v, ov, iv] (setItem ov iv v)
      release [v, ov, iv] [])) : QG X (.Subscript o i pos) (gSub to ti t) := ⟨pg_sub (ho := ho.h) (hi := hi.h) (hs := hs) (ha := ha)⟩
end

def hide (st : Addr) (H : Hp) : Hp := fun b => if b = st then none else H b
theorem hide_ne {st b : Addr} {H : Hp} (h : b ≠ st) : hide st H b = H b := if_neg h
theorem hide_st {st : Addr} {H : Hp} : hide st H st = none := if_pos rfl
theorem hide_mono {st : Addr} {H H' : Hp} (g : Same H H') : Same (hide st H) (hide st H') := fun b o h => by
  by_cases e : b = st
  · rw [e, hide_st] at h; cases h
  · rw [hide_ne e] at h ⊢; exact g _ _ h
def Sd (K : PySem.W.Frag) (st a : Addr) (ns : List Int) (H : Hp) : Prop := (∃ n : Nat, H st = some (.lst [.ref a, .int n])) ∧ SqL K (hide st H) a (ns.map V.int) ∧ ns.length ≤ 63
def Dr (st a : Addr) (H H' : Hp) : Prop := Same (hide st H) (hide st H') ∧ ∃ n : Nat, H' st = some (.lst [.ref a, .int n])
theorem Dr.trans {st a : Addr} {H H1 H2 : Hp} (h : Dr st a H H1) (k : Dr st a H1 H2) : Dr st a H H2 := ⟨h.1.trans k.1, k.2⟩
theorem Sd.same {K : PySem.W.Frag} {st a : Addr} {ns : List Int} {H H' : Hp} (h : Sd K st a ns H) (g : Same H H') : Dr st a H H' := by
  obtain ⟨⟨n, hn⟩, _⟩ := h
  exact ⟨hide_mono g, n, g _ _ hn⟩
theorem Sd.refl {K : PySem.W.Frag} {st a : Addr} {ns : List Int} {H : Hp} (h : Sd K st a ns H) : Dr st a H H := h.same (Same.refl H)
theorem Sd.put {K : PySem.W.Frag} {st a : Addr} {ns : List Int} {H : Hp} {n : Nat} (h : Sd K st a ns H) : Dr st a H (upd H st (.lst [.ref a, .int n])) :=
  ⟨fun b o hb => by
    by_cases e : b = st
    · rw [e, hide_st] at hb; cases hb
    · rw [hide_ne e] at hb ⊢; rw [upd_ne e]; exact hb, n, upd_same⟩
theorem Sd.ne {K : PySem.W.Frag} {st a p : Addr} {ns : List Int} {H : Hp} (h : Sd K st a ns H) (hp : H p = none) : p ≠ st := by
  obtain ⟨⟨n, hn⟩, _⟩ := h
  rintro rfl
  rw [hn] at hp
  cases hp

theorem Sd.new {K : PySem.W.Frag} {st a p : Addr} {ns : List Int} {H : Hp} {o : HO} (h : Sd K st a ns H) (hp : H p = none) : Dr st a H (upd H p o) ∧ hide st (upd H p o) p = some o := ⟨h.same (same_upd hp), by rw [hide_ne (h.ne hp)]; exact upd_same⟩
end L2

set_option Elab.async false
set_option linter.all false
set_option maxRecDepth 100000
namespace L2
open PySem PySem.Spec PyProof.Rows

theorem slicePick_rev (items : Array Value) : slicePick items none none (some (-1)) = items.toList.reverse.toArray := by
  have e : sliceBounds none none (some (-1)) items.size = ((items.size : Int) - 1, -1, -1) := by
    simp only [sliceBounds, Option.getD_some]
    rfl
  unfold slicePick
  rw [e]
  congr 1
  have hc : sliceRange ((items.size : Int) - 1) (-1) (-1) = (List.range items.size).map fun k => items.size - 1 - k := by
    unfold sliceRange
    simp only [show ¬ ((-1 : Int) > 0) by decide, if_false]
    have hn : (if (items.size : Int) - 1 > -1 then ((items.size : Int) - 1 - -1 - -1 - 1) / (- -1) else 0).toNat = items.size := by
      split
      · have : ((items.size : Int) - 1 - -1 - -1 - 1) / (- -1) = items.size := by
          rw [show (- -1 : Int) = 1 from rfl, Int.ediv_one]; omega
        rw [this]; simp
      · have : items.size = 0 := by omega
        rw [this]; rfl
    rw [hn]
    refine List.map_congr_left fun k hk => ?_
    have := List.mem_range.mp hk
    omega
  rw [hc]
  clear hc e
  obtain ⟨xs⟩ := items
  simp only [List.size_toArray, List.getElem?_toArray]
  rw [List.filterMap_map]
  have : ∀ (n : Nat) (hn : n ≤ xs.length), (List.range n).filterMap (fun k => xs[xs.length - 1 - k]?) = (xs.drop (xs.length - n)).reverse := by
    intro n
    induction n with
    | zero => intro _; simp
    | succ n ih =>
      intro hn
      rw [List.range_succ, List.filterMap_append, ih (by omega)]
      have hlt : xs.length - 1 - n < xs.length := by omega
      have hd : xs.drop (xs.length - (n + 1)) = xs[xs.length - 1 - n] :: xs.drop (xs.length - n) := by
        rw [show xs.length - (n + 1) = xs.length - 1 - n by omega, List.drop_eq_getElem_cons hlt, show xs.length - 1 - n + 1 = xs.length - n by omega]
      rw [hd, List.reverse_cons]
      congr 1
      simp [List.getElem?_eq_getElem hlt]
  have h := this xs.length (Nat.le_refl _)
  simp only [Nat.sub_self, List.drop_zero] at h
  exact h
section
variable {X : Cx} {e : Expr} {te : TE} {pos p2 : Pos} {K : PySem.W.Frag}
def tRevS (K : PySem.W.Frag) (te : TE) : TE := fun σ H Q => te σ H fun x H1 => ∃ a xs, x = .ref a ∧ SqL K H1 a xs ∧ ∀ p, H1 p = none → Q (.ref p) (upd H1 p (.lst xs.reverse))
theorem vals_rev {xs : List V} {us : List Value} (h : Vals xs us) : Vals xs.reverse us.reverse := by
  induction h with
  | nil => exact .nil
  | cons r _ ih =>
    rw [List.reverse_cons, List.reverse_cons]
    exact ih.append (.cons r .nil)
theorem pe_revS {st : Expr} (he : PE X e te) (hst : PO X (some st) (fun _ H Q => Q (some (-1)) H)) : PE X (.Subscript e (.Slice none none (some st) p2) pos) (tRevS X.K te) := by
  intro pins s σ H Q I h
  refine Subscript_ (thn (he pins s σ H _ I h) fun v s1 ⟨x, H1, I1, r1, q1⟩ => ?_)
  obtain ⟨a, xs, rfl, hx, q⟩ := q1
  refine wpAny_Slice ?_
  rw [evalPart_none]
  refine wpAny_pure (wpAny_pure (thn (hst pins s1 σ H1 (fun o H' => o = some (-1) ∧ H' = H1) I1 ⟨rfl, rfl⟩) fun vs s3 ⟨o, H3, I3, ps, hq⟩ => ?_))
  obtain ⟨rfl, rfl⟩ := hq
  have I4 : Inv X pins σ H3 { s3 with heap := s3.heap.push { cls := .type "slice", data := .fields #[.none, .none, vs] } } := I3.kept (t' := s3.toks) fun b ob q => Heap.get?_push_of_some _ q
  cases r1
  obtain ⟨its, r, ht, hz⟩ := I4.list hx
  have hlen := r.length
  show wpAny (model X.prog X.w) X.A (subscriptTail e (.Slice none none (some st) p2) (.ref a) (.ref s3.heap.objs.size)) (EP X pins σ Q) X.xe { s3 with heap := s3.heap.push { cls := .type "slice", data := .fields #[.none, .none, vs] } }
  refine tail_any (ops := [.ref a, .ref s3.heap.objs.size]) ht.isList.typeIs PySem.F.slot_list_getitem.lookup ?_ (by with_unfolding_all rfl)
  refine wpAny_getItem_list_slice ht.isList (Heap.IsSliceOf.new ..) .none .none ps (by simp) ?_ (by rw [List.size_toArray] <;> omega)
  rw [slicePick_rev]
  refine ⟨.ref _, _, I4.laid (t' := s3.toks) (o := .lst xs.reverse) (fun b ob q => Heap.get?_push_of_some _ q) (Nat.le_refl _) ?_, rfl, q _ (I4.hok.fresh (Nat.le_refl _))⟩
  exact ⟨by rw [List.length_reverse]; exact hz, _, 0, vals_rev r, Heap.get?_push_size _ rfl⟩
theorem po_m1 {j p3 p4} : PO X (some (.UnaryOp .USub (.Constant (.int 1) j p3) p4)) (fun _ H Q => Q (some (-1)) H) := fun pins s σ H Q I h => po_some (pe_un un_neg pe_int) pins s σ H Q I ⟨1, rfl, -1, rfl, h⟩
theorem qe_revS {j p3 p4} (hK : X.K = K) (he : QE X e te) : QE X (.Subscript e (.Slice none none (some (.UnaryOp .USub (.Constant (.int 1) j p3) p4)) p2) pos) (tRevS K te) := ⟨by subst hK; exact pe_revS he.h po_m1⟩
end
end L2

set_option Elab.async false
set_option linter.all false
set_option maxRecDepth 100000
namespace L2
open PySem PySem.Spec PyProof.Rows
variable {X : Cx}

end L2

set_option Elab.async false
set_option linter.all false
set_option maxRecDepth 100000
set_option maxHeartbeats 1000000
namespace L2
open PySem PySem.Spec PySem.Calls PyProof.Rows PySem.W Builtin Builtin.ObjectAttr
section
variable {prog : Program} {w : World} {A : Around} {E : Value → Shared → Prop} {K : Frag} {C : Addr}

end
section
variable {X : Cx} {E : XS} {C : Addr} {x : Str} {e : Expr} {es : List Expr} {t : TA} {np cpos pos : Pos} {j : Nat}

end

structure GotX (K : Frag) (H : Hp) (a C : Addr) (fs : List (Str × V)) : Prop where
  cl : XCl K C
  ex : (∃ d, Caught H a C (some d) ∧ H d = some (.xd fs)) ∨ (fs = [] ∧ Caught H a C none)
theorem GotX.mono {K : Frag} {H H' : Hp} {a C : Addr} {fs : List (Str × V)} (g : GotX K H a C fs) (s : Same H H') : GotX K H' a C fs :=
  ⟨g.cl, g.ex.imp (fun ⟨d, c, e⟩ => ⟨d, c.mono s, s _ _ e⟩) fun ⟨e, c⟩ => ⟨e, c.mono s⟩⟩
section
variable {X : Cx} {pins : List (Addr × Obj)} {σ : St} {H : Hp} {s : Shared} {a C : Addr} {fs : List (Str × V)}
end

end L2

set_option Elab.async false
set_option linter.all false
set_option maxRecDepth 100000
set_option maxHeartbeats 1000000
namespace L2
open PySem PySem.Spec PySem.Calls PyProof.Rows PySem.W

section
variable {prog : Program} {w : World} {A : Around} {R : Result → Shared → Prop} {I d : Addr} {fp wr : List Addr} {n : Nat} {P : Nat → Value → Prop} {St : Nat → Heap → Prop} {K : Type} [DecidableEq K] {knd : KeyKind prog w K}

end
section
variable {X : Cx} {pins : List (Addr × Obj)} {σ : L2.St} {H : Hp} {s : Shared}
end
end L2

set_option Elab.async false
set_option linter.all false
set_option maxRecDepth 100000
set_option maxHeartbeats 1000000
namespace L2
open PySem PySem.Spec PySem.Calls PyProof.Rows PySem.W

section
variable {X : Cx} {pins : List (Addr × Obj)} {σ : L2.St} {H : Hp} {s : Shared}
end
end L2

set_option Elab.async false
set_option linter.all false
set_option maxRecDepth 100000
set_option maxHeartbeats 1000000
namespace L2
open PySem PySem.Spec PySem.Calls PyProof.Rows PySem.W

def EqP (P : Program) (w : World) (A : Around) (s : Shared) (y x : Value) : Prop := ∀ (E : Value → Shared → Prop) (Q : Bool → Shared → Prop), Q true s → wpAny (model P w) A (eqBool y x) Q E s
section
variable {P : Program} {w : World} {A : Around} {s : Shared} {a b : Addr} {xs ys : Array Value} {R : Result → Shared → Prop}
theorem eqp_loop {n n2 : Nat} {d1 d2 : Option Addr} {sl sl2 : Array (Option Value)} (hz : xs.size = ys.size) (ga : s.heap.get? a = some { cls := .type "list", dict := d1, data := .seq xs n, slots := sl })
    (gb : s.heap.get? b = some { cls := .type "list", dict := d2, data := .seq ys n2, slots := sl2 }) (he : ∀ j (h1 : j < xs.size) (h2 : j < ys.size), EqP P w A.in1 s xs[j] ys[j]) (hR : R (.ok (.ret (.bool true))) s) :
    ∀ (k i : Nat), xs.size - i = k → wpAny (model P w) A.in1 (Builtin.«list.__eq__.loop» ⟨[.ref a, .ref b, rawInt i, rawInt 2], []⟩)
      (fun fin s' => match fin with | .done f => R (.ok f) s' | .again c' => c'.quiet = true ∧ codeAny (model P w) A c' R s') (fun e s' => R (.error e) s') s
  | 0, i, hk => by
    obtain ⟨hp, g, d, tk, os⟩ := s
    wp_walk using AutoSeq1.wpAny_loadPart' ga, AutoSeq1.wpAny_loadPart' gb
    rw [show xs[((i : Nat) : Int).toNat]? = none by simp; omega, show ys[((i : Nat) : Int).toNat]? = none by simp; omega]
    wp_walk using AutoSeq1.wpAny_loadPart' ga, AutoSeq1.wpAny_loadPart' gb
    show R (.ok (.ret (.bool (xs.size == ys.size)))) _
    rw [hz, beq_self_eq_true]
    exact hR
  | k + 1, i, hk => by
    have ih := eqp_loop hz ga gb he hR k (i + 1) (by omega)
    obtain ⟨hp, g, d, tk, os⟩ := s
    have h1 : i < xs.size := by omega
    have h2 : i < ys.size := by omega
    wp_walk using AutoSeq1.wpAny_loadPart' ga, AutoSeq1.wpAny_loadPart' gb
    rw [show xs[((i : Nat) : Int).toNat]? = some xs[i] by simp [h1], show ys[((i : Nat) : Int).toNat]? = some ys[i] by simp [h2]]
    refine wpAny_bind (he i h1 h2 _ _ ?_)
    wp_walk
    rw [show ((i : Int) + 1) = ((i + 1 : Nat) : Int) by push_cast; rfl]
    exact ⟨plainId_quiet MeetsSeq3.plain_eq_loop _, codeAny_builtin MeetsSeq3.entry_eq_loop (by rw [Around.under_plainId MeetsSeq3.plain_eq_loop _]; exact ih)⟩
end
section
variable {X : Cx} {pins : List (Addr × Obj)} {σ : L2.St} {H : Hp} {s : Shared}
def okV (x : V) : Prop := flatV x = true ∨ ∃ a, x = .ref a
theorem same_at {A : Around} {x : V} {u w : Value} (h : okV x) (ru : RelV x u) (rw' : RelV x w) : SeqAt.EqAt A s u w true := by
  rcases h with h | ⟨a, rfl⟩
  · have := eqAt_V (A := A) (s := s) ru rw' h h
    rw [eqV_same h] at this
    exact this
  · cases ru; cases rw'
    exact SeqAt.EqAt.same _
theorem sames_at {A : Around} {xs : List V} {us vs : List Value} (r1 : Vals xs us) (r2 : Vals xs vs) (f1 : ∀ x ∈ xs, okV x) :
    ∀ j (h1 : j < us.toArray.size) (h2 : j < vs.toArray.size), SeqAt.EqAt A s us.toArray[j] vs.toArray[j] true := by
  intro j h1 h2
  rw [List.size_toArray] at h1 h2
  have l1 := r1.length
  have e1 : xs[j]? = some xs[j] := List.getElem?_eq_getElem (by omega)
  obtain ⟨u, hu, ru⟩ := r1.get e1
  obtain ⟨v, hv, rv⟩ := r2.get e1
  rw [List.getElem?_eq_getElem h1] at hu
  rw [List.getElem?_eq_getElem h2] at hv
  rw [List.getElem_toArray, List.getElem_toArray, Option.some.inj hu, Option.some.inj hv]
  exact same_at (f1 _ (List.getElem_mem _)) ru rv

def rNeI : R2 := fun x y H Q => ∃ a b xs, x = .ref a ∧ y = .ref b ∧ H a = some (.tup xs) ∧ H b = some (.tup xs) ∧ (∀ x ∈ xs, okV x) ∧ Q (.bl false) H
theorem op_neI (hu : X.A.units < cLine) : OpR X (compareOp .NotEq) rNeI := by
  intro pins s σ H x y v u Q I rx ry h
  obtain ⟨a, b, xs, rfl, rfl, ha, hb, f, q⟩ := h
  cases rx
  cases ry
  obtain ⟨i1, r1, p1⟩ := tup_at I ha
  obtain ⟨i2, r2, p2⟩ := tup_at I hb
  refine SeqAt.RcNeAt.tuples (e := fun _ => true) p1 p2 hu (sames_at r1 r2 f) _ _ _ _ ⟨.bl _, H, I, rfl, ?_⟩
  rw [List.size_toArray, List.size_toArray, ← r1.length, ← r2.length, beq_self_eq_true, List.all_eq_true.mpr fun _ _ => rfl]
  exact q

def rEq0 (K : Frag) : R2 := fun x y H Q => ∃ a b xs, x = .ref a ∧ y = .ref b ∧ SqL K H a xs ∧ SqL K H b [] ∧ Q (.bl xs.isEmpty) H
def rNe0 (K : Frag) : R2 := fun x y H Q => ∃ a b xs, x = .ref a ∧ y = .ref b ∧ SqL K H a xs ∧ SqL K H b [] ∧ Q (.bl (!xs.isEmpty)) H
theorem op_eq0 {K : Frag} (hK : X.K = K) (hu : X.A.units < cLine) : OpR X (compareOp .Eq) (rEq0 K) := by
  subst hK
  intro pins s σ H x y v u Q I rx ry h
  obtain ⟨a, b, xs, rfl, rfl, ha, hb, q⟩ := h
  cases rx
  cases ry
  obtain ⟨its, r1, p1, _⟩ := I.list ha
  obtain ⟨its2, r2, p2, _⟩ := I.list hb
  cases r2
  have l1 := r1.length
  cases xs with
  | nil =>
    cases r1
    exact SeqAt.eq_listAt (e := fun _ => true) p1.isList p2.isList rfl hu (fun j h1 => by simp at h1) ⟨.bl _, H, I, rfl, q⟩
  | cons x xs => exact SeqAt.eq_list_lengthsAt p1.isList p2.isList (by simp [← l1]) hu ⟨.bl _, H, I, rfl, q⟩
theorem op_ne0 {K : Frag} (hK : X.K = K) (hu : X.A.units < cLine) : OpR X (compareOp .NotEq) (rNe0 K) := by
  subst hK
  intro pins s σ H x y v u Q I rx ry h
  obtain ⟨a, b, xs, rfl, rfl, ha, hb, q⟩ := h
  cases rx
  cases ry
  obtain ⟨its, r1, p1, _⟩ := I.list ha
  obtain ⟨its2, r2, p2, _⟩ := I.list hb
  cases r2
  have l1 := r1.length
  cases xs with
  | nil =>
    cases r1
    exact SeqAt.RcNeAt.lists (e := fun _ => true) p1.isList p2.isList rfl hu (fun j h1 => by simp at h1) _ _ _ _ ⟨.bl _, H, I, rfl, q⟩
  | cons x xs => exact SeqAt.RcNeAt.lists_lengths p1.isList p2.isList (by simp [← l1]) hu _ _ _ _ ⟨.bl _, H, I, rfl, q⟩

theorem valV_mem : ∀ {kvs : List (Key × V)} {kv : Key × V}, (kvs.map (·.1)).Nodup → kv ∈ kvs → valV kvs kv.1 = some kv.2
  | p :: r, kv, hn, hm => by
    rw [List.map_cons, List.nodup_cons] at hn
    rcases List.mem_cons.mp hm with rfl | hm
    · exact valV_pos rfl
    · rw [valV_neg fun e => hn.1 (e ▸ List.mem_map_of_mem hm)]
      exact valV_mem hn.2 hm
theorem hits_same {A : Around} {vb : List (Key × Value)} {kb : List (Key × V)} (rb : KV kb vb) : ∀ {ka : List (Key × V)} {va : List (Key × Value)}, KV ka va → (∀ kv ∈ ka, valV kb kv.1 = some kv.2 ∧ okV kv.2) → KeqHits A s vb va true
  | [], _, h, _ => by cases h; exact .nil
  | kv :: ka, _, h, g => by
    cases h with
    | @cons _ q _ va z r =>
      obtain ⟨k', y⟩ := q
      obtain ⟨z1, z2⟩ := z
      have z1 : kv.1 = k' := z1
      subst z1
      have ih := hits_same (A := A) rb r fun p hp => g p (.tail _ hp)
      obtain ⟨g1, g2⟩ := g kv (.head _)
      have rv := rb.val kv.1
      rw [g1] at rv
      cases e : valueAt vb kv.1 with
      | none => rw [e] at rv; exact absurd rv id
      | some u =>
        rw [e] at rv
        exact .hit e (same_at g2 z2 rv) ih
def DcV (H : Hp) (x y : V) : Prop := ∃ a b kvs, x = .ref a ∧ y = .ref b ∧ H a = some (.dK kvs) ∧ H b = some (.dK kvs) ∧ ∀ kv ∈ kvs, okV kv.2
theorem dc_at (I : Inv X pins σ H s) {A : Around} (hu : A.units + 1 < cLine) {x y : V} {u v : Value} (h : DcV H x y) (ru : RelV x u) (rv : RelV y v) : EqP X.prog X.w A s u v := by
  obtain ⟨a, b, kvs, rfl, rfl, ha, hb, f⟩ := h
  cases ru
  cases rv
  intro E Q q
  by_cases hab : a = b
  · subst hab
    exact SeqAt.EqAt.same _ X.prog X.w E Q q
  obtain ⟨_, na, va, ra, da⟩ := dk_of I.hok ha
  obtain ⟨_, nb, vb, rb, db⟩ := dk_of I.hok hb
  have hn : (kvs.map (·.1)).Nodup := by
    have := da
    obtain ⟨_, _, _, _, _, _, _, _, hn⟩ := this
    rw [ra.keys]
    exact hn
  unfold eqBool
  refine wpAny_holding ?_
  refine wpAny_ite_split (fun e => absurd (by have := eq_of_beq e; injection this) hab) fun _ => wpAny_bind ?_
  refine keq_eq na nb da db (by omega) (fun _ => hits_same rb ra fun kv hk => ⟨valV_mem hn hk, f kv hk⟩) (wpAny_truthy_bool ?_)
  rw [← ra.length, ← rb.length, beq_self_eq_true]
  exact q

def rEqDL (K : Frag) : R2 := fun x y H Q => ∃ a b xs ys, x = .ref a ∧ y = .ref b ∧ SqL K H a xs ∧ SqL K H b ys ∧ xs.length = ys.length ∧ (∀ (j : Nat) x y, xs[j]? = some x → ys[j]? = some y → DcV H x y) ∧ Q (.bl true) H
theorem op_eqDL {K : Frag} (hK : X.K = K) (hu : X.A.units + 64 < cLine) : OpR X (compareOp .Eq) (rEqDL K) := by
  subst hK
  intro pins s σ H x y v u Q I rx ry h
  obtain ⟨a, b, xs, ys, rfl, rfl, ha, hb, l3, f, q⟩ := h
  cases rx
  cases ry
  obtain ⟨its, r1, p1, _⟩ := I.list ha
  obtain ⟨its2, r2, p2, _⟩ := I.list hb
  have l1 := r1.length
  have l2 := r2.length
  have he : ∀ j (h1 : j < its.toArray.size) (h2 : j < its2.toArray.size), EqP X.prog X.w X.A.in1 s its.toArray[j] its2.toArray[j] := by
    intro j h1 h2
    rw [List.size_toArray] at h1 h2
    have e1 : xs[j]? = some xs[j] := List.getElem?_eq_getElem (by omega)
    have e2 : ys[j]? = some ys[j] := List.getElem?_eq_getElem (by omega)
    obtain ⟨u, hu', ru⟩ := r1.get e1
    obtain ⟨v, hv, rv⟩ := r2.get e2
    rw [List.getElem?_eq_getElem h1] at hu'
    rw [List.getElem?_eq_getElem h2] at hv
    rw [List.getElem_toArray, List.getElem_toArray, Option.some.inj hu', Option.some.inj hv]
    exact dc_at I (by show X.A.units + 1 + 1 < cLine; omega) (f _ _ _ e1 e2) ru rv
  have hz : its.toArray.size = its2.toArray.size := by simp; omega
  obtain ⟨⟨c1, d1, t1, s1⟩, g1, k1, n1, e1⟩ := id p1.isList
  obtain ⟨⟨c2, d2, t2, s2⟩, g2, k2, n2, e2⟩ := id p2.isList
  simp only at k1 e1 k2 e2
  subst k1 e1 k2 e2
  refine wpAny_richCompare_same_room (op := .Eq) p1.isList.typeIs p2.isList.typeIs PySem.F.slot_list_eq ?_ (by omega)
  refine wpAny_call (codeAny_call_builtin PySem.F.slot_list_eq.plain PySem.F.entry_list_eq (PySem.F.slot_list_eq.check _ _ _ _ _ _ _ _ p1.isList.typeIs (PySem.F.args_list_eq_2 _ _) ?_))
  have fin : wants (fun v s' => v ≠ .notImplemented ∧ ∃ v' H', Inv X pins σ H' s' ∧ RelV v' v ∧ Q v' H') (X.xe) (.ok (.ret (.bool true))) s := ⟨(fun x => nomatch x), .bl true, H, I, rfl, q⟩
  have lp := eqp_loop (A := X.A) hz g1 g2 he fin _ 0 rfl
  have f3 := AutoSeq1.sub_list_list
  have hne : ¬ (its.toArray.size != its2.toArray.size) = true := by simp [hz]
  obtain ⟨hp, g, d, tk, os⟩ := s
  wp_walk using AutoSeq1.wpAny_loadPart' g1, AutoSeq1.wpAny_loadPart' g2
  exact ⟨plainId_quiet MeetsSeq3.plain_eq_loop _, codeAny_builtin MeetsSeq3.entry_eq_loop (by rw [Around.under_plainId MeetsSeq3.plain_eq_loop _]; exact lp)⟩
end
section
variable {X : Cx}

def rDIn : R2 := fun y x H Q => ∃ a o, x = .ref a ∧ DGet H a y o ∧ Q (.bl o.isSome) H
theorem op_dIn (hu : X.A.units + 1 < cLine) : OpR X (compareOp .In) rDIn := by
  intro pins s σ H y x u v Q I ry rx h
  obtain ⟨a, o, rfl, g, q⟩ := h
  cases rx
  exact d_in hu I g ry fun s' I' => ⟨.bl _, H, I', rfl, q⟩

def rSetD : TSet := fun o i v H Q => ∃ a kvs k, o = .ref a ∧ i = kV k ∧ H a = some (.dK kvs) ∧ kvs.length < sizeLine ∧ Q (upd H a (.dK (putK kvs k v)))
theorem set_dict (hu : X.A.units + 1 < cLine) : PSet X rSetD := by
  intro pins s σ H o i v ov iv u Q I ro ri rv h
  obtain ⟨a, kvs, k, rfl, rfl, ha, hl, q⟩ := h
  cases ro
  exact d_setItem hu I (.k ha hl) ri rv fun s' I' => ⟨_, I', q⟩

def rDictD : List V → Hp → VK → Prop := fun xs H Q => ∃ a kvs, xs = [.ref a] ∧ H a = some (.dK kvs) ∧ ∀ p, H p = none → Q (.ref p) (upd H p (.dK kvs))
theorem call_dictD : CallR X (.type "dict") rDictD := by
  intro pins s σ H xs us Q I r h
  obtain ⟨a, kvs, rfl, ha, q⟩ := h
  obtain ⟨u, rfl, hu⟩ := vals1 r
  cases hu
  obtain ⟨hz, na, va, ra, da⟩ := dk_of I.hok ha
  have hb := I.big
  refine kt_call_dict na da (by rw [← ra.length]; exact hz) fun h' dd hs => ?_
  have hk : ∀ b o, s.heap.get? b = some o → h'.get? b = some o := fun b o e => by
    have hne : b ≠ s.heap.objs.size := fun z => absurd (Heap.lt_size e) (by rw [z]; exact Nat.lt_irrefl _)
    exact hs.extBut b o hne (Heap.get?_push_of_some _ e)
  refine ⟨.ref _, _, I.laid (t' := s.toks) (o := .dK kvs) hk (Nat.le_refl _) ?_, rfl, q _ (I.hok.fresh (Nat.le_refl _))⟩
  exact dk_new hz (by rw [beq_eq_false_iff_ne]; exact fun z => absurd hb (by rw [z]; exact Nat.lt_irrefl _)) ra dd
end

theorem eval_callS (o i : Expr) (p : Pos) (args : List Expr) (kw : List Keyword) (pos : Pos) (env : Env) : eval (.Call (.Subscript o i p) args kw pos) env = (do
    callWith pos (← eval (.Subscript o i p) env) [] (backTo pos (starEach args env)) (backToKw pos (keywordEach kw env))) := rfl
def FnX (P : Program) (w : World) (K : Frag) (mg : Str → Option Value) (base : Heap) (k : Nat) (f : Addr) (sp : Sp) : Prop := ∃ fd ps, keepIn K (.ref f) = true ∧ Binds K fd ps [] ∧ FnOk P w K mg base (CXE P w) k f fd ps sp
theorem OkX.fnx {P : Program} {w : World} {K : Frag} {mg : Str → Option Value} {base : Heap} {j k : Nat} {x : Str} {ps : List Str} {sp : Sp} (F : OkX P w K mg base j x ps sp) (hk : j ≤ k) : ∃ f, mg x = some (.ref f) ∧ FnX P w K mg base k f sp := by
  obtain ⟨f, fd, kp, b, m, G⟩ := F.ex
  exact ⟨f, m, fd, ps, kp, b, G.mono hk⟩
section
variable {X : Cx} {k j : Nat} {o i : Expr} {p pos : Pos} {e : Expr} {es : List Expr} {tf : TE} {t : TA} {E : XS}
def tCallXV (P : Program) (w : World) (K : Frag) (mg : Str → Option Value) (base : Heap) (k : Nat) (E : XS) (tf : TE) (t : TA) : TE := fun σ H Q => tf σ H fun v H0 => ∃ f sp, v = .ref f ∧ FnX P w K mg base k f sp ∧ t σ H0 fun vs H1 => sp vs H1 Q fun c d H' => E c d σ H'
theorem pe_callXV (hx : Thr X E) (hf : PE X (.Subscript o i p) tf) (hr : Room j X.A) (hk : k ≤ j) (ha : PA X (e :: es) t)
    (he : starEach (e :: es) X.env = (false, eval e X.env) :: starEach es X.env := by rfl) (hpl : (backTo pos (starEach es X.env)).any (·.1) = false := by rfl) :
    PE X (.Call (.Subscript o i p) (e :: es) [] pos) (tCallXV X.prog X.w X.K X.mg X.base k E tf t) := by
  intro pins s σ H Q I h
  rw [eval_callS]
  refine wpAny_bind (thn (hf pins s σ H _ I h) fun u s0 ⟨v, H0, I0, r0, f, sp, ev, G, q⟩ => ?_)
  subst ev
  obtain rfl : u = Value.ref f := r0
  obtain ⟨fd, ps, kp, b, G⟩ := G
  refine PySem.W.callWith_K (h₀ := X.base) I0.ok.mod.kin kp (thn (ha pos pins s0 σ H0 _ I0 q) fun us s1 ⟨vs, H1, I1, r, q⟩ => ⟨I1.kIn, ?_⟩) he hpl
  exact run_fnX G (hr.mono hk) b hx I1 r q
theorem qe_callXV {P : Program} {w : World} {K : Frag} {mg : Str → Option Value} {base : Heap} (hX : X.prog = P ∧ X.w = w ∧ X.K = K ∧ X.mg = mg ∧ X.base = base) (hx : Thr X E) (hf : QE X (.Subscript o i p) tf) (hr : Room j X.A) (hk : k ≤ j) (ha : QA X (e :: es) t)
    (he : starEach (e :: es) X.env = (false, eval e X.env) :: starEach es X.env := by rfl) (hpl : (backTo pos (starEach es X.env)).any (·.1) = false := by rfl) :
    QE X (.Call (.Subscript o i p) (e :: es) [] pos) (tCallXV P w K mg base k E tf t) := by
  obtain ⟨rfl, rfl, rfl, rfl, rfl⟩ := hX
  exact ⟨pe_callXV hx hf.h hr hk ha.h he hpl⟩
end
section
variable {X : Cx} {e : Expr} {te : TE}

theorem pe_fs3 {a b : Str} {j j2 : Nat} {q1 q2 q3 q4 : Pos} (he : PE X e te) (ha : a.length ≤ 1000 := by decide +kernel) (hb : b.length ≤ 1000 := by decide +kernel) : PE X (.JoinedStr [.Constant (.str a) j q1, .FormattedValue e (-1) none q2, .Constant (.str b) j2 q4] q3) (tFs te) := by
  intro pins s σ H Q I h
  refine JoinedStr_many (joinParts_cons (Calls.Constant_str ⟨?_, ?_⟩))
  · rw [strLen_append, sizeLine_eq]
    show 0 + a.length ≤ _
    omega
  refine joinParts_cons (FormattedValue_plain (thn (he pins _ σ H _ (I.tok _) h) fun u s1 ⟨v, H1, I1, r, hv, q⟩ => ?_))
  have fin : ∀ (y : Str) (tk : Nat), y.length ≤ 1000001 → (Str.empty ++ a ++ y).length ≤ sizeLine ∧ wpAny (model X.prog X.w) X.A (joinParts (Str.empty ++ a ++ y) [eval (.Constant (.str b) j2 q4) X.env]) (EP X pins σ Q) X.xe { s1 with toks := tk } := fun y tk hy => by
    have hz : (Str.empty ++ a ++ y).length ≤ sizeLine := by
      rw [strLen_append, strLen_append, sizeLine_eq]
      show 0 + a.length + y.length ≤ _
      omega
    have hz2 : (Str.empty ++ a ++ y ++ b).length ≤ sizeLine := by
      rw [strLen_append, strLen_append, strLen_append, sizeLine_eq]
      show 0 + a.length + y.length + b.length ≤ _
      omega
    exact ⟨hz, joinParts_cons (Calls.Constant_str ⟨hz2, joinParts_nil ⟨.str _, H1, I1.tok _, ⟨_, rfl⟩, q _⟩ hz2⟩)⟩
  rcases hv with ⟨n, rfl, n0, n1⟩ | ⟨z, rfl, hz⟩
  · obtain ⟨tk, rfl⟩ := r
    refine formatField_int_small (log_small n0 n1) (fin _ _ ?_)
    have e1 := int_text_length_le10 (a := n) (k := 7) (by decide) (by omega)
    show (Str.ofString (toString n)).length ≤ _
    rw [PySem.ofString_length]
    omega
  · obtain ⟨tk, rfl⟩ := r
    exact formatField_str (fun t' tk' => fin _ _ (by omega)) (by rw [sizeLine_eq]; omega)
end
section
variable {X : Cx} {elt iter : Expr} {x : Str} {px pos : Pos} {ifs : List Expr} {scope : Scope} {wi : TI} {tt : TT} {te : TE}
theorem ps_setLCS {i : Nat} {z : Str} {pz spos : Pos} (hN : X.N.Nodup) (hi' : X.N[i]? = some z) (hz : Loc X.env.scope z) (L : LcScopeS X x scope) (hi : PI X (.Name x px) iter wi) (ht : ∀ cl C s3 H3 fp, PTs (blkS X x scope cl C s3 H3 fp) ifs tt) (he : ∀ cl C s3 H3 fp, PE (blkS X x scope cl C s3 H3 fp) elt te)
    (hs : ∀ x, foldedSetIterable iter X.env x = pure x := by intro _; rfl) (hsw : swapsWith (.ListComp elt [⟨.Name x px, iter, ifs, 0⟩] scope pos) (some (.Name z pz)) spos.line X.env = pure true := by rfl)
    (hf : X.fn z = true ∨ X.env.scope.names.lookup z = some .local := by first | exact .inl rfl | exact .inr rfl | assumption) : PS X (.Assign [.Name z pz] (.ListComp elt [⟨.Name x px, iter, ifs, 0⟩] scope pos) spos) (tAsg (tLC wi tt te) (gName i)) := by
  intro pins s σ H D I h
  rw [exec_Assign_Name_used _ _ _ _ hsw]
  refine wpAny_bind (wpAny_standAt (wpAny_bind ?_))
  show wpAny _ X.A (do let _ ← comprehension (.ListComp elt [⟨.Name x px, iter, ifs, 0⟩] scope pos) scope X.env _ (newList []) false (eval iter X.env) (some (assign (.Name z pz) X.env))) _ _ s
  refine wpAny_bind (wpAny_mono (lc_coreS (use := some (assign (.Name z pz) X.env)) (Q := fun _ s' => SP X pins D .next s') (QV := fun v H' => D.nx (σ.set i (some v)) H') L I (hi pins s σ H _ I h) ht he hs fun D' C H' s' m IX fC hn q => ?_) (fun _ s' hq => wpAny_pure (wpAny_pure hq)) fun _ _ e => e)
  show wpAny _ X.A (assign (.Name z pz) X.env (.ref D')) _ _ s'
  refine wpAny_assign_Name (store_ok2 IX hN hi' hz (show RelV (.ref D') (.ref D') from rfl) (fun s2 I2 hch => ?_) hf)
  obtain ⟨a, sb, ha⟩ := hch
  have hCa : C ≠ a := by
    rcases ha with e | e
    · rw [e]; exact fC.2.1
    · intro z'; exact fC.2.2.2.2.1 _ _ e z'.symm
  refine ⟨m, hn.sameBut sb hCa, fun h' hs' => ?_⟩
  exact ⟨_, H', I2.turned (t' := s2.toks) (fun b o hb e => hs'.extBut b o hb e) fC.1 fC.2.1 fC.2.2.2.1 fC.2.2.2.2.1 fC.2.2.2.2.2, q⟩
end
theorem bb_dict : bootBuiltins "dict" = some (.type "dict") := by decide +kernel
end L2

set_option Elab.async false
set_option linter.all false
set_option maxRecDepth 100000
set_option maxHeartbeats 4000000
set_option pp.deepTerms true
set_option pp.maxSteps 200000
namespace My
open PySem L2 PySem.Spec PyProof.Rows
def top (i : Nat) : Stmt := PySem.Challenge.pw_sealpress_k81_scopes.main.body.getD i (.Pass ⟨0, 0, 0, 0⟩)
abbrev s_need_text : Stmt := top 9
abbrev N_need_text : List Str := ["thing", "at", "sign"]
abbrev ps_need_text : List Str := ["thing"]
theorem sc_need_text : FnScope N_need_text ps_need_text (defScope s_need_text) := ⟨rfl, rfl, rfl, by decide +kernel, rfl, by decide +kernel, by decide +kernel⟩
abbrev s_value_of : Stmt := top 12
abbrev N_value_of : List Str := ["scopes", "name", "scope"]
abbrev ps_value_of : List Str := ["scopes", "name"]
theorem sc_value_of : FnScope N_value_of ps_value_of (defScope s_value_of) := ⟨rfl, rfl, rfl, by decide +kernel, rfl, by decide +kernel, by decide +kernel⟩
abbrev s_text_of : Stmt := top 13
abbrev N_text_of : List Str := ["scopes", "name", "value"]
abbrev ps_text_of : List Str := ["scopes", "name"]
theorem sc_text_of : FnScope N_text_of ps_text_of (defScope s_text_of) := ⟨rfl, rfl, rfl, by decide +kernel, rfl, by decide +kernel, by decide +kernel⟩
abbrev s_truth_of : Stmt := top 14
abbrev N_truth_of : List Str := ["scopes", "name", "value"]
abbrev ps_truth_of : List Str := ["scopes", "name"]
theorem sc_truth_of : FnScope N_truth_of ps_truth_of (defScope s_truth_of) := ⟨rfl, rfl, rfl, by decide +kernel, rfl, by decide +kernel, by decide +kernel⟩
abbrev s_rows_of : Stmt := top 15
abbrev N_rows_of : List Str := ["scopes", "name", "value"]
abbrev ps_rows_of : List Str := ["scopes", "name"]
theorem sc_rows_of : FnScope N_rows_of ps_rows_of (defScope s_rows_of) := ⟨rfl, rfl, rfl, by decide +kernel, rfl, by decide +kernel, by decide +kernel⟩
abbrev s__law_cell_at : Stmt := top 17
abbrev N__law_cell_at : List Str := ["_law_script", "_law_k"]
abbrev ps__law_cell_at : List Str := ["_law_script", "_law_k"]
theorem sc__law_cell_at : FnScope N__law_cell_at ps__law_cell_at (defScope s__law_cell_at) := ⟨rfl, rfl, rfl, by decide +kernel, rfl, by decide +kernel, by decide +kernel⟩
abbrev s__law_mixed : Stmt := top 18
abbrev N__law_mixed : List Str := ["_law_cell", "_law_k", "_law_first", "_law_second", "_law_number"]
abbrev ps__law_mixed : List Str := ["_law_cell", "_law_k"]
theorem sc__law_mixed : FnScope N__law_mixed ps__law_mixed (defScope s__law_mixed) := ⟨rfl, rfl, rfl, by decide +kernel, rfl, by decide +kernel, by decide +kernel⟩
abbrev s__law_rest : Stmt := top 19
abbrev N__law_rest : List Str := ["_law_cell"]
abbrev ps__law_rest : List Str := ["_law_cell"]
theorem sc__law_rest : FnScope N__law_rest ps__law_rest (defScope s__law_rest) := ⟨rfl, rfl, rfl, by decide +kernel, rfl, by decide +kernel, by decide +kernel⟩
abbrev s__law_names : Stmt := top 20
abbrev N__law_names : List Str := ["_law_cell", "_law_letters", "_law_size", "_law_at", "_law_names_here", "_law_k", "_law_word", "_law_j"]
abbrev ps__law_names : List Str := ["_law_cell"]
theorem sc__law_names : FnScope N__law_names ps__law_names (defScope s__law_names) := ⟨rfl, rfl, rfl, by decide +kernel, rfl, by decide +kernel, by decide +kernel⟩
abbrev s__law_value : Stmt := top 21
abbrev N__law_value : List Str := ["_law_number", "_law_text", "_law_k", "_law_rows", "_law_some"]
abbrev ps__law_value : List Str := ["_law_number"]
theorem sc__law_value : FnScope N__law_value ps__law_value (defScope s__law_value) := ⟨rfl, rfl, rfl, by decide +kernel, rfl, by decide +kernel, by decide +kernel⟩
abbrev s__law_scopes : Stmt := top 22
abbrev N__law_scopes : List Str := ["_law_script", "_law_names_here", "_law_scopes_here", "_law_k", "_law_scope", "_law_j", "_law_number"]
abbrev ps__law_scopes : List Str := ["_law_script", "_law_names_here"]
theorem sc__law_scopes : FnScope N__law_scopes ps__law_scopes (defScope s__law_scopes) := ⟨rfl, rfl, rfl, by decide +kernel, rfl, by decide +kernel, by decide +kernel⟩
abbrev s__law_foreign : Stmt := top 23
abbrev N__law_foreign : List Str := ["_law_text", "_law_at"]
abbrev ps__law_foreign : List Str := ["_law_text"]
theorem sc__law_foreign : FnScope N__law_foreign ps__law_foreign (defScope s__law_foreign) := ⟨rfl, rfl, rfl, by decide +kernel, rfl, by decide +kernel, by decide +kernel⟩
abbrev s__law_due : Stmt := top 24
abbrev N__law_due : List Str := ["_law_scopes_here", "_law_name", "_law_want", "_law_some", "_law_value_here"]
abbrev ps__law_due : List Str := ["_law_scopes_here", "_law_name", "_law_want"]
theorem sc__law_due : FnScope N__law_due ps__law_due (defScope s__law_due) := ⟨rfl, rfl, rfl, by decide +kernel, rfl, by decide +kernel, by decide +kernel⟩
abbrev s__law_found : Stmt := top 25
abbrev N__law_found : List Str := ["_law_scopes_here", "_law_name", "_law_want", "_law_found_here", "e"]
abbrev ps__law_found : List Str := ["_law_scopes_here", "_law_name", "_law_want"]
theorem sc__law_found : FnScope N__law_found ps__law_found (defScope s__law_found) := ⟨rfl, rfl, rfl, by decide +kernel, rfl, by decide +kernel, by decide +kernel⟩
abbrev s__law_is_the_very : Stmt := top 26
abbrev N__law_is_the_very : List Str := ["_law_scopes_here", "_law_name", "_law_scope", "_law_value_here", "_law_good"]
abbrev ps__law_is_the_very : List Str := ["_law_scopes_here", "_law_name"]
theorem sc__law_is_the_very : FnScope N__law_is_the_very ps__law_is_the_very (defScope s__law_is_the_very) := ⟨rfl, rfl, rfl, by decide +kernel, rfl, by decide +kernel, by decide +kernel⟩
abbrev s_law : Stmt := top 27
abbrev N_law : List Str := ["_law_script", "_law_names_here", "_law_scopes_here", "_law_kept", "_law_name", "_law_want", "_law_found_here", "_law_due_here"]
abbrev ps_law : List Str := ["_law_script"]
theorem sc_law : FnScope N_law ps_law (defScope s_law) := ⟨rfl, rfl, rfl, by decide +kernel, rfl, by decide +kernel, by decide +kernel⟩
abbrev s_i_NoSign : Stmt := inClass (top 2) 0
theorem sc_i_NoSign : FnScope ["self", "at"] ["self", "at"] (defScope s_i_NoSign) := ⟨rfl, rfl, rfl, by decide +kernel, rfl, by decide +kernel, by decide +kernel⟩
abbrev s_i_NoValue : Stmt := inClass (top 5) 0
theorem sc_i_NoValue : FnScope ["self", "name"] ["self", "name"] (defScope s_i_NoValue) := ⟨rfl, rfl, rfl, by decide +kernel, rfl, by decide +kernel, by decide +kernel⟩
abbrev s_i_NoKind : Stmt := inClass (top 6) 0
theorem sc_i_NoKind : FnScope ["self", "name"] ["self", "name"] (defScope s_i_NoKind) := ⟨rfl, rfl, rfl, by decide +kernel, rfl, by decide +kernel, by decide +kernel⟩
theorem cxK {CX : CXT} {P : Program} {w : World} {K : PySem.W.Frag} {mg : Str → Option Value} {base : Heap} {N : List Str} {qual : Str} {scope : Scope} {f : Addr} {cd : Value} {A : Around} {outer : List Env} {s : Shared} {H : Hp} {E : XK} : (cxOf CX P w K mg base N qual scope f cd A outer s H E).nox.K = K := rfl
theorem cxK0 {CX : CXT} {P : Program} {w : World} {K : PySem.W.Frag} {mg : Str → Option Value} {base : Heap} {N : List Str} {qual : Str} {scope : Scope} {f : Addr} {cd : Value} {A : Around} {outer : List Env} {s : Shared} {H : Hp} {E : XK} : (cxOf CX P w K mg base N qual scope f cd A outer s H E).K = K := rfl
theorem nc0 : ((0 : Nat) : Int) = 0 := rfl
theorem nc1 : ((1 : Nat) : Int) = 1 := rfl
theorem nc2 : ((2 : Nat) : Int) = 2 := rfl
theorem nc3 : ((3 : Nat) : Int) = 3 := rfl
theorem nc94 : ((94 : Nat) : Int) = 94 := rfl
theorem blkK {X : Cx} {x : Str} {scope : Scope} {cl : List (Str × Addr)} {C : Addr} {s3 : Shared} {H3 : Hp} {fp : List Addr} : (blk X x scope cl C s3 H3 fp).K = X.K := rfl
theorem tyV_str {K : PySem.W.Frag} {x : Str} {H : Hp} : tyV K "str" (.str x) H = True := by simp [tyV]
theorem exV1 {p : V → Prop} {a : V} : (∃ v, some (some a) = some (some v) ∧ p v) = p a := by simp
theorem ite_t {A B : Prop} : (if true = true then A else B) = A := by simp
theorem ite_f {A B : Prop} : (if false = true then A else B) = B := by simp
theorem cxKh {CX : CXT} {P : Program} {w : World} {K : PySem.W.Frag} {mg : Str → Option Value} {base : Heap} {N : List Str} {qual : Str} {scope : Scope} {f : Addr} {cd : Value} {A : Around} {outer : List Env} {s : Shared} {H : Hp} {E : XK} : (cxOf CX P w K mg base N qual scope f cd A outer s H E).hot.nox.K = K := rfl
structure Ads where
  SealError : Addr
  NoSign : Addr
  NoName : Addr
  TooMany : Addr
  NoValue : Addr
  NoKind : Addr

/-- what the top has left -/
structure Txt (K : PySem.W.Frag) (mg : Str → Option Value) (t : Ads) : Prop where
  m_SealError : mg "SealError" = some (.ref t.SealError)
  m_NoSign : mg "NoSign" = some (.ref t.NoSign)
  m_NoName : mg "NoName" = some (.ref t.NoName)
  m_TooMany : mg "TooMany" = some (.ref t.TooMany)
  m_NoValue : mg "NoValue" = some (.ref t.NoValue)
  m_NoKind : mg "NoKind" = some (.ref t.NoKind)
  c_SealError : XCl K t.SealError
  u_SealError : upIn K t.SealError = true
  c_NoSign : XCl K t.NoSign
  k_NoSign : PySem.W.keepIn K (.ref t.NoSign) = true
  n_NoSign_at : PySem.W.findIn K (.ref t.NoSign) "at" = some none
  kit_up_NoSign : PySem.W.mroIn K t.NoSign (.ref t.SealError) = some true
  kit_ve_NoSign : PySem.W.kitOne K (.ref t.NoSign) (.type "ValueError") = some true
  kit_l1_NoSign : PySem.W.kitAny K (.ref t.NoSign) [.ref t.NoName, .ref t.TooMany] = some false
  kit_is_NoSign_NoValue : PySem.W.kitOne K (.ref t.NoSign) (.ref t.NoValue) = some false
  kit_is_NoSign_NoKind : PySem.W.kitOne K (.ref t.NoSign) (.ref t.NoKind) = some false
  kit_is_NoSign_NoSign : PySem.W.kitOne K (.ref t.NoSign) (.ref t.NoSign) = some true
  c_NoValue : XCl K t.NoValue
  k_NoValue : PySem.W.keepIn K (.ref t.NoValue) = true
  n_NoValue_name : PySem.W.findIn K (.ref t.NoValue) "name" = some none
  kit_up_NoValue : PySem.W.mroIn K t.NoValue (.ref t.SealError) = some true
  kit_ve_NoValue : PySem.W.kitOne K (.ref t.NoValue) (.type "ValueError") = some true
  kit_l1_NoValue : PySem.W.kitAny K (.ref t.NoValue) [.ref t.NoName, .ref t.TooMany] = some false
  kit_is_NoValue_NoValue : PySem.W.kitOne K (.ref t.NoValue) (.ref t.NoValue) = some true
  kit_is_NoValue_NoKind : PySem.W.kitOne K (.ref t.NoValue) (.ref t.NoKind) = some false
  kit_is_NoValue_NoSign : PySem.W.kitOne K (.ref t.NoValue) (.ref t.NoSign) = some false
  c_NoKind : XCl K t.NoKind
  k_NoKind : PySem.W.keepIn K (.ref t.NoKind) = true
  n_NoKind_name : PySem.W.findIn K (.ref t.NoKind) "name" = some none
  kit_up_NoKind : PySem.W.mroIn K t.NoKind (.ref t.SealError) = some true
  kit_ve_NoKind : PySem.W.kitOne K (.ref t.NoKind) (.type "ValueError") = some true
  kit_l1_NoKind : PySem.W.kitAny K (.ref t.NoKind) [.ref t.NoName, .ref t.TooMany] = some false
  kit_is_NoKind_NoValue : PySem.W.kitOne K (.ref t.NoKind) (.ref t.NoValue) = some false
  kit_is_NoKind_NoKind : PySem.W.kitOne K (.ref t.NoKind) (.ref t.NoKind) = some true
  kit_is_NoKind_NoSign : PySem.W.kitOne K (.ref t.NoKind) (.ref t.NoSign) = some false
  g_SIGNS : ∃ u, mg "SIGNS" = some u ∧ RelV (.str (S sg)) u
  g_MOST_ROWS : ∃ u, mg "MOST_ROWS" = some u ∧ RelV (.int 60) u
  z_len : mg "len" = none
  z_list : mg "list" = none
  z_range : mg "range" = none
  z_enumerate : mg "enumerate" = none
  z_isinstance : mg "isinstance" = none
  z_all : mg "all" = none
  z_str : mg "str" = none
  z_bool : mg "bool" = none
  z_int : mg "int" = none
  z_dict : mg "dict" = none
  z_reversed : mg "reversed" = none
  z_ValueError : mg "ValueError" = none
/-! the promises -/
theorem err_NoSign {P : Program} {w : World} {K : PySem.W.Frag} {mg : Str → Option Value} {base : Heap} {t : Ads} (T : Txt K mg t) (D : Ini K t.NoSign "NoSign.__init__" s_i_NoSign ["self", "at"]) : Err P w K mg base "NoSign" t.NoSign "at" payT := by
  obtain ⟨fI, fd, oI, i1, i2, i3, F, b⟩ := D.ex
  refine ⟨T.m_NoSign, T.c_NoSign, T.k_NoSign, fI, fd, oI, _, i1, i2, i3, b, ?_⟩
  refine F.ok sc_i_NoSign (fun vs H Q E h => by obtain ⟨a, v, rfl, _⟩ := h; rfl) fun cdv A outer s H vs Q E hr h => ?_
  obtain ⟨a, v, rfl, ea, hp, q⟩ := h
  exact ⟨_, pss_cons (ps_expr (pe_init (C := t.NoSign) T.m_SealError T.u_SealError T.c_NoSign (pa_cons (pv 0) (pa_cons (pe_fs (pv 1)) pa_nil)))) (pss_one (ps_set0 T.c_NoSign T.n_NoSign_at (pv 0) (pv 1))), init_read ea hp q⟩

theorem err_NoValue {P : Program} {w : World} {K : PySem.W.Frag} {mg : Str → Option Value} {base : Heap} {t : Ads} (T : Txt K mg t) (D : Ini K t.NoValue "NoValue.__init__" s_i_NoValue ["self", "name"]) : Err P w K mg base "NoValue" t.NoValue "name" payT := by
  obtain ⟨fI, fd, oI, i1, i2, i3, F, b⟩ := D.ex
  refine ⟨T.m_NoValue, T.c_NoValue, T.k_NoValue, fI, fd, oI, _, i1, i2, i3, b, ?_⟩
  refine F.ok sc_i_NoValue (fun vs H Q E h => by obtain ⟨a, v, rfl, _⟩ := h; rfl) fun cdv A outer s H vs Q E hr h => ?_
  obtain ⟨a, v, rfl, ea, hp, q⟩ := h
  exact ⟨_, pss_cons (ps_expr (pe_init (C := t.NoValue) T.m_SealError T.u_SealError T.c_NoValue (pa_cons (pv 0) (pa_cons (pe_fs (pv 1)) pa_nil)))) (pss_one (ps_set0 T.c_NoValue T.n_NoValue_name (pv 0) (pv 1))), init_read ea hp q⟩

theorem err_NoKind {P : Program} {w : World} {K : PySem.W.Frag} {mg : Str → Option Value} {base : Heap} {t : Ads} (T : Txt K mg t) (D : Ini K t.NoKind "NoKind.__init__" s_i_NoKind ["self", "name"]) : Err P w K mg base "NoKind" t.NoKind "name" payT := by
  obtain ⟨fI, fd, oI, i1, i2, i3, F, b⟩ := D.ex
  refine ⟨T.m_NoKind, T.c_NoKind, T.k_NoKind, fI, fd, oI, _, i1, i2, i3, b, ?_⟩
  refine F.ok sc_i_NoKind (fun vs H Q E h => by obtain ⟨a, v, rfl, _⟩ := h; rfl) fun cdv A outer s H vs Q E hr h => ?_
  obtain ⟨a, v, rfl, ea, hp, q⟩ := h
  exact ⟨_, pss_cons (ps_expr (pe_init (C := t.NoKind) T.m_SealError T.u_SealError T.c_NoKind (pa_cons (pv 0) (pa_cons (pe_fs3 (pv 1)) pa_nil)))) (pss_one (ps_set0 T.c_NoKind T.n_NoKind_name (pv 0) (pv 1))), init_read ea hp q⟩

def fb (l : List Nat) : Option Nat := l.findIdx? fun c => !decide (c ∈ sg)
theorem fb_none {l : List Nat} (h : fb l = none) : ∀ c ∈ l, c ∈ sg := by
  unfold fb at h
  rw [List.findIdx?_eq_none_iff] at h
  intro c hc
  have := h c hc
  simpa using this
theorem fb_sg {l : List Nat} (h : ∀ c ∈ l, c ∈ sg) : fb l = none := by
  unfold fb
  rw [List.findIdx?_eq_none_iff]
  intro c hc
  simp [h c hc]
theorem eqV_self {v : V} (h : flatV v = true) : eqV v v = true := by
  cases v <;> simp [eqV, flatV] at h ⊢
theorem eqS_self {xs : List V} (h : xs.all flatV = true) : eqS xs xs = true := by
  unfold eqS
  rw [Bool.and_eq_true, List.all_eq_true]
  refine ⟨fun j hj => ?_, by simp⟩
  rw [Nat.min_self, List.mem_range] at hj
  rw [List.getD_eq_getElem?_getD, List.getElem?_eq_getElem hj]
  exact eqV_self (List.all_eq_true.mp h _ (List.getElem_mem hj))
/-! more loops -/
theorem lc_listG {K : PySem.W.Frag} {a : Addr} {xs : List V} {te : TE} {σ : L2.St} {H : Hp} {Q : VK} (G : V → V → Hp → Prop) (hG : ∀ c v H1 H2, G c v H1 → Same H1 H2 → G c v H2) (hU : ∀ c v H1 D xs ys, G c v H1 → H1 D = some (.lst xs) → G c v (upd H1 D (.lst ys))) (hl : xs.length ≤ sizeLine)
    (ha : H a = some (.lst xs))
    (he : ∀ c ∈ xs, ∀ H1, Same H H1 → ∀ R : VK, (∀ v H2, Same H1 H2 → G c v H2 → R v H2) → te (some c :: σ) H1 R)
    (hq : ∀ D H2 ys, H D = none → Same H H2 → ys.length = xs.length → (∀ (i : Nat) c v, xs[i]? = some c → ys[i]? = some v → G c v H2) → H2 D = some (.lst ys) → Q (.ref D) H2) : lcBody (Itl K a) tTrue te σ H Q := by
  intro D hD
  refine ⟨fun i m ys H' => m = xs.length - i ∧ i ≤ xs.length ∧ ys.length = i ∧ (∀ (j : Nat) c v, xs[j]? = some c → ys[j]? = some v → G c v H') ∧ Same H H' ∧ H' D = some (.lst ys), ⟨xs.length, by simp, Nat.zero_le _, rfl, by simp, same_upd hD, upd_same⟩, ?_⟩
  rintro i m ys H' ⟨rfl, hi, hy, hg, sm, hDl⟩
  refine ⟨hDl, ?_⟩
  have sq : SqL K H' a xs := SqL.of (sm _ _ ha)
  by_cases hlt : i < xs.length
  · refine .inr ⟨⟨xs, xs[i], sq, by simp [hlt]⟩, fun v H2 y => ?_⟩
    obtain ⟨rfl, y⟩ := y
    have hc := y xs sq
    have hm : v ∈ xs := List.mem_of_getElem? hc
    simp only [tTrue, ↓reduceIte]
    refine he v hm H2 sm _ fun u H4 s4 gv => ?_
    have hD4 := s4 D _ hDl
    refine ⟨hD4, by omega, xs.length - (i + 1), by omega, rfl, hlt, by simp [hy], fun j c' u' e1 e2 => ?_, ?_, upd_same⟩
    · refine hU _ _ _ _ _ _ ?_ hD4
      by_cases hj : j < ys.length
      · rw [List.getElem?_append_left hj] at e2
        exact hG _ _ _ _ (hg j c' u' e1 e2) s4
      · rw [List.getElem?_append_right (by omega)] at e2
        have hj' : j - ys.length = 0 := by
          by_cases hz : j - ys.length = 0
          · exact hz
          · rw [List.getElem?_eq_none_iff.mpr (by simp; omega)] at e2; cases e2
        have ej : j = i := by omega
        subst ej
        rw [hj'] at e2
        simp at e2
        subst e2
        rw [hc] at e1
        cases e1
        exact gv
    · intro b o e
      rw [upd_ne (ne_of_none e hD)]
      exact s4 b o (sm b o e)
  · have e : i = xs.length := by omega
    subst e
    exact .inl ⟨⟨xs, sq, Nat.le_refl _⟩, hq D H' ys hD sm hy hg hDl⟩
theorem fb_rangeL {lo : Int} {n : Nat} {g : TG} {tb : TS} {D : Ends} {σ : L2.St} {H : Hp} (Pv : Nat → L2.St → Hp → Prop) (h0 : Pv 0 σ H)
    (hs : ∀ i σ H, i < n → Pv i σ H → g (.int (lo + (i : Int))) σ H fun σ2 H2 => tb { D with nx := Pv (i + 1), ct := Pv (i + 1), bk := D.nx } σ2 H2) (hd : ∀ σ H, Pv n σ H → D.nx σ H) : forBody (Itr lo n) g tb D σ H := by
  refine ⟨fun i m σ H => m = n - i ∧ i ≤ n ∧ Pv i σ H, ⟨n, by simp, Nat.zero_le _, h0⟩, ?_⟩
  rintro i m σ H ⟨rfl, hi, p⟩
  by_cases hlt : i < n
  · refine .inr ⟨hlt, Pv (i + 1), fun σ' H' p' => ⟨n - (i + 1), by omega, rfl, hlt, p'⟩, fun x H' y => ?_⟩
    obtain ⟨rfl, rfl⟩ := y
    exact hs i σ _ hlt p
  · have e : i = n := by omega
    subst e
    exact .inl ⟨Nat.le_refl _, hd σ H p⟩
def Res (K : PySem.W.Frag) (H : Hp) (x : V) (r : Option Nat) : Prop := (∃ l, x = .str (S l) ∧ l.length ≤ 100000 ∧ r = fb l) ∨ (NoT K H x ∧ r = some 0)
def sp_need_text (K : PySem.W.Frag) (t : Ads) : Sp := fun vs H Q E => ∃ x r, vs = [x] ∧ Res K H x r ∧ (r = none → ∀ H', Same H H' → Q x H') ∧ (∀ b : Nat, r = some b → ∀ d H', Same H H' → H' d = some (.xd [("at", .int b)]) → E (.ref t.NoSign) (some d) H')
def sp__law_cell_at (K : PySem.W.Frag) : Sp := fun vs H Q _ => ∃ (a : Addr) (ns : List Int) (k : Int), vs = [.ref a, .int k] ∧ SqL K H a (ns.map V.int) ∧ 0 ≤ k ∧ ∀ v H', Same H H' → Q (.int v) H'
def sp__law_mixed : Sp := fun vs H Q _ => ∃ c k : Int, vs = [.int c, .int k] ∧ ∀ (v : Nat) H', Same H H' → Q (.int v) H'
def sp__law_rest : Sp := fun vs H Q _ => ∃ c : Int, vs = [.int c] ∧ ∀ (v : Int) H', 0 ≤ v → Same H H' → Q (.int v) H'
/-! values, and what is asked of them -/
abbrev Dc := List (Key × V)
def isDb (H : Hp) : V → Bool
  | .ref a => (match H a with | some (.dK _) => true | _ => false)
  | _ => false
def isLs (H : Hp) : V → Option (List V)
  | .ref a => (match H a with | some (.lst xs) => some xs | _ => none)
  | _ => none
/-- a text, or one of the things that are none -/
def TxV (l : List Nat) : Prop := l.length ≤ 100 ∧ ∀ c ∈ l, c ∈ sg ∨ c = 10 ∨ c = 9
def Itm (K : PySem.W.Frag) (H : Hp) (x : V) : Prop := (∃ l, x = .str (S l) ∧ TxV l) ∨ NoT K H x
def Val (K : PySem.W.Frag) (H : Hp) (v : V) : Prop := Itm K H v ∧ ∀ xs, isLs H v = some xs → xs.length ≤ 100 ∧ ∀ x ∈ xs, Itm K H x
inductive R3 where
  | told (v : V)
  | val
  | kind
  | sign (b : Nat)
def oc (H : Hp) (v : V) : Nat → R3
  | 0 => .told v
  | 1 => (match v with | .str s => (match fb s.cps.toList with | none => .told v | some b => .sign b) | _ => .kind)
  | 2 => (match v with | .bl _ => .told v | _ => .kind)
  | _ => (match isLs H v with | some xs => if xs.length ≤ 60 ∧ xs.all (isDb H) = true then .told v else .kind | none => .kind)
def look (kss : List Dc) (k : Key) : Option V := (kss.filterMap fun d => valV d k).getLast?
def outc (H : Hp) (kss : List Dc) (k : Key) (w : Nat) : R3 := match look kss k with | none => .val | some v => oc H v w
/-- a list of dicts -/
def Scs (H : Hp) (sc : Addr) (kss : List Dc) : Prop := ∃ as : List Addr, H sc = some (.lst (as.map V.ref)) ∧ as.length = kss.length ∧ as.length ≤ 10 ∧ ∀ (i : Nat) a d, as[i]? = some a → kss[i]? = some d → H a = some (.dK d)
def Vals3 (K : PySem.W.Frag) (H : Hp) (sc : Addr) (kss : List Dc) : Prop := ∀ d ∈ kss, ∀ kv ∈ d, Val K H kv.2 ∧ kv.2 ≠ .ref sc
def Ans (t : Ads) (n : List Nat) (Q : VK) (E : XK) (H : Hp) : R3 → Prop
  | .told v => ∀ H', Same H H' → Q v H'
  | .val => ∀ d H', Same H H' → H' d = some (.xd [("name", .str (S n))]) → E (.ref t.NoValue) (some d) H'
  | .kind => ∀ d H', Same H H' → H' d = some (.xd [("name", .str (S n))]) → E (.ref t.NoKind) (some d) H'
  | .sign b => ∀ d H', Same H H' → H' d = some (.xd [("at", .int b)]) → E (.ref t.NoSign) (some d) H'
def spv (K : PySem.W.Frag) (t : Ads) (w : Nat) : Sp := fun vs H Q E => ∃ sc n kss, vs = [.ref sc, .str (S n)] ∧ Scs H sc kss ∧ n.length ≤ 100 ∧ (0 < w → Vals3 K H sc kss) ∧ Ans t n Q E H (outc H kss (.inr (S n)) w)
def sp_value_of (K : PySem.W.Frag) (t : Ads) : Sp := spv K t 0
def sp_text_of (K : PySem.W.Frag) (t : Ads) : Sp := spv K t 1
def sp_truth_of (K : PySem.W.Frag) (t : Ads) : Sp := spv K t 2
def sp_rows_of (K : PySem.W.Frag) (t : Ads) : Sp := spv K t 3
def tTold : V := .str (S [116, 111, 108, 100])
def tpl (n : List Nat) : R3 → List V
  | .told v => [.str (S [116, 111, 108, 100]), v]
  | .val => [.str (S [118, 97, 108, 117, 101]), .str (S n)]
  | .kind => [.str (S [107, 105, 110, 100]), .str (S n)]
  | .sign b => [.str (S [115, 105, 103, 110]), .int b]
def spt (K : PySem.W.Frag) : Sp := fun vs H Q _ => ∃ (sc : Addr) (n : List Nat) (kss : List Dc) (w : Nat), vs = [.ref sc, .str (S n), .int w] ∧ w ≤ 3 ∧ Scs H sc kss ∧ n.length ≤ 100 ∧ (∀ d ∈ kss, ∀ kv ∈ d, Val K H kv.2) ∧ ∀ p H', Same H H' → H' p = some (.tup (tpl n (outc H kss (.inr (S n)) w))) → Q (.ref p) H'
def sp__law_due (K : PySem.W.Frag) : Sp := spt K
def sp__law_found (K : PySem.W.Frag) : Sp := fun vs H Q _ => ∃ (sc : Addr) (n : List Nat) (kss : List Dc) (w : Nat), vs = [.ref sc, .str (S n), .int w] ∧ w ≤ 3 ∧ Scs H sc kss ∧ n.length ≤ 100 ∧ Vals3 K H sc kss ∧ ∀ p H', Same H H' → H' p = some (.tup (tpl n (outc H kss (.inr (S n)) w))) → Q (.ref p) H'
def sp__law_is_the_very (K : PySem.W.Frag) : Sp := fun vs H Q _ => ∃ sc n kss, vs = [.ref sc, .str (S n)] ∧ Scs H sc kss ∧ n.length ≤ 100 ∧ Vals3 K H sc kss ∧ ∀ H', Same H H' → Q (.bl true) H'
def sp__law_foreign : Sp := fun vs H Q _ => ∃ l, vs = [.str (S l)] ∧ TxV l ∧ ∀ p H', Same H H' → H' p = some (.lst (match fb l with | none => [] | some b => [V.int b])) → Q (.ref p) H'
def sp__law_names : Sp := fun vs H Q _ => ∃ c : Int, vs = [.int c] ∧ ∀ p H' (ns : List (List Nat)), Same H H' → ns.length = 7 → (∀ n ∈ ns, n.length ≤ 8) → H' p = some (.lst (ns.map fun n => V.str (S n))) → Q (.ref p) H'
def sp__law_value (K : PySem.W.Frag) : Sp := fun vs H Q _ => ∃ c : Int, vs = [.int c] ∧ 0 ≤ c ∧ ∀ v H', Same H H' → Val K H' v → (∀ a, v = .ref a → H a = none) → Q v H'
def sp__law_scopes (K : PySem.W.Frag) : Sp := fun vs H Q _ => ∃ (a b : Addr) (is : List Int) (ns : List (List Nat)), vs = [.ref a, .ref b] ∧ SqL K H a (is.map V.int) ∧ H b = some (.lst (ns.map fun n => V.str (S n))) ∧ ns.length = 7 ∧ ∀ sc H' kss, Same H H' → Scs H' sc kss → Vals3 K H' sc kss → Q (.ref sc) H'
def sp_law (K : PySem.W.Frag) : Sp := fun vs H Q _ => ∃ (a : Addr) (ns : List Int), vs = [.ref a] ∧ SqL K H a (ns.map V.int) ∧ ns.length ≤ 63 ∧ ∀ H', Q (.bl true) H'
theorem itm_ref {K : PySem.W.Frag} {H H' : Hp} {a : Addr} (h : Itm K H (.ref a)) (g : Same H H') : H' a = H a := by
  rcases h with ⟨l, e, _⟩ | h
  · cases e
  · rcases h with e | ⟨_, e⟩ | ⟨_, e⟩ | ⟨b, xs, e, h⟩ | ⟨b, xs, e, h⟩ | ⟨b, xs, e, h⟩ <;> cases e <;> rw [h, g _ _ h]
theorem isDb_mono {K : PySem.W.Frag} {H H' : Hp} {x : V} (h : Itm K H x) (g : Same H H') : isDb H' x = isDb H x := by
  cases x <;> first | rfl | (simp only [isDb]; rw [itm_ref h g])
theorem isLs_mono {K : PySem.W.Frag} {H H' : Hp} {x : V} (h : Itm K H x) (g : Same H H') : isLs H' x = isLs H x := by
  cases x <;> first | rfl | (simp only [isLs]; rw [itm_ref h g])
theorem Itm.mono {K : PySem.W.Frag} {H H' : Hp} {x : V} (h : Itm K H x) (g : Same H H') : Itm K H' x := by
  rcases h with h | h
  · exact .inl h
  · exact .inr (h.mono g)
theorem Val.mono {K : PySem.W.Frag} {H H' : Hp} {x : V} (h : Val K H x) (g : Same H H') : Val K H' x := by
  refine ⟨h.1.mono g, fun xs e => ?_⟩
  rw [isLs_mono h.1 g] at e
  exact ⟨(h.2 xs e).1, fun x hx => ((h.2 xs e).2 x hx).mono g⟩
theorem Vals3.mono {K : PySem.W.Frag} {H H' : Hp} {sc : Addr} {kss : List Dc} (h : Vals3 K H sc kss) (g : Same H H') : Vals3 K H' sc kss := fun d hd kv hk => ⟨(h d hd kv hk).1.mono g, (h d hd kv hk).2⟩
theorem all_mono {K : PySem.W.Frag} {H H' : Hp} (g : Same H H') : ∀ {xs : List V}, (∀ x ∈ xs, Itm K H x) → xs.all (isDb H') = xs.all (isDb H)
  | [], _ => rfl
  | x :: xs, h => by
    rw [List.all_cons, List.all_cons, isDb_mono (h x (.head _)) g, all_mono g fun y hy => h y (.tail _ hy)]
theorem oc_mono {K : PySem.W.Frag} {H H' : Hp} {v : V} (h : Val K H v) (g : Same H H') : ∀ w, oc H' v w = oc H v w
  | 0 => rfl
  | 1 => rfl
  | 2 => rfl
  | w + 3 => by
    show (match isLs H' v with | some xs => if xs.length ≤ 60 ∧ xs.all (isDb H') = true then R3.told v else .kind | none => .kind) = (match isLs H v with | some xs => if xs.length ≤ 60 ∧ xs.all (isDb H) = true then R3.told v else .kind | none => .kind)
    rw [isLs_mono h.1 g]
    cases e : isLs H v with
    | none => rfl
    | some xs => simp only [all_mono g (h.2 xs e).2]
theorem look_mem {kss : List Dc} {k : Key} {v : V} (h : look kss k = some v) : ∃ d ∈ kss, ∃ kv ∈ d, kv.2 = v := by
  have := List.mem_of_getLast? h
  obtain ⟨d, hd, e⟩ := List.mem_filterMap.mp this
  unfold valV at e
  cases f : d.find? fun kv => decide (kv.1 = k) with
  | none => rw [f] at e; cases e
  | some kv => rw [f] at e; cases e; exact ⟨d, hd, kv, List.mem_of_find?_eq_some f, rfl⟩
theorem outc_mono {K : PySem.W.Frag} {H H' : Hp} {kss : List Dc} {k : Key} {w : Nat} (hv : ∀ d ∈ kss, ∀ kv ∈ d, Val K H kv.2) (g : Same H H') : outc H' kss k w = outc H kss k w := by
  unfold outc
  cases e : look kss k with
  | none => rfl
  | some v =>
    obtain ⟨d, hd, kv, hk, rfl⟩ := look_mem e
    exact oc_mono (hv d hd kv hk) g w
theorem look_take {kss : List Dc} {k : Key} {i : Nat} {d : Dc} (h : kss[i]? = some d) : look (kss.take (i + 1)) k = (valV d k).or (look (kss.take i) k) := by
  unfold look
  rw [List.take_add_one, h, List.filterMap_append]
  cases e : valV d k with
  | none => simp [e]
  | some v => simp [e]
theorem Scs.mono {H H' : Hp} {sc : Addr} {kss : List Dc} (h : Scs H sc kss) (g : Same H H') : Scs H' sc kss := by
  obtain ⟨as, h1, h2, h3, h4⟩ := h
  exact ⟨as, g _ _ h1, h2, h3, fun i a d e1 e2 => g _ _ (h4 i a d e1 e2)⟩
theorem lc_rangeF {n : Nat} {tt : TT} {σ : L2.St} {H : Hp} {Q : VK} (f : Nat → Bool) (hl : n ≤ sizeLine)
    (ht : ∀ i, i < n → ∀ H1, Same H H1 → ∀ R : Bool → Hp → Prop, R (f i) H1 → tt (some (.int (i : Int)) :: σ) H1 R)
    (hq : ∀ D H2, H D = none → Same H H2 → H2 D = some (.lst (((List.range n).filter f).map fun i : Nat => V.int (i : Int))) → Q (.ref D) H2) : lcBody (Itr 0 n) tt (tVar 0) σ H Q := by
  intro D hD
  refine ⟨fun i m ys H' => m = n - i ∧ i ≤ n ∧ ys = ((List.range i).filter f).map (fun i : Nat => V.int (i : Int)) ∧ Same H H' ∧ H' D = some (.lst ys), ⟨n, by simp, Nat.zero_le _, by simp, same_upd hD, upd_same⟩, ?_⟩
  rintro i m ys H' ⟨rfl, hi, hy, sm, hDl⟩
  refine ⟨hDl, ?_⟩
  by_cases hlt : i < n
  · refine .inr ⟨hlt, fun v H2 y => ?_⟩
    obtain ⟨rfl, rfl⟩ := y
    rw [Int.zero_add]
    have hyl : ys.length ≤ i := by
      rw [hy, List.length_map]
      refine Nat.le_trans (List.length_filter_le _ _) ?_
      rw [List.length_range]
      exact Nat.le_refl _
    refine ht i hlt H2 sm _ ?_
    cases hf : f i with
    | true =>
      rw [if_pos rfl]
      refine ⟨_, rfl, hDl, by omega, n - (i + 1), by omega, rfl, hlt, ?_, ?_, upd_same⟩
      · rw [List.range_succ, List.filter_append, List.map_append, ← hy]
        simp [hf]
      · intro b o e
        rw [upd_ne (ne_of_none e hD)]
        exact sm b o e
    | false =>
      rw [if_neg (by decide)]
      refine ⟨n - (i + 1), by omega, rfl, hlt, ?_, sm, hDl⟩
      rw [List.range_succ, List.filter_append, List.map_append, ← hy]
      simp [hf]
  · have e : i = n := by omega
    subst e
    exact .inl ⟨Nat.le_refl _, hq D H' hD sm (by rw [hDl, hy])⟩
theorem lc_rangeG {n : Nat} {te : TE} {σ : L2.St} {H : Hp} {Q : VK} (G : V → Hp → Prop) (hG : ∀ v H1 H2, G v H1 → Same H1 H2 → G v H2) (hU : ∀ v H1 D xs ys, G v H1 → H1 D = some (.lst xs) → G v (upd H1 D (.lst ys))) (hl : n ≤ sizeLine)
    (he : ∀ i, i < n → ∀ H1, Same H H1 → ∀ R : VK, (∀ v H2, Same H1 H2 → G v H2 → R v H2) → te (some (.int (i : Int)) :: σ) H1 R)
    (hq : ∀ D H2 ys, H D = none → Same H H2 → ys.length = n → (∀ v ∈ ys, G v H2) → H2 D = some (.lst ys) → Q (.ref D) H2) : lcBody (Itr 0 n) tTrue te σ H Q := by
  intro D hD
  refine ⟨fun i m ys H' => m = n - i ∧ i ≤ n ∧ ys.length = i ∧ (∀ v ∈ ys, G v H') ∧ Same H H' ∧ H' D = some (.lst ys), ⟨n, by simp, Nat.zero_le _, rfl, by simp, same_upd hD, upd_same⟩, ?_⟩
  rintro i m ys H' ⟨rfl, hi, hy, hg, sm, hDl⟩
  refine ⟨hDl, ?_⟩
  by_cases hlt : i < n
  · refine .inr ⟨hlt, fun v H2 y => ?_⟩
    obtain ⟨rfl, rfl⟩ := y
    rw [Int.zero_add]
    simp only [tTrue, ↓reduceIte]
    refine he i hlt H2 sm _ fun u H4 s4 gv => ?_
    have hD4 := s4 D _ hDl
    refine ⟨hD4, by omega, n - (i + 1), by omega, rfl, hlt, by simp [hy], fun z hz => ?_, ?_, upd_same⟩
    · refine hU _ _ _ _ _ ?_ hD4
      rcases List.mem_append.mp hz with hz | hz
      · exact hG _ _ _ (hg z hz) s4
      · rw [List.mem_singleton.mp hz]; exact gv
    · intro b o e
      rw [upd_ne (ne_of_none e hD)]
      exact s4 b o (sm b o e)
  · have e : i = n := by omega
    subst e
    exact .inl ⟨Nat.le_refl _, hq D H' ys hD sm hy hg hDl⟩
theorem fb_cut {l : List Nat} (hc : ∀ c ∈ l, c ∈ sg ∨ c = 10 ∨ c = 9) {f : Nat → Bool} (hf : ∀ i c, l[i]? = some c → f i = decide (c ∈ [10, 9])) : (((List.range l.length).filter f).map fun i : Nat => V.int (i : Int)).take 1 = match fb l with | none => [] | some b => [V.int b] := by
  have iff : ∀ i c, l[i]? = some c → (f i = true ↔ c ∉ sg) := fun i c e => by
    rw [hf i c e, decide_eq_true_iff]
    constructor
    · intro h
      simp only [List.mem_cons, List.not_mem_nil, or_false] at h
      rcases h with rfl | rfl <;> decide
    · intro h
      rcases hc c (List.mem_of_getElem? e) with z | rfl | rfl
      · exact absurd z h
      · decide
      · decide
  rw [← List.map_take, List.take_one, List.head?_filter]
  cases e : fb l with
  | none =>
    have := fb_none e
    rw [List.find?_eq_none.mpr fun i hi => ?_]
    · rfl
    · have hi : i < l.length := by simpa using hi
      rw [iff i l[i] (List.getElem?_eq_getElem hi)]
      exact fun z => z (this _ (List.getElem_mem hi))
  | some b =>
    unfold fb at e
    rw [List.findIdx?_eq_some_iff_getElem] at e
    obtain ⟨h1, h2, h3⟩ := e
    rw [show (List.range l.length).find? f = some b from ?_]
    · rfl
    · rw [List.find?_range_eq_some]
      refine ⟨(iff b l[b] (List.getElem?_eq_getElem h1)).mpr (by simpa using h2), by simpa using h1, fun j hj => ?_⟩
      have hjl : j < l.length := by omega
      have := h3 j hj
      have z : l[j] ∈ sg := by simpa using this
      simp only [Bool.not_eq_true']
      rw [← Bool.not_eq_true, iff j l[j] (List.getElem?_eq_getElem hjl)]
      exact fun y => y z
theorem same_put {H H' : Hp} {p : Addr} {o : HO} (hp : H p = none) (g : Same H H') : Same H (upd H' p o) := fun b u e => by
  rw [upd_ne (ne_of_none e hp)]
  exact g b u e
theorem atI_mod {α : Type} {xs : List α} {z m : Int} (hm : 0 < m) (hl : m = xs.length) : ∃ x ∈ xs, atI xs (z % m) = some x := by
  have h := mod_nn (a := z) (m := m) hm
  obtain ⟨v, e1, e2⟩ := atI_int (xs := xs) h.1 (by omega)
  exact ⟨v, List.mem_of_getElem? e2, e1⟩
theorem ty_of {K : PySem.W.Frag} {H : Hp} {v : V} (h : Itm K H v) : (∃ s, v = .str s ∧ TyOf K H v (.type "str")) ∨ (v = .non ∧ TyOf K H v (.type "NoneType")) ∨ (∃ b, v = .bl b ∧ TyOf K H v (.type "bool")) ∨ (∃ i, v = .int i ∧ TyOf K H v (.type "int")) ∨ (∃ a xs, v = .ref a ∧ H a = some (.lst xs) ∧ TyOf K H v (.type "list")) ∨ (∃ a xs, v = .ref a ∧ H a = some (.tup xs) ∧ TyOf K H v (.type "tuple")) ∨ (∃ a xs, v = .ref a ∧ H a = some (.dK xs) ∧ TyOf K H v (.type "dict")) := by
  rcases h with ⟨l, rfl, _⟩ | h
  · exact .inl ⟨_, rfl, .str _⟩
  · rcases h with rfl | ⟨i, rfl⟩ | ⟨i, rfl⟩ | ⟨a, xs, rfl, e⟩ | ⟨a, xs, rfl, e⟩ | ⟨a, xs, rfl, e⟩
    · exact .inr (.inl ⟨rfl, .non⟩)
    · exact .inr (.inr (.inl ⟨_, rfl, .bl i⟩))
    · exact .inr (.inr (.inr (.inl ⟨_, rfl, .int i⟩)))
    · exact .inr (.inr (.inr (.inr (.inl ⟨_, _, rfl, e, .lst e⟩))))
    · exact .inr (.inr (.inr (.inr (.inr (.inl ⟨_, _, rfl, e, .tup e⟩)))))
    · exact .inr (.inr (.inr (.inr (.inr (.inr ⟨_, _, rfl, e, .dK e⟩)))))
def isBl : V → Bool | .bl _ => true | _ => false
theorem ty_bool {K : PySem.W.Frag} {H : Hp} {v : V} (h : Itm K H v) : ∃ t, TyOf K H v t ∧ PySem.W.kitOne K t (.type "bool") = some (isBl v) := by
  rcases ty_of h with ⟨_, rfl, T⟩ | ⟨rfl, T⟩ | ⟨_, rfl, T⟩ | ⟨_, rfl, T⟩ | ⟨_, _, rfl, _, T⟩ | ⟨_, _, rfl, _, T⟩ | ⟨_, _, rfl, _, T⟩ <;> exact ⟨_, T, rfl⟩
theorem ty_list {K : PySem.W.Frag} {H : Hp} {v : V} (h : Itm K H v) : ∃ t, TyOf K H v t ∧ PySem.W.kitOne K t (.type "list") = some (isLs H v).isSome := by
  rcases ty_of h with ⟨_, rfl, T⟩ | ⟨rfl, T⟩ | ⟨_, rfl, T⟩ | ⟨_, rfl, T⟩ | ⟨_, _, rfl, e, T⟩ | ⟨_, _, rfl, e, T⟩ | ⟨_, _, rfl, e, T⟩ <;> refine ⟨_, T, ?_⟩ <;> first | rfl | (simp only [isLs, e]; rfl)
theorem ty_dict {K : PySem.W.Frag} {H : Hp} {v : V} (h : Itm K H v) : ∃ t, TyOf K H v t ∧ PySem.W.kitOne K t (.type "dict") = some (isDb H v) := by
  rcases ty_of h with ⟨_, rfl, T⟩ | ⟨rfl, T⟩ | ⟨_, rfl, T⟩ | ⟨_, rfl, T⟩ | ⟨_, _, rfl, e, T⟩ | ⟨_, _, rfl, e, T⟩ | ⟨_, _, rfl, e, T⟩ <;> refine ⟨_, T, ?_⟩ <;> first | rfl | (simp only [isDb, e]; rfl)
theorem ls_ref {H : Hp} {v : V} {xs : List V} (h : isLs H v = some xs) : ∃ a, v = .ref a ∧ H a = some (.lst xs) := by
  cases v <;> simp only [isLs] at h <;> try cases h
  rename_i a
  cases e : H a with
  | none => rw [e] at h; cases h
  | some o => rw [e] at h; cases o <;> first | (cases h; done) | (cases h; exact ⟨a, rfl, e⟩)
theorem Itm.upd {K : PySem.W.Frag} {H : Hp} {x : V} {D : Addr} {xs ys : List V} (h : Itm K H x) (e : H D = some (.lst xs)) : Itm K (upd H D (.lst ys)) x := by
  rcases h with h | h | h | h | ⟨a, zs, rfl, h⟩ | ⟨a, zs, rfl, h⟩ | ⟨a, zs, rfl, h⟩
  · exact .inl h
  · exact .inr (.inl h)
  · exact .inr (.inr (.inl h))
  · exact .inr (.inr (.inr (.inl h)))
  · by_cases z : a = D
    · subst z; exact .inr (.inr (.inr (.inr (.inl ⟨_, _, rfl, upd_same⟩))))
    · exact .inr (.inr (.inr (.inr (.inl ⟨_, _, rfl, by rw [upd_ne z]; exact h⟩))))
  · exact .inr (.inr (.inr (.inr (.inr (.inl ⟨_, _, rfl, by rw [upd_ne (fun z => by subst z; rw [e] at h; cases h)]; exact h⟩)))))
  · exact .inr (.inr (.inr (.inr (.inr (.inr ⟨_, _, rfl, by rw [upd_ne (fun z => by subst z; rw [e] at h; cases h)]; exact h⟩)))))
theorem Itm.updD {K : PySem.W.Frag} {H : Hp} {x : V} {D : Addr} {xs ys : Dc} (h : Itm K H x) (e : H D = some (.dK xs)) : Itm K (L2.upd H D (.dK ys)) x := by
  rcases h with h | h | h | h | ⟨a, zs, rfl, h⟩ | ⟨a, zs, rfl, h⟩ | ⟨a, zs, rfl, h⟩
  · exact .inl h
  · exact .inr (.inl h)
  · exact .inr (.inr (.inl h))
  · exact .inr (.inr (.inr (.inl h)))
  · exact .inr (.inr (.inr (.inr (.inl ⟨_, _, rfl, by rw [upd_ne (fun z => by subst z; rw [e] at h; cases h)]; exact h⟩))))
  · exact .inr (.inr (.inr (.inr (.inr (.inl ⟨_, _, rfl, by rw [upd_ne (fun z => by subst z; rw [e] at h; cases h)]; exact h⟩)))))
  · by_cases z : a = D
    · subst z; exact .inr (.inr (.inr (.inr (.inr (.inr ⟨_, _, rfl, upd_same⟩)))))
    · exact .inr (.inr (.inr (.inr (.inr (.inr ⟨_, _, rfl, by rw [upd_ne z]; exact h⟩)))))
theorem Val.updL {K : PySem.W.Frag} {H : Hp} {x : V} {D : Addr} {xs ys : List V} (h : Val K H x) (e : H D = some (.lst xs)) (hx : x ≠ .ref D) : Val K (L2.upd H D (.lst ys)) x := by
  refine ⟨h.1.upd e, fun zs hz => ?_⟩
  have : isLs H x = some zs := by
    cases x with
    | ref a => simp only [isLs, upd_ne (fun z : a = D => hx (by rw [z]))] at hz ⊢; exact hz
    | _ => exact hz
  exact ⟨(h.2 zs this).1, fun y hy => ((h.2 zs this).2 y hy).upd e⟩
theorem Val.updD {K : PySem.W.Frag} {H : Hp} {x : V} {D : Addr} {xs ys : Dc} (h : Val K H x) (e : H D = some (.dK xs)) : Val K (L2.upd H D (.dK ys)) x := by
  refine ⟨h.1.updD e, fun zs hz => ?_⟩
  have : isLs H x = some zs := by
    cases x with
    | ref a =>
      by_cases z : a = D
      · subst z; simp only [isLs, upd_same] at hz; cases hz
      · simp only [isLs, upd_ne z] at hz ⊢; exact hz
    | _ => exact hz
  exact ⟨(h.2 zs this).1, fun y hy => ((h.2 zs this).2 y hy).updD e⟩
theorem none_of {H H' : Hp} {p : Addr} (g : Same H H') (h : H' p = none) : H p = none := by
  cases e : H p with
  | none => rfl
  | some o => rw [g _ _ e] at h; cases h
theorem lc_listP {K : PySem.W.Frag} {a : Addr} {xs : List V} {tt : TT} {te : TE} {σ : L2.St} {H : Hp} {Q : VK} (f : V → Bool) (r : V → V) (hl : xs.length ≤ sizeLine) (ha : H a = some (.lst xs))
    (ht : ∀ c ∈ xs, ∀ H1, Same H H1 → ∀ R : Bool → Hp → Prop, R (f c) H1 → tt (some c :: σ) H1 R)
    (he : ∀ c ∈ xs, f c = true → ∀ H1, Same H H1 → ∀ R : VK, R (r c) H1 → te (some c :: σ) H1 R)
    (hq : ∀ D H2, H D = none → Same H H2 → H2 D = some (.lst ((xs.filter f).map r)) → Q (.ref D) H2) : lcBody (Itl K a) tt te σ H Q := by
  intro D hD
  refine ⟨fun i m ys H' => m = xs.length - i ∧ i ≤ xs.length ∧ ys = ((xs.take i).filter f).map r ∧ Same H H' ∧ H' D = some (.lst ys), ⟨xs.length, by simp, Nat.zero_le _, by simp, same_upd hD, upd_same⟩, ?_⟩
  rintro i m ys H' ⟨rfl, hi, hy, sm, hDl⟩
  refine ⟨hDl, ?_⟩
  have sq : SqL K H' a xs := SqL.of (sm _ _ ha)
  by_cases hlt : i < xs.length
  · refine .inr ⟨⟨xs, xs[i], sq, by simp [hlt]⟩, fun v H2 y => ?_⟩
    obtain ⟨rfl, y⟩ := y
    have hc := y xs sq
    have hm : v ∈ xs := List.mem_of_getElem? hc
    have hyl : ys.length ≤ i := by
      rw [hy, List.length_map]
      refine Nat.le_trans (List.length_filter_le _ _) ?_
      rw [List.length_take]
      exact Nat.min_le_left _ _
    have htk : xs.take (i + 1) = xs.take i ++ [v] := by rw [List.take_add_one, hc]; rfl
    refine ht v hm H2 sm _ ?_
    cases hf : f v with
    | true =>
      rw [if_pos rfl]
      refine he v hm hf H2 sm _ ⟨hDl, by omega, xs.length - (i + 1), by omega, rfl, hlt, ?_, ?_, upd_same⟩
      · rw [htk, List.filter_append, List.map_append, ← hy]
        simp [hf]
      · intro b o e
        rw [upd_ne (ne_of_none e hD)]
        exact sm b o e
    | false =>
      rw [if_neg (by decide)]
      refine ⟨xs.length - (i + 1), by omega, rfl, hlt, ?_, sm, hDl⟩
      rw [htk, List.filter_append, List.map_append, ← hy]
      simp [hf]
  · have e : i = xs.length := by omega
    subst e
    exact .inl ⟨⟨xs, sq, Nat.le_refl _⟩, hq D H' hD sm (by rw [hDl, hy, List.take_length])⟩
def dv (H : Hp) (k : Key) : V → Option V
  | .ref a => (match H a with | some (.dK d) => valV d k | _ => none)
  | _ => none
theorem filt_map (g : V → Option V) : ∀ xs : List V, (xs.filter fun c => (g c).isSome).map (fun c => (g c).getD .non) = xs.filterMap g
  | [] => rfl
  | x :: xs => by
    cases e : g x with
    | none => rw [List.filter_cons_of_neg (by simp [e]), List.filterMap_cons_none e]; exact filt_map g xs
    | some v => rw [List.filter_cons_of_pos (by simp [e]), List.filterMap_cons_some e, List.map_cons, filt_map g xs, e]; rfl
theorem scs_look {H : Hp} {k : Key} {as : List Addr} {kss : List Dc} (hl : as.length = kss.length) (h : ∀ (i : Nat) a d, as[i]? = some a → kss[i]? = some d → H a = some (.dK d)) : (as.map V.ref).filterMap (dv H k) = kss.filterMap fun d => valV d k := by
  have : (as.map V.ref).map (dv H k) = kss.map fun d => valV d k := by
    refine List.ext_getElem? fun i => ?_
    by_cases hi : i < as.length
    · have h2 : i < kss.length := by omega
      have := h i _ _ (List.getElem?_eq_getElem hi) (List.getElem?_eq_getElem h2)
      rw [List.getElem?_map, List.getElem?_map, List.getElem?_map, List.getElem?_eq_getElem hi, List.getElem?_eq_getElem h2]
      simp only [Option.map_some, dv, this]
    · rw [List.getElem?_eq_none_iff.mpr (by simp; omega), List.getElem?_eq_none_iff.mpr (by simp; omega)]
  have h2 := congrArg (List.filterMap id) this
  rw [List.filterMap_map (f := dv H k) (g := id), List.filterMap_map (f := fun d : Dc => valV d k) (g := id)] at h2
  exact h2

theorem q_need_text : @sp_need_text = @sp_need_text := by have := @sp_need_text.eq_1; rfl
theorem q_value_of : @sp_value_of = @sp_value_of := by have := @sp_value_of.eq_1; rfl
theorem q_text_of : @sp_text_of = @sp_text_of := by have := @sp_text_of.eq_1; rfl
theorem q_truth_of : @sp_truth_of = @sp_truth_of := by have := @sp_truth_of.eq_1; rfl
theorem q_rows_of : @sp_rows_of = @sp_rows_of := by have := @sp_rows_of.eq_1; rfl
theorem q__law_cell_at : @sp__law_cell_at = @sp__law_cell_at := by have := @sp__law_cell_at.eq_1; rfl
theorem q__law_mixed : @sp__law_mixed = @sp__law_mixed := by have := @sp__law_mixed.eq_1; rfl
theorem q__law_rest : @sp__law_rest = @sp__law_rest := by have := @sp__law_rest.eq_1; rfl
theorem q__law_names : @sp__law_names = @sp__law_names := by have := @sp__law_names.eq_1; rfl
theorem q__law_value : @sp__law_value = @sp__law_value := by have := @sp__law_value.eq_1; rfl
theorem q__law_scopes : @sp__law_scopes = @sp__law_scopes := by have := @sp__law_scopes.eq_1; rfl
theorem q__law_foreign : @sp__law_foreign = @sp__law_foreign := by have := @sp__law_foreign.eq_1; rfl
theorem q__law_due : @sp__law_due = @sp__law_due := by have := @sp__law_due.eq_1; rfl
theorem q__law_found : @sp__law_found = @sp__law_found := by have := @sp__law_found.eq_1; rfl
theorem q__law_is_the_very : @sp__law_is_the_very = @sp__law_is_the_very := by have := @sp__law_is_the_very.eq_1; rfl
theorem q_law : @sp_law = @sp_law := by have := @sp_law.eq_1; rfl
end My

set_option Elab.async false
set_option linter.all false
set_option maxRecDepth 100000
set_option maxHeartbeats 4000000
set_option pp.deepTerms true
set_option pp.maxSteps 200000
namespace My
open PySem L2 PySem.Spec PyProof.Rows
local macro_rules | `(tactic| walk_at "rd") => `(tactic| simp only [L2.start, N_need_text, N_value_of, N_text_of, N_truth_of, N_rows_of, N__law_cell_at, N__law_mixed, N__law_rest, N__law_names, N__law_value, N__law_scopes, N__law_foreign, N__law_due, N__law_found, N__law_is_the_very, N_law, sp_need_text, sp_value_of, sp_text_of, sp_truth_of, sp_rows_of, sp__law_cell_at, sp__law_mixed, sp__law_rest, sp__law_names, sp__law_value, sp__law_scopes, sp__law_foreign, sp__law_due, sp__law_found, sp__law_is_the_very, sp_law, tLC, iStr, iRng1, iRng2, iList, tFor_eq, tWhile_eq, tTrue, PySem.sizeLine_eq, atI_0, atI_1, Int.natCast_inj, atI_z, tSeq, tIfS, tRet, tRetN, tAsg, gName, tDrop, tNext, tNever, tOp, tUn, tVar, tC, tTest, tB, tAnd, tOr, tNot, tAndV, tOrV, tNotV, tIf, tCons, tNil, tCB, tCall, tLst, tCallX, tRaise, tTry, tAtX, rIsX, rIsXT, rIsInt, rIsBool, rIsStr, tTup, tBM, tBM0, tSl, tPart, tNoPart, tAug, ipI, rI, rI0, rU, rEq, rNe, scal, rIndex, rZfill, rJoin, rAppend, rIxL, rIxT, rIxSS, rLenL, rSlL, rMulS,iEnumS, cxKh, iEnumL, tLC2_eq, Nat.reduceEqDiff, tCallV, tKGet, tTruK, rIsA, rTupL, rCatU, rSlU, rStarts, rEqD, rNeD, iZip, rIntB, rClear, rExtend, tDGet, tDisp, tPairs, iRng3, rMulL, rIsB, rIsNotB, rEqTS, rAllB, rRepr, tChain, rMulT, iRevT, iRevL, tRepl, gSub, rSetL, tRevS, tBreak, rPop, tDGet2, rNeI, rEq0, rNe0, rEqDL, rDIn, rSetD, rDictD, tCallXV, tDUpd, iTup, rIn, rListS, rIsStrA, tD0, rEqS, rNeS, rInsert, rCat, gTup, gCons, gNil, tyV_str, cxK, cxK0, blkK, nc0, nc1, nc2, nc3, nc94, sg_len, List.map_cons, List.map_nil, List.length_cons, List.length_nil, List.replicate, List.cons_append, List.nil_append, List.append_nil, List.getElem?_cons_zero, List.getElem?_cons_succ, List.set_cons_zero, List.set_cons_succ, Option.some.injEq, List.cons.injEq, V.int.injEq, V.str.injEq, V.bl.injEq, V.ref.injEq, V.ty.injEq, S_inj, V_inj, and_true, true_and, eq_self, and_assoc, exists_eq_left, exists_eq_left', exists_eq_right, exists_eq, exists_eq', exists_and_left, exists_and_right, exists_const, reduceCtorEq, false_and, and_false, or_false, false_or, exists_false, Nat.reduceAdd, Nat.reduceSub, Int.reduceLT, Int.reduceLE, Nat.reduceLeDiff, Nat.reduceLT, Int.reduceEq, Nat.sub_self, decide_eq_true_eq, decide_true, decide_false, ite_t, ite_f, if_true, if_false, Bool.not_true, Bool.not_false, Bool.false_eq_true, ↓reduceIte])
section
variable {P : Program} {w : World} {K : PySem.W.Frag} {mg : Str → Option Value} {base : Heap} {t : Ads}
theorem ok_law_cell_at (T : Txt K mg t) (D : Df K mg "_law_cell_at" s__law_cell_at ps__law_cell_at) : OkF P w K mg base 1 "_law_cell_at" ps__law_cell_at (sp__law_cell_at K) := by
  refine D.ok sc__law_cell_at (fun vs H Q E h => ?_) (fun f cdv A outer s H vs Q E hr h => ?_)
  · obtain ⟨_, _, _, rfl, _⟩ := h; rfl
  · obtain ⟨a, ns, k, rfl, hS, hk, q⟩ := h
    refine ⟨_, ((qss_cons (qs_if (qt_cmpR op_lt (qv 1) (qe_callB (call_lenLK (K := K) (by rfl)) (by rfl) T.z_len bb_len (qa_cons (qv 0) qa_nil)) (nomark _)) (qss_one (qs_ret (qe_ix (ix_listK (K := K) (by rfl)) (qv 0) (qv 1) (fun _ _ => (by rfl))))) qss_nil)
      (qss_one (qs_ret qe_int)))).h, ?_⟩
    walk_at "rd"
    refine ⟨_, .inl hS, ?_⟩
    rw [List.length_map]
    by_cases hlt : k < ns.length
    · rw [if_pos hlt]
      obtain ⟨n, e, _⟩ := atI_ints hk hlt
      exact ⟨_, hS, _, e, q _ H (Same.refl H)⟩
    · rw [if_neg hlt]
      exact q _ H (Same.refl H)
theorem ok_law_mixed (T : Txt K mg t) (D : Df K mg "_law_mixed" s__law_mixed ps__law_mixed) : OkF P w K mg base 1 "_law_mixed" ps__law_mixed sp__law_mixed := by
  refine D.ok sc__law_mixed (fun vs H Q E h => ?_) (fun f cdv A outer s H vs Q E hr h => ?_)
  · obtain ⟨_, _, rfl, _⟩ := h; rfl
  · obtain ⟨c, k, rfl, q⟩ := h
    refine ⟨_, ((qss_cons (qs_set (i := 2) sc__law_mixed.nd (by rfl) (Or.inl (by rfl)) (qe_ix (ix_listK (K := K) (by rfl)) (qe_lst (qa_cons qe_int (qa_cons qe_int (qa_cons qe_int (qa_cons qe_int (qa_cons qe_int (qa_cons qe_int (qa_cons qe_int (qa_cons qe_int qa_nil))))))))) (qe_op op_mod (qv 1) qe_int) (fun _ _ => (by rfl))))
      (qss_cons (qs_set (i := 3) sc__law_mixed.nd (by rfl) (Or.inl (by rfl)) (qe_ix (ix_listK (K := K) (by rfl)) (qe_lst (qa_cons qe_int (qa_cons qe_int (qa_cons qe_int (qa_cons qe_int (qa_cons qe_int (qa_cons qe_int (qa_cons qe_int qa_nil)))))))) (qe_op op_mod (qv 1) qe_int) (fun _ _ => (by rfl))))
      (qss_cons (qs_set (i := 4) sc__law_mixed.nd (by rfl) (Or.inl (by rfl)) (qe_op op_mod (qe_op op_mulI (qe_op op_add (qe_op op_mod (qv 0) qe_int) qe_int) (qv 2)) qe_int))
      (qss_one (qs_ret (qe_op op_mod (qe_op op_mulI (qe_op op_add (qv 4) qe_int) (qv 3)) qe_int))))))).h, ?_⟩
    walk_at "rd"
    refine fun p hp => ⟨_, SqL.of upd_same, ?_⟩
    obtain ⟨n1, e1, _⟩ := atI_ints (ns := [1000000007, 1181783503, 1372345291, 1518500279, 1636201513, 1734723539, 1871234567, 2012345681]) (i := k % 8) (mod_nn (by decide)).1 (mod_nn (by decide)).2
    refine ⟨_, e1, fun p2 hp2 => ⟨_, SqL.of upd_same, ?_⟩⟩
    obtain ⟨n2, e2, _⟩ := atI_ints (ns := [100000000003, 223606797763, 314159265359, 414213562379, 577215664943, 693147180563, 732050807573]) (i := k % 7) (mod_nn (by decide)).1 (mod_nn (by decide)).2
    refine ⟨_, e2, ?_⟩
    have m1 := mod_nn (a := c) (m := 1000000000039) (by decide)
    have m2 := mod_nn (a := (c % 1000000000039 + 1) * n1) (m := 2147483629) (by decide)
    have m3 := mod_nn (a := ((c % 1000000000039 + 1) * n1 % 2147483629 + 1) * n2) (m := 999999999989) (by decide)
    refine ⟨n1, rfl, mulOk_l (by omega), n2, rfl, mulOk_l (by omega), ?_⟩
    have hh : ∀ H', Same H H' → Q (.int (((c % 1000000000039 + 1) * n1 % 2147483629 + 1) * n2 % 999999999989)) H' := fun H' g => by
      have := q (((c % 1000000000039 + 1) * n1 % 2147483629 + 1) * n2 % 999999999989).toNat H' g
      rw [Int.toNat_of_nonneg m3.1] at this
      exact this
    exact hh _ ((same_upd hp).trans (same_upd hp2))
theorem ok_law_rest (T : Txt K mg t) (D : Df K mg "_law_rest" s__law_rest ps__law_rest) (F__law_mixed : OkF P w K mg base 1 "_law_mixed" ps__law_mixed sp__law_mixed) : OkF P w K mg base 2 "_law_rest" ps__law_rest sp__law_rest := by
  refine D.ok sc__law_rest (fun vs H Q E h => ?_) (fun f cdv A outer s H vs Q E hr h => ?_)
  · obtain ⟨_, rfl, _⟩ := h; rfl
  · obtain ⟨c, rfl, q⟩ := h
    refine ⟨_, ((qss_cons (qs_if (qt_cmpR op_ge (qv 0) (qe_op op_pow qe_int qe_int) (nomark _)) (qss_one (qs_ret (qv 0))) qss_nil)
      (qss_one (qs_ret (qe_callF F__law_mixed hr (by decide) (qa_cons (qv 0) (qa_cons qe_int qa_nil))))))).h, ?_⟩
    walk_at "rd"
    refine ⟨by unfold CPow; decide, ?_⟩
    split
    · rename_i h18
      exact q _ _ (Int.le_trans (by decide) h18) (Same.refl H)
    · exact fun v H' g => q _ H' (by omega) g
def nInv (l : List Nat) (H : Hp) (i : Nat) (σ : L2.St) (H' : Hp) : Prop := ∃ o1 o2 : Option V, σ = [some (.str (S l)), o1, o2] ∧ (∀ c ∈ l.take i, c ∈ sg) ∧ Same H H'
theorem ok_need_text (T : Txt K mg t) (D : Df K mg "need_text" s_need_text ps_need_text) (R_NoSign : Err P w K mg base "NoSign" t.NoSign "at" payT) : OkX P w K mg base 3 "need_text" ps_need_text (sp_need_text K t) := by
  refine D.okX sc_need_text (fun vs H Q E h => ?_) (fun f cdv A outer s H vs Q E hr h => ?_)
  · obtain ⟨_, _, rfl, _⟩ := h; rfl
  · obtain ⟨x, r, rfl, hR, k, kx⟩ := h
    refine ⟨_, ((qss_cons (qs_if (qt_not (qt_val (qe_callB (call_isstrAK (K := K) (by rfl)) (by rfl) T.z_isinstance bb_isinstance (qa_cons (qv 0) (qa_cons (qe_blt (v := .ty "str") T.z_str bb_str (by rfl)) qa_nil))))) (qss_one (qs_raise thr_leave R_NoSign hr (by decide) (qa_cons qe_int qa_nil))) qss_nil)
      (qss_cons (qs_for PassesOwn.leaving (by rfl) (qi_enumS (by rfl) T.z_enumerate (qa_cons (qv 0) qa_nil)) (qg_tup (n := 2) (by rfl) (qgs_cons (qg_name (i := 1) sc_need_text.nd (by rfl) (Or.inl (by rfl))) (qgs_cons (qg_name (i := 2) sc_need_text.nd (by rfl) (Or.inl (by rfl))) qgs_nil))) (qss_one (qs_if (qt_cmpR op_notinS (qv 2) (qe_gl T.g_SIGNS) (by rfl)) (qss_one (qs_raise thr_leave R_NoSign hr (by decide) (qa_cons (qv 1) qa_nil))) qss_nil)))
      (qss_one (qs_ret (qv 0)))))).h, ?_⟩
    walk_at "rd"
    rcases hR with ⟨l, rfl, hl, rfl⟩ | ⟨hN, rfl⟩
    · refine .inl ⟨⟨_, rfl⟩, _, rfl, ?_⟩
      refine fb_enumS (nInv l H) ⟨none, none, rfl, by simp, Same.refl H⟩ ?_ ?_
      · rintro i c σ H1 hi ⟨o1, o2, rfl, ha, g1⟩ p hp
        have hil := (List.getElem?_eq_some_iff.mp hi).1
        walk_at "rd"
        by_cases hc : c ∈ sg
        · rw [if_neg (by simp [hc])]
          refine ⟨_, _, rfl, ?_, g1.trans (same_upd hp)⟩
          rw [take_snoc hi]
          intro d hd
          rcases List.mem_append.mp hd with z | z
          · exact ha d z
          · rw [List.mem_singleton.mp z]; exact hc
        · rw [if_pos (by simp [hc])]
          refine ⟨.inl ⟨_, rfl, by omega, by omega⟩, fun d H2 s2 _ e => kx i ?_ d H2 (g1.trans ((same_upd hp).trans s2)) e⟩
          unfold fb
          rw [List.findIdx?_eq_some_iff_getElem]
          refine ⟨hil, by rw [(List.getElem?_eq_some_iff.mp hi).2]; simp [hc], fun j hj => ?_⟩
          have : l[j] ∈ l.take i := by
            rw [List.mem_take_iff_getElem]
            exact ⟨j, by omega, rfl⟩
          simp [ha _ this]
      · rintro σ H1 ⟨o1, o2, rfl, ha, g1⟩
        walk_at "rd"
        refine k ?_ H1 g1
        unfold fb
        rw [List.findIdx?_eq_none_iff]
        intro c hc
        rw [List.take_length] at ha
        simp [ha c hc]
    · exact .inr ⟨hN, .inl ⟨_, rfl, by omega, by omega⟩, fun d H2 s2 _ e => kx 0 rfl d H2 s2 e⟩

end

section
variable {P : Program} {w : World} {K : PySem.W.Frag} {mg : Str → Option Value} {base : Heap} {t : Ads}
def vI (sc : Addr) (n : List Nat) (kss : List Dc) (H : Hp) (i : Nat) (σ : L2.St) (H' : Hp) : Prop := ∃ o : Option V, σ = [some (.ref sc), some (.str (S n)), o] ∧ Same H H' ∧ look kss (.inr (S n)) = look (kss.take (kss.length - i)) (.inr (S n))
theorem ok_value_of (T : Txt K mg t) (D : Df K mg "value_of" s_value_of ps_value_of) (R_NoValue : Err P w K mg base "NoValue" t.NoValue "name" payT) : OkX P w K mg base 3 "value_of" ps_value_of (sp_value_of K t) := by
  refine D.okX sc_value_of (fun vs H Q E h => ?_) (fun f cdv A outer s H vs Q E hr h => ?_)
  · obtain ⟨_, _, _, rfl, _⟩ := h; rfl
  · obtain ⟨sc, n, kss, rfl, ⟨as, hsc, hl, h10, hd⟩, hn, _, q⟩ := h
    refine ⟨_, ((qss_cons (qs_for PassesOwn.leaving (by rfl) (qi_revL (K := K) (by rfl) (by rfl) T.z_reversed (qa_cons (qv 0) qa_nil)) (qg_name (i := 2) sc_value_of.nd (by rfl) (Or.inl (by rfl))) (qss_one (qs_if (qt_cmpR (op_dIn (hu_of hr)) (qv 1) (qv 2) (by rfl)) (qss_one (qs_ret (qe_dget (hu_of hr) (qv 2) (qv 1) (by intro _ _; rfl)))) qss_nil)))
      (qss_one (qs_raise thr_leave R_NoValue hr (by decide) (qa_cons (qv 1) qa_nil))))).h, ?_⟩
    walk_at "rd"
    refine ⟨as.map V.ref, SqL.of hsc, ?_⟩
    refine fb_revL (vI sc n kss H) ⟨none, rfl, Same.refl H, by rw [Nat.sub_zero, List.take_length]⟩ ?_ ?_ ?_
    · rintro i σ H1 _ ⟨o, _, g, _⟩
      exact SqL.of (g _ _ hsc)
    · rintro i x σ H1 hi ⟨o, rfl, g, hk⟩
      have hil : i < as.length := by
        have := (List.getElem?_eq_some_iff.mp hi).1
        simpa using this
      rw [List.getElem?_reverse (by simpa using hil), List.length_map, List.getElem?_map, List.getElem?_eq_getElem (by omega)] at hi
      cases hi
      have hj : as.length - 1 - i < kss.length := by omega
      have hd1 := g _ _ (hd _ _ _ (List.getElem?_eq_getElem (by omega : as.length - 1 - i < as.length)) (List.getElem?_eq_getElem hj))
      have lt := look_take (k := .inr (S n)) (List.getElem?_eq_getElem hj)
      rw [show as.length - 1 - i + 1 = kss.length - i by omega, ← hk] at lt
      walk_at "rd"
      refine ⟨_, .k (k := .inr (S n)) hd1, ?_⟩
      cases e : valV kss[as.length - 1 - i] (.inr (S n)) with
      | none =>
        rw [if_neg (by simp)]
        refine ⟨_, rfl, g, ?_⟩
        rw [lt, e, Option.none_or, show as.length - 1 - i = kss.length - (i + 1) by omega]
      | some v =>
        rw [if_pos (by rfl)]
        refine ⟨v, ?_, ?_⟩
        · have := DGet.k (k := .inr (S n)) hd1
          rw [e] at this
          exact this
        · rw [e, Option.some_or] at lt
          unfold outc at q
          rw [lt] at q
          exact q _ g
    · rintro σ H1 ⟨o, rfl, g, hk⟩
      walk_at "rd"
      refine ⟨.inr ⟨_, rfl, by show n.length ≤ _; omega⟩, fun d H2 g2 _ e => ?_⟩
      rw [List.length_map, hl, Nat.sub_self] at hk
      unfold outc at q
      rw [hk] at q
      exact q d H2 (g.trans g2) e
theorem ok_text_of (T : Txt K mg t) (D : Df K mg "text_of" s_text_of ps_text_of) (F_value_of : OkX P w K mg base 3 "value_of" ps_value_of (sp_value_of K t)) (F_need_text : OkX P w K mg base 3 "need_text" ps_need_text (sp_need_text K t)) (R_NoKind : Err P w K mg base "NoKind" t.NoKind "name" payT) : OkX P w K mg base 4 "text_of" ps_text_of (sp_text_of K t) := by
  refine D.okX sc_text_of (fun vs H Q E h => ?_) (fun f cdv A outer s H vs Q E hr h => ?_)
  · obtain ⟨_, _, _, rfl, _⟩ := h; rfl
  · obtain ⟨sc, n, kss, rfl, hs, hn, hv, q⟩ := h
    refine ⟨_, ((qss_cons (qs_set (i := 2) sc_text_of.nd (by rfl) (Or.inl (by rfl)) (qe_callX thr_leave F_value_of hr (by decide) (qa_cons (qv 0) (qa_cons (qv 1) qa_nil))))
      (qss_cons (qs_if (qt_not (qt_val (qe_callB (call_isstrAK (K := K) (by rfl)) (by rfl) T.z_isinstance bb_isinstance (qa_cons (qv 2) (qa_cons (qe_blt (v := .ty "str") T.z_str bb_str (by rfl)) qa_nil))))) (qss_one (qs_raise thr_leave R_NoKind hr (by decide) (qa_cons (qv 1) qa_nil))) qss_nil)
      (qss_one (qs_ret (qe_callX thr_leave F_need_text hr (by decide) (qa_cons (qv 2) qa_nil))))))).h, ?_⟩
    walk_at "rd"
    refine ⟨sc, n, kss, rfl, hs, hn, fun h => absurd h (by decide), ?_⟩
    unfold outc at q ⊢
    cases hk : look kss (.inr (S n)) with
    | none => rw [hk] at q; exact q
    | some v =>
      rw [hk] at q
      obtain ⟨d, hd, kv, hm, rfl⟩ := look_mem hk
      obtain ⟨hV, _⟩ := hv (by decide) d hd kv hm
      intro H1 g1
      rcases hV.1 with ⟨l, e, hl, hc⟩ | hN
      · rw [e] at q ⊢
        refine .inl ⟨⟨_, rfl⟩, fb l, .inl ⟨l, rfl, by omega, rfl⟩, fun h0 H2 g2 => ?_, fun b hb d H2 g2 hd => ?_⟩
        · have q : Ans t n Q E H (match fb l with | none => .told (.str (S l)) | some b => .sign b) := q
          rw [h0] at q
          exact q _ (g1.trans g2)
        · have q : Ans t n Q E H (match fb l with | none => .told (.str (S l)) | some b => .sign b) := q
          rw [hb] at q
          exact q _ _ (g1.trans g2) hd
      · refine .inr ⟨hN.mono g1, .inr ⟨_, rfl, by show n.length ≤ _; omega⟩, fun d H2 g2 _ e => ?_⟩
        have : oc H kv.2 1 = .kind := by
          rcases hN with e | ⟨_, e⟩ | ⟨_, e⟩ | ⟨b, xs, e, h⟩ | ⟨b, xs, e, h⟩ | ⟨b, xs, e, h⟩ <;> rw [e] <;> rfl
        have q : Ans t n Q E H (oc H kv.2 1) := q
        rw [this] at q
        exact q d H2 (g1.trans g2) e
theorem ok_truth_of (T : Txt K mg t) (D : Df K mg "truth_of" s_truth_of ps_truth_of) (F_value_of : OkX P w K mg base 3 "value_of" ps_value_of (sp_value_of K t)) (R_NoKind : Err P w K mg base "NoKind" t.NoKind "name" payT) : OkX P w K mg base 4 "truth_of" ps_truth_of (sp_truth_of K t) := by
  refine D.okX sc_truth_of (fun vs H Q E h => ?_) (fun f cdv A outer s H vs Q E hr h => ?_)
  · obtain ⟨_, _, _, rfl, _⟩ := h; rfl
  · obtain ⟨sc, n, kss, rfl, hs, hn, hv, q⟩ := h
    refine ⟨_, ((qss_cons (qs_set (i := 2) sc_truth_of.nd (by rfl) (Or.inl (by rfl)) (qe_callX thr_leave F_value_of hr (by decide) (qa_cons (qv 0) (qa_cons (qv 1) qa_nil))))
      (qss_cons (qs_if (qt_not (qt_val (qe_callB (call_isAK (K := K) (n := "bool") (by rfl)) (by rfl) T.z_isinstance bb_isinstance (qa_cons (qv 2) (qa_cons (qe_blt (v := .ty "bool") T.z_bool bb_bool (by rfl)) qa_nil))))) (qss_one (qs_raise thr_leave R_NoKind hr (by decide) (qa_cons (qv 1) qa_nil))) qss_nil)
      (qss_one (qs_ret (qv 2)))))).h, ?_⟩
    walk_at "rd"
    refine ⟨sc, n, kss, rfl, hs, hn, fun h => absurd h (by decide), ?_⟩
    unfold outc at q ⊢
    cases hk : look kss (.inr (S n)) with
    | none => rw [hk] at q; exact q
    | some v =>
      rw [hk] at q
      obtain ⟨d, hd, kv, hm, rfl⟩ := look_mem hk
      obtain ⟨hV, _⟩ := hv (by decide) d hd kv hm
      intro H1 g1
      obtain ⟨tt, h1, h2⟩ := ty_bool (hV.1.mono g1)
      refine ⟨tt, h1, _, h2, ?_⟩
      generalize kv.2 = v at q ⊢
      cases v with
      | bl b => rw [if_neg (by simp [isBl])]; exact q _ g1
      | _ => rw [if_pos (by rfl)]; exact ⟨.inr ⟨_, rfl, by show n.length ≤ _; omega⟩, fun d H2 g2 _ e => q d H2 (g1.trans g2) e⟩
theorem ok_rows_of (T : Txt K mg t) (D : Df K mg "rows_of" s_rows_of ps_rows_of) (F_value_of : OkX P w K mg base 3 "value_of" ps_value_of (sp_value_of K t)) (R_NoKind : Err P w K mg base "NoKind" t.NoKind "name" payT) : OkX P w K mg base 4 "rows_of" ps_rows_of (sp_rows_of K t) := by
  refine D.okX sc_rows_of (fun vs H Q E h => ?_) (fun f cdv A outer s H vs Q E hr h => ?_)
  · obtain ⟨_, _, _, rfl, _⟩ := h; rfl
  · obtain ⟨sc, n, kss, rfl, hs, hn, hv, q⟩ := h
    refine ⟨_, ((qss_cons (qs_set (i := 2) sc_rows_of.nd (by rfl) (Or.inl (by rfl)) (qe_callX thr_leave F_value_of hr (by decide) (qa_cons (qv 0) (qa_cons (qv 1) qa_nil))))
      (qss_cons (qs_if (QW.qt (qw_or (qt_not (qt_val (qe_callB (call_isAK (K := K) (n := "list") (by rfl)) (by rfl) T.z_isinstance bb_isinstance (qa_cons (qv 2) (qa_cons (qe_blt (v := .ty "list") T.z_list bb_list (by rfl)) qa_nil))))) (qw_or1 (qt_cmpR op_gt (qe_callB (call_lenLK (K := K) (by rfl)) (by rfl) T.z_len bb_len (qa_cons (qv 2) qa_nil)) (qe_gl T.g_MOST_ROWS) (nomark _))))) (qss_one (qs_raise thr_leave R_NoKind hr (by decide) (qa_cons (qv 1) qa_nil))) qss_nil)
      (qss_cons (qs_if (qt_not (qt_val (qe_callB (call_allB (by rfl)) (by rfl) T.z_all bb_all (qa_cons ⟨pe_lc (lcs (N := N_rows_of) (sc := defScope s_rows_of) rfl rfl rfl (by decide +kernel)) ((qi_listK (K := K) (by rfl) (qv 2))).h (fun _ _ _ _ _ => qts_nil.h) (fun _ _ _ _ _ => ((qe_callB (call_isAK (K := K) (n := "dict") (by rfl)) (by rfl) T.z_isinstance bb_isinstance (qa_cons (qv 0) (qa_cons (qe_blt (v := .ty "dict") T.z_dict bb_dict (by rfl)) qa_nil)))).h)⟩ qa_nil)))) (qss_one (qs_raise thr_leave R_NoKind hr (by decide) (qa_cons (qv 1) qa_nil))) qss_nil)
      (qss_one (qs_ret (qv 2))))))).h, ?_⟩
    walk_at "rd"
    refine ⟨sc, n, kss, rfl, hs, hn, fun h => absurd h (by decide), ?_⟩
    unfold outc at q ⊢
    cases hk : look kss (.inr (S n)) with
    | none => rw [hk] at q; exact q
    | some v =>
      rw [hk] at q
      obtain ⟨d, hd, kv, hm, rfl⟩ := look_mem hk
      obtain ⟨hV, _⟩ := hv (by decide) d hd kv hm
      intro H1 g1
      obtain ⟨tt, h1, h2⟩ := ty_list (hV.1.mono g1)
      have hp : payT (.str (S n)) := .inr ⟨_, rfl, by show n.length ≤ _; omega⟩
      refine ⟨tt, h1, _, h2, ?_⟩
      have hV1 := hV.mono g1
      have q : Ans t n Q E H (oc H1 kv.2 3) := by rw [oc_mono hV g1]; exact q
      have q : Ans t n Q E H (match isLs H1 kv.2 with | some xs => if xs.length ≤ 60 ∧ xs.all (isDb H1) = true then R3.told kv.2 else .kind | none => .kind) := q
      cases e : isLs H1 kv.2 with
      | none =>
        rw [if_pos (by rfl)]
        rw [e] at q
        exact ⟨hp, fun d H2 g2 _ e => q d H2 (g1.trans g2) e⟩
      | some xs =>
        rw [if_neg (by simp)]
        obtain ⟨a, ev, ea⟩ := ls_ref e
        rw [e] at q
        simp only at q
        obtain ⟨hx1, hx2⟩ := hV1.2 xs e
        refine ⟨a, ev, xs, .inl (SqL.of ea), ?_⟩
        by_cases h60 : xs.length ≤ 60
        · rw [if_neg (by omega)]
          refine ⟨a, ev, ⟨_, SqL.of ea⟩, ?_⟩
          refine lc_listG (xs := xs) (fun c v _ => v = .bl (isDb H1 c)) (fun _ _ _ _ h _ => h) (fun _ _ _ _ _ _ h _ => h) (by rw [PySem.sizeLine_eq]; omega) ea (fun c hc H2 g2 R r => ?_) (fun D H2 ys hD g2 hy hG eD => ?_)
          · walk_at "rd"
            obtain ⟨tt, h1, h2⟩ := ty_dict ((hx2 c hc).mono g2)
            rw [isDb_mono (hx2 c hc) g2] at h2
            exact ⟨tt, h1, _, h2, r _ H2 (Same.refl _) rfl⟩
          · have ey : ys = (xs.map (isDb H1)).map V.bl := by
              refine List.ext_getElem? fun i => ?_
              by_cases hi : i < xs.length
              · rw [List.getElem?_eq_getElem (by omega : i < ys.length), List.map_map, List.getElem?_map, List.getElem?_eq_getElem hi]
                exact congrArg some (hG i _ _ (List.getElem?_eq_getElem hi) (List.getElem?_eq_getElem (by omega)))
              · rw [List.getElem?_eq_none_iff.mpr (by omega), List.getElem?_eq_none_iff.mpr (by simp; omega)]
            refine ⟨D, rfl, xs.map (isDb H1), by rw [eD, ey], ?_⟩
            rw [List.all_map]
            by_cases ha : xs.all (isDb H1) = true
            · rw [if_neg (by rw [show xs.all (id ∘ isDb H1) = true from ha]; decide)]
              rw [if_pos ⟨h60, ha⟩] at q
              exact q _ (g1.trans g2)
            · rw [if_pos (by rw [show xs.all (id ∘ isDb H1) = false from by simpa using ha]; rfl)]
              rw [if_neg fun z => ha z.2] at q
              exact ⟨hp, fun d H3 g3 _ e => q d H3 (g1.trans (g2.trans g3)) e⟩
        · rw [if_pos (by omega)]
          rw [if_neg fun z => h60 z.1] at q
          exact ⟨hp, fun d H2 g2 _ e => q d H2 (g1.trans g2) e⟩

end

section
variable {P : Program} {w : World} {K : PySem.W.Frag} {mg : Str → Option Value} {base : Heap} {t : Ads}
theorem cut_lo {v : List V} {n : Nat} : cutV v none (some (n : Int)) = v.take n := by
  unfold cutV
  rw [HT.sIx_nat, HT.sIx_none, List.drop_zero, Nat.sub_zero]
  by_cases h : n ≤ v.length
  · rw [Nat.min_eq_left h]
  · rw [Nat.min_eq_right (by omega), List.take_of_length_le (Nat.le_refl _), List.take_of_length_le (by omega)]
theorem cut_1 (xs : List V) : cutV xs none (some 1) = xs.take 1 := cut_lo (n := 1)
theorem cutN_len {v : List Nat} {lo hi : Option Int} : (cutN v lo hi).length ≤ v.length := by
  unfold cutN
  rw [List.length_take, List.length_drop]
  omega
theorem ok_law_foreign (T : Txt K mg t) (D : Df K mg "_law_foreign" s__law_foreign ps__law_foreign) : OkF P w K mg base 1 "_law_foreign" ps__law_foreign sp__law_foreign := by
  refine D.ok sc__law_foreign (fun vs H Q E h => ?_) (fun f cdv A outer s H vs Q E hr h => ?_)
  · obtain ⟨_, rfl, _⟩ := h; rfl
  · obtain ⟨l, rfl, ⟨hl, hc⟩, q⟩ := h
    refine ⟨_, ((qss_cons ⟨ps_setLC (i := 1) sc__law_foreign.nd rfl (Or.inl rfl) (lcs (N := N__law_foreign) (sc := defScope s__law_foreign) rfl rfl rfl (by decide +kernel)) ((qi_range1 (by rfl) T.z_range (qa_cons (qe_callB call_lenS (by rfl) T.z_len bb_len (qa_cons (qv 0) qa_nil)) qa_nil))).h (fun _ _ _ _ _ => (qts_one (qt_cmpR op_inS (qe_ix ix_S (qv 1) (qv 0) (fun _ _ => (by rfl))) (qe_S (l := [10, 9]) (by decide +kernel)) (by rfl))).h) (fun _ _ _ _ _ => ((qv 0)).h)⟩
      (qss_one (qs_ret (qe_slice (sl_listK (K := K) (by rfl)) (qv 1) qo_none (qo_some qe_int)))))).h, ?_⟩
    walk_at "rd"
    refine ⟨by omega, by omega, by omega, ?_⟩
    refine lc_rangeF (n := l.length) (fun i => decide (l.getD i 0 ∈ [10, 9])) (by rw [PySem.sizeLine_eq]; omega) (fun i hi H1 g1 R r => ?_) (fun D H2 hD g2 e => ?_)
    · walk_at "rd"
      refine ⟨by omega, l[i], List.getElem?_eq_getElem hi, ?_⟩
      rw [List.getD_eq_getElem?_getD, List.getElem?_eq_getElem hi] at r
      exact r
    · refine ⟨D, rfl, _, SqL.of e, fun p hp => ?_⟩
      refine q p _ (g2.trans (same_upd hp)) ?_
      rw [upd_same, cut_1, fb_cut hc fun i c e => by rw [List.getD_eq_getElem?_getD, e]; rfl]
def nO (c : Int) (p : Addr) (H : Hp) (i : Nat) (σ : L2.St) (H' : Hp) : Prop := ∃ (o5 o6 o7 : Option V) (ns : List (List Nat)), σ = [some (.int c), some (.str (S lt)), some (.int (1 + c % 8)), some (.int (c / 8 % (1 + c % 8))), some (.ref p), o5, o6, o7] ∧ Same H H' ∧ H' p = some (.lst (ns.map fun n => V.str (S n))) ∧ ns.length = i ∧ ∀ n ∈ ns, n.length ≤ 8
def nI (c : Int) (p : Addr) (H : Hp) (k : Nat) (ns : List (List Nat)) (i : Nat) (σ : L2.St) (H' : Hp) : Prop := ∃ (l : List Nat) (o7 : Option V), σ = [some (.int c), some (.str (S lt)), some (.int (1 + c % 8)), some (.int (c / 8 % (1 + c % 8))), some (.ref p), some (.int k), some (.str (S l)), o7] ∧ Same H H' ∧ H' p = some (.lst (ns.map fun n => V.str (S n))) ∧ l.length = i
theorem ok_law_names (T : Txt K mg t) (D : Df K mg "_law_names" s__law_names ps__law_names) (F__law_mixed : OkF P w K mg base 1 "_law_mixed" ps__law_mixed sp__law_mixed) : OkF P w K mg base 2 "_law_names" ps__law_names sp__law_names := by
  refine D.ok sc__law_names (fun vs H Q E h => ?_) (fun f cdv A outer s H vs Q E hr h => ?_)
  · obtain ⟨_, rfl, _⟩ := h; rfl
  · obtain ⟨c, rfl, q⟩ := h
    refine ⟨_, ((qss_cons (qs_set (i := 1) sc__law_names.nd (by rfl) (Or.inl (by rfl)) (qe_S (l := [97, 98, 99, 100, 101, 102, 103, 104, 105, 106, 107, 108, 109, 110, 111, 112, 113, 114, 115, 116, 117, 118, 119, 120, 121, 122]) (by decide +kernel)))
      (qss_cons (qs_set (i := 2) sc__law_names.nd (by rfl) (Or.inl (by rfl)) (qe_op op_add qe_int (qe_op op_mod (qv 0) qe_int)))
      (qss_cons (qs_set (i := 3) sc__law_names.nd (by rfl) (Or.inl (by rfl)) (qe_op op_mod (qe_op op_fdiv (qv 0) qe_int) (qv 2)))
      (qss_cons (qs_set (i := 4) sc__law_names.nd (by rfl) (Or.inl (by rfl)) (qe_lst qa_nil))
      (qss_cons (qs_for PassesOwn.never (by rfl) (qi_range1 (by rfl) T.z_range (qa_cons qe_int qa_nil)) (qg_name (i := 5) sc__law_names.nd (by rfl) (Or.inl (by rfl))) (qss_cons (qs_set (i := 6) sc__law_names.nd (by rfl) (Or.inl (by rfl)) (qe_S (l := []) (by decide +kernel)))
      (qss_cons (qs_for PassesOwn.never (by rfl) (qi_range1 (by rfl) T.z_range (qa_cons (qv 2) qa_nil)) (qg_name (i := 7) sc__law_names.nd (by rfl) (Or.inl (by rfl))) (qss_one (qs_set (i := 6) sc__law_names.nd (by rfl) (Or.inl (by rfl)) (qe_op op_addS (qv 6) (qe_ix ix_S (qv 1) (qe_op op_mod (qe_op op_add (qe_callF F__law_mixed hr (by decide) (qa_cons (qv 0) (qa_cons (qv 7) qa_nil))) (qe_op op_mulI (qv 5) (qe_callTy call_intB (by rfl) T.z_int bb_int (qa_cons (qe_cmpR op_eq (qv 7) (qv 3) (nomark _)) qa_nil)))) qe_int) (fun _ _ => (by rfl)))))))
      (qss_cons (qs_if (qt_cmpR op_eq (qe_op op_mod (qe_op op_fdiv (qv 0) qe_int) qe_int) qe_int (nomark _)) (qss_one (qs_set (i := 6) sc__law_names.nd (by rfl) (Or.inl (by rfl)) (qe_slice sl_S (qe_S (l := [97, 98, 99, 100, 101, 102, 103, 104]) (by decide +kernel)) qo_none (qo_some (qe_op op_add (qv 5) qe_int))))) qss_nil)
      (qss_one (qs_expr (qe_bmK (K := K) (by rfl) PySem.F.plainAttrs_list PySem.F.slot_list_append PySem.F.type_list_append mt_append (qv 4) (qa_cons (qv 6) qa_nil))))))))
      (qss_one (qs_ret (qv 4))))))))).h, ?_⟩
    walk_at "rd"
    have hm := mod_nn (a := c) (m := 8) (by decide)
    refine ⟨by unfold CDiv; omega, by omega, fun p hp => ⟨by omega, by omega, ?_⟩⟩
    refine fb_range (nO c p H) ⟨_, _, _, [], rfl, same_upd hp, upd_same, rfl, by simp⟩ ?_ ?_
    · rintro i σ H1 hi ⟨o5, o6, o7, ns, rfl, g1, hp1, hl, h8⟩
      walk_at "rd"
      refine ⟨by omega, by omega, ?_⟩
      refine fb_range (nI c p H i ns) ⟨[], _, rfl, g1, hp1, rfl⟩ ?_ ?_
      · rintro j σ H2 hj ⟨l, o, rfl, g2, hp2, hll⟩
        walk_at "rd"
        refine fun v H3 g3 => ⟨mulOk_r ?_, ?_⟩
        · split <;> decide
        · generalize (v : Int) + (i : Int) * (if (j : Int) = c / 8 % (1 + c % 8) then (1 : Int) else 0) = z
          obtain ⟨x, _, e⟩ := atI_mod (xs := lt) (z := z) (m := 26) (by decide) rfl
          exact ⟨x, e, by omega, _, _, rfl, g2.trans g3, g3 _ _ hp2, by simp [hll]⟩
      · rintro σ H2 ⟨l, o, rfl, g2, hp2, hll⟩
        walk_at "rd"
        have fin : ∀ l' : List Nat, l'.length ≤ 8 → tyV K "list" (V.ref p) H2 ∧ ∃ x, H2 p = some (HO.lst x) ∧ x.length < 16777216 ∧ nO c p H (i + 1) [some (V.int c), some (V.str (S lt)), some (V.int (1 + c % 8)), some (V.int (c / 8 % (1 + c % 8))), some (V.ref p), some (V.int i), some (V.str (S l')), o] (upd H2 p (HO.lst (x ++ [V.str (S l')]))) := fun l' h' => by
          refine ⟨.inl ⟨rfl, _, SqL.of hp2⟩, _, hp2, by rw [List.length_map]; omega, _, _, _, ns ++ [l'], rfl, same_put hp g2, ?_, by simp [hl], fun n hn => ?_⟩
          · rw [upd_same, List.map_append]; rfl
          · rcases List.mem_append.mp hn with hn | hn
            · exact h8 n hn
            · rw [List.mem_singleton.mp hn]; exact h'
        refine ⟨by unfold CDiv; omega, ?_⟩
        split
        · exact fin _ cutN_len
        · exact fin _ (by omega)
    · rintro σ H1 ⟨o5, o6, o7, ns, rfl, g1, hp1, hl, h8⟩
      walk_at "rd"
      exact q p H1 ns g1 hl h8 hp1

end

section
variable {P : Program} {w : World} {K : PySem.W.Frag} {mg : Str → Option Value} {base : Heap} {t : Ads}
def mA : List Nat := [32, 97, 38, 60, 34, 39, 92, 44, 41, 126]
def vT (c : Int) (H : Hp) (i : Nat) (σ : L2.St) (H' : Hp) : Prop := ∃ (l : List Nat) (o : Option V), σ = [some (.int c), some (.str (S l)), o, none, none] ∧ Same H H' ∧ l.length = i ∧ ∀ c ∈ l, c ∈ mA
def VF (K : PySem.W.Frag) (H H' : Hp) (x : V) : Prop := Val K H' x ∧ ∀ a, x = .ref a → H a = none
theorem VF.mono {K : PySem.W.Frag} {H H1 H2 : Hp} {x : V} (h : VF K H H1 x) (g : Same H1 H2) : VF K H H2 x := ⟨h.1.mono g, h.2⟩
theorem vf_str {K : PySem.W.Frag} {H H' : Hp} {l : List Nat} (h : TxV l) : VF K H H' (.str (S l)) := ⟨⟨.inl ⟨l, rfl, h⟩, fun xs e => nomatch e⟩, fun a e => nomatch e⟩
theorem vf_fl {K : PySem.W.Frag} {H H' : Hp} {x : V} (h : x = .non ∨ (∃ b, x = .bl b) ∨ ∃ i, x = .int i) : VF K H H' x := by
  rcases h with rfl | ⟨b, rfl⟩ | ⟨b, rfl⟩
  · exact ⟨⟨.inr (.inl rfl), fun xs e => nomatch e⟩, fun a e => nomatch e⟩
  · exact ⟨⟨.inr (.inr (.inl ⟨_, rfl⟩)), fun xs e => nomatch e⟩, fun a e => nomatch e⟩
  · exact ⟨⟨.inr (.inr (.inr (.inl ⟨_, rfl⟩))), fun xs e => nomatch e⟩, fun a e => nomatch e⟩
theorem vf_lst {K : PySem.W.Frag} {H H' : Hp} {p : Addr} {xs : List V} (hp : H p = none) (e : H' p = some (.lst xs)) (hl : xs.length ≤ 100) (hx : ∀ x ∈ xs, Itm K H' x) : VF K H H' (.ref p) := by
  refine ⟨⟨.inr (.inr (.inr (.inr (.inl ⟨p, xs, rfl, e⟩)))), fun ys h => ?_⟩, fun a z => by cases z; exact hp⟩
  simp only [isLs, e] at h
  cases h
  exact ⟨hl, hx⟩
theorem vf_tup {K : PySem.W.Frag} {H H' : Hp} {p : Addr} {xs : List V} (hp : H p = none) (e : H' p = some (.tup xs)) : VF K H H' (.ref p) := by
  refine ⟨⟨.inr (.inr (.inr (.inr (.inr (.inl ⟨p, xs, rfl, e⟩))))), fun ys h => ?_⟩, fun a z => by cases z; exact hp⟩
  simp only [isLs, e] at h
  cases h
theorem vf_dk {K : PySem.W.Frag} {H H' : Hp} {p : Addr} {xs : Dc} (hp : H p = none) (e : H' p = some (.dK xs)) : VF K H H' (.ref p) := by
  refine ⟨⟨.inr (.inr (.inr (.inr (.inr (.inr ⟨p, xs, rfl, e⟩))))), fun ys h => ?_⟩, fun a z => by cases z; exact hp⟩
  simp only [isLs, e] at h
  cases h
/-- a list of n values -/
def vS (K : PySem.W.Frag) (c : Int) (l : List Nat) (o : Option V) (pr : Addr) (ys : List V) (H : Hp) (n : Nat) (σ : L2.St) (H' : Hp) : Prop := ∃ (q : Addr) (xs : List V), σ = [some (.int c), some (.str (S l)), o, some (.ref pr), some (.ref q)] ∧ Same H H' ∧ H' q = some (.lst xs) ∧ xs.length = n ∧ (∀ x ∈ xs, VF K H H' x) ∧ H pr = none ∧ H' pr = some (.lst ys) ∧ ys.length ≤ 62 ∧ ∀ y ∈ ys, Itm K H' y
def vR (K : PySem.W.Frag) (c : Int) (l : List Nat) (o : Option V) (H : Hp) (σ : L2.St) (H' : Hp) : Prop := ∃ (pr : Addr) (ys : List V), σ = [some (.int c), some (.str (S l)), o, some (.ref pr), none] ∧ Same H H' ∧ H pr = none ∧ H' pr = some (.lst ys) ∧ ys.length ≤ 62 ∧ ∀ y ∈ ys, Itm K H' y
theorem ok_law_value (T : Txt K mg t) (D : Df K mg "_law_value" s__law_value ps__law_value) (F__law_mixed : OkF P w K mg base 1 "_law_mixed" ps__law_mixed sp__law_mixed) : OkF P w K mg base 2 "_law_value" ps__law_value (sp__law_value K) := by
  refine D.ok sc__law_value (fun vs H Q E h => ?_) (fun f cdv A outer s H vs Q E hr h => ?_)
  · obtain ⟨_, rfl, _⟩ := h; rfl
  · obtain ⟨c, rfl, hc, q⟩ := h
    refine ⟨_, ((qss_cons (qs_set (i := 1) sc__law_value.nd (by rfl) (Or.inl (by rfl)) (qe_S (l := []) (by decide +kernel)))
      (qss_cons (qs_for PassesOwn.never (by rfl) (qi_range1 (by rfl) T.z_range (qa_cons (qe_op op_mod (qe_op op_fdiv (qv 0) qe_int) qe_int) qa_nil)) (qg_name (i := 2) sc__law_value.nd (by rfl) (Or.inl (by rfl))) (qss_one (qs_set (i := 1) sc__law_value.nd (by rfl) (Or.inl (by rfl)) (qe_op op_addS (qv 1) (qe_ix ix_S (qe_S (l := [32, 97, 38, 60, 34, 39, 92, 44, 41, 126]) (by decide +kernel)) (qe_op op_mod (qe_callF F__law_mixed hr (by decide) (qa_cons (qe_op op_addA (qv 0) (qe_op op_mulI (qv 2) (qv 2))) (qa_cons (qv 2) qa_nil))) qe_int) (fun _ _ => (by rfl)))))))
      (qss_cons ⟨ps_setLCS (i := 3) sc__law_value.nd rfl (Or.inl rfl) (lcsS (N := N__law_value) (sc := defScope s__law_value) rfl rfl rfl (by decide +kernel)) ((qi_range1 (by rfl) T.z_range (qa_cons (qe_ix (ix_listK (K := K) (by rfl)) (qe_lst (qa_cons qe_int (qa_cons qe_int (qa_cons qe_int (qa_cons qe_int (qa_cons qe_int (qa_cons qe_int qa_nil))))))) (qe_op op_mod (qe_op op_fdiv (qv 0) qe_int) qe_int) (fun _ _ => (by rfl))) qa_nil))).h (fun _ _ _ _ _ => qts_nil.h) (fun _ _ _ _ _ => ((qe_disp (qpp_cons (by exact (qe_S (l := [97]) (by decide +kernel))) (by exact (qe_callTy call_strS (by rfl) T.z_str bb_str (qa_cons (qv 0) qa_nil))) qpp_nil) (by rfl) (by rfl) (by intro z; cases z) (by decide))).h)⟩
      (qss_cons (qs_set (i := 4) sc__law_value.nd (by rfl) (Or.inl (by rfl)) (qe_lst (qa_cons (qv 1) (qa_cons (qv 1) (qa_cons (qe_op op_addS (qe_op op_addS (qv 1) (qe_S (l := [10]) (by decide +kernel))) (qv 1)) (qa_cons (qe_S (l := [9]) (by decide +kernel)) qa_nil))))))
      (qss_cons (qs_set (i := 4) sc__law_value.nd (by rfl) (Or.inl (by rfl)) (qe_op op_cat (qv 4) (qe_lst (qa_cons qe_bl (qa_cons qe_bl (qa_cons (qv 3) (qa_cons (qv 3) qa_nil)))))))
      (qss_cons (qs_set (i := 4) sc__law_value.nd (by rfl) (Or.inl (by rfl)) (qe_op op_cat (qv 4) (qe_lst (qa_cons (qe_op op_cat (qe_slice (sl_listK (K := K) (by rfl)) (qv 3) qo_none (qo_some qe_int)) (qe_lst (qa_cons qe_non qa_nil))) (qa_cons (qe_lst (qa_cons qe_d0 (qa_cons (qe_lst qa_nil) (qa_cons qe_d0 qa_nil)))) qa_nil)))))
      (qss_one (qs_ret (qe_ix (ix_listK (K := K) (by rfl)) (qe_op op_cat (qv 4) (qe_lst (qa_cons qe_non (qa_cons qe_int (qa_cons qe_int (qa_cons (qe_tup qa_nil) (qa_cons qe_d0 (qa_cons (qe_lst (qa_cons (qv 1) qa_nil)) qa_nil)))))))) (qe_op op_mod (qv 0) qe_int) (fun _ _ => (by rfl)))))))))))).h, ?_⟩
    walk_at "rd"
    have hm := mod_nn (a := c / 16) (m := 7) (by decide)
    refine ⟨by unfold CDiv; omega, by omega, by omega, ?_⟩
    refine fb_range (vT c H) ⟨[], _, rfl, Same.refl H, rfl, by simp⟩ ?_ ?_
    · rintro i σ H1 hi ⟨l, o, rfl, g1, hl, hA⟩
      walk_at "rd"
      refine ⟨mulOk_r (by omega), fun v H2 g2 => ?_⟩
      obtain ⟨x, hx, e⟩ := atI_mod (xs := mA) (z := v) (m := 10) (by decide) rfl
      refine ⟨x, e, by omega, _, _, rfl, g1.trans g2, by simp [hl], fun d hd => ?_⟩
      rcases List.mem_append.mp hd with hd | hd
      · exact hA d hd
      · rw [List.mem_singleton.mp hd]; exact hx
    · rintro σ H1 ⟨l, o, rfl, g1, hl, hA⟩
      have hl6 : l.length ≤ 6 := by omega
      have tA : ∀ c ∈ l, c ∈ sg ∨ c = 10 ∨ c = 9 := fun c h => .inl ((by decide : ∀ c ∈ mA, c ∈ sg) c (hA c h))
      have tl : TxV l := ⟨by omega, tA⟩
      have tl2 : TxV (l ++ [10] ++ l) := ⟨by simp; omega, fun c h => by
        rcases List.mem_append.mp h with h | h
        · rcases List.mem_append.mp h with h | h
          · exact tA c h
          · rw [List.mem_singleton.mp h]; exact .inr (.inl rfl)
        · exact tA c h⟩
      have t9 : TxV [9] := ⟨by decide, by intro c h; rw [List.mem_singleton.mp h]; exact .inr (.inr rfl)⟩
      dsimp only
      refine seq_gen (vR K c l o H) ?_ fun N hN => ?_
      · rintro σ H2 ⟨pr, ys, rfl, g2, hpr, epr, hy, hi⟩
        refine seq_gen (vS K c l o pr ys H 4) ?_ fun N hN => ?_
        · rintro σ H3 ⟨q1, xs, rfl, g3, eq, hx, hv, _, epr, _, hi⟩
          refine seq_gen (vS K c l o pr ys H 8) ?_ fun N hN => ?_
          · rintro σ H4 ⟨q2, xs2, rfl, g4, eq, hx, hv, _, epr, _, hi⟩
            refine seq_gen (vS K c l o pr ys H 10) ?_ fun N hN => ?_
            · rintro σ H5 ⟨q3, xs3, rfl, g5, eq, hx, hv, _, epr, _, hi⟩
              walk_at "rd"
              intro p1 h1 p2 h2 p3 h3 p4 h4
              have k1 := same_upd (o := .tup []) h1
              have k2 := same_upd (o := .dK []) h2
              have k3 := same_upd (o := .lst [V.str (S l)]) h3
              have k4 := same_upd (o := .lst [V.non, V.int 1, V.int 0, V.ref p1, V.ref p2, V.ref p3]) h4
              have kk := k1.trans (k2.trans (k3.trans k4))
              refine ⟨xs3, kk _ _ eq, _, upd_same, by simp; omega, fun p5 h5 => ⟨_, SqL.of upd_same, ?_⟩⟩
              have k5 := same_upd (o := .lst (xs3 ++ [V.non, V.int 1, V.int 0, V.ref p1, V.ref p2, V.ref p3])) h5
              obtain ⟨x, hm, e⟩ := atI_mod (xs := xs3 ++ [V.non, V.int 1, V.int 0, V.ref p1, V.ref p2, V.ref p3]) (z := c) (m := 16) (by decide) (by simp [hx])
              refine ⟨x, e, ?_⟩
              have fin : VF K H (upd (upd (upd (upd (upd H5 p1 (.tup [])) p2 (.dK [])) p3 (.lst [V.str (S l)])) p4 (.lst [V.non, V.int 1, V.int 0, V.ref p1, V.ref p2, V.ref p3])) p5 (.lst (xs3 ++ [V.non, V.int 1, V.int 0, V.ref p1, V.ref p2, V.ref p3]))) x := by
                rcases List.mem_append.mp hm with hm | hm
                · exact (hv x hm).mono (kk.trans k5)
                · simp only [List.mem_cons, List.not_mem_nil, or_false] at hm
                  rcases hm with rfl | rfl | rfl | rfl | rfl | rfl
                  · exact vf_fl (.inl rfl)
                  · exact vf_fl (.inr (.inr ⟨_, rfl⟩))
                  · exact vf_fl (.inr (.inr ⟨_, rfl⟩))
                  · exact vf_tup (none_of g5 h1) ((k2.trans (k3.trans (k4.trans k5))) _ _ upd_same)
                  · exact vf_dk (none_of (g5.trans k1) h2) ((k3.trans (k4.trans k5)) _ _ upd_same)
                  · exact vf_lst (none_of (g5.trans (k1.trans k2)) h3) ((k4.trans k5) _ _ upd_same) (by simp) (fun y hy => by rw [List.mem_singleton.mp hy]; exact .inl ⟨l, rfl, tl⟩)
              exact q x _ (g5.trans (kk.trans k5)) fin.1 fin.2
            · walk_at "rd"
              refine ⟨ys, SqL.of epr, fun p0 h0 p1 h1 => ⟨_, same_upd h1 _ _ upd_same, _, upd_same, ?_, fun p2 h2 p3 h3 p4 h4 p5 h5 p6 h6 p7 h7 => ?_⟩⟩
              · have := cutV_length ys none (some 3)
                simp; omega
              have k0 := same_upd (o := .lst (cutV ys none (some 3))) h0
              have k1 := same_upd (o := .lst [V.non]) h1
              have k2 := same_upd (o := .lst (cutV ys none (some 3) ++ [V.non])) h2
              have k3 := same_upd (o := .dK []) h3
              have k4 := same_upd (o := .lst []) h4
              have k5 := same_upd (o := .dK []) h5
              have k6 := same_upd (o := .lst [V.ref p3, V.ref p4, V.ref p5]) h6
              have k7 := same_upd (o := .lst [V.ref p2, V.ref p6]) h7
              have a67 := k6.trans k7
              have a57 := k5.trans a67
              have a47 := k4.trans a57
              have a37 := k3.trans a47
              have kk := k0.trans (k1.trans (k2.trans a37))
              refine ⟨xs2, kk _ _ eq, _, upd_same, by simp; omega, fun p8 h8 => hN _ _ ?_⟩
              have k8 := same_upd (o := .lst (xs2 ++ [V.ref p2, V.ref p6])) h8
              have kf := kk.trans k8
              refine ⟨_, _, rfl, g4.trans kf, upd_same, by simp [hx], fun x hm => ?_, hpr, kf _ _ epr, hy, fun y hm => (hi y hm).mono kf⟩
              rcases List.mem_append.mp hm with hm | hm
              · exact (hv x hm).mono kf
              · simp only [List.mem_cons, List.not_mem_nil, or_false] at hm
                rcases hm with rfl | rfl
                · refine vf_lst (none_of (g4.trans (k0.trans k1)) h2) ((a37.trans k8) _ _ upd_same) ?_ fun y hm => ?_
                  · have := cutV_length ys none (some 3)
                    simp; omega
                  · rcases List.mem_append.mp hm with hm | hm
                    · refine (hi y ?_).mono kf
                      unfold cutV at hm
                      exact List.mem_of_mem_drop (List.mem_of_mem_take hm)
                    · rw [List.mem_singleton.mp hm]; exact .inr (.inl rfl)
                · refine vf_lst (none_of (g4.trans (k0.trans (k1.trans (k2.trans (k3.trans (k4.trans k5)))))) h6) ((k7.trans k8) _ _ upd_same) (by simp) fun y hm => ?_
                  simp only [List.mem_cons, List.not_mem_nil, or_false] at hm
                  rcases hm with rfl | rfl | rfl
                  · exact .inr (.inr (.inr (.inr (.inr (.inr ⟨_, _, rfl, (a47.trans k8) _ _ upd_same⟩)))))
                  · exact .inr (.inr (.inr (.inr (.inl ⟨_, _, rfl, (a57.trans k8) _ _ upd_same⟩))))
                  · exact .inr (.inr (.inr (.inr (.inr (.inr ⟨_, _, rfl, (a67.trans k8) _ _ upd_same⟩)))))
          · walk_at "rd"
            intro p1 h1
            have k1 := same_upd (o := .lst [V.bl true, V.bl false, V.ref pr, V.ref pr]) h1
            refine ⟨xs, k1 _ _ eq, _, upd_same, by simp; omega, fun p2 h2 => hN _ _ ?_⟩
            have k2 := same_upd (o := .lst (xs ++ [V.bl true, V.bl false, V.ref pr, V.ref pr])) h2
            have kk := k1.trans k2
            refine ⟨_, _, rfl, g3.trans kk, upd_same, by simp [hx], fun x hm => ?_, hpr, kk _ _ epr, hy, fun y hm => (hi y hm).mono kk⟩
            have hr := vf_lst hpr (kk _ _ epr) (by omega) fun y hm => (hi y hm).mono kk
            rcases List.mem_append.mp hm with hm | hm
            · exact (hv x hm).mono kk
            · simp only [List.mem_cons, List.not_mem_nil, or_false] at hm
              rcases hm with rfl | rfl | rfl | rfl
              · exact vf_fl (.inr (.inl ⟨_, rfl⟩))
              · exact vf_fl (.inr (.inl ⟨_, rfl⟩))
              · exact hr
              · exact hr
        · walk_at "rd"
          refine ⟨by omega, by simp; omega, fun p1 h1 => hN _ _ ?_⟩
          have k1 := same_upd (o := .lst [V.str (S l), V.str (S l), V.str (S (l ++ [10] ++ l)), V.str (S [9])]) h1
          refine ⟨_, _, rfl, g2.trans k1, upd_same, rfl, fun x hm => ?_, hpr, k1 _ _ epr, hy, fun y hm => (hi y hm).mono k1⟩
          simp only [List.mem_cons, List.not_mem_nil, or_false] at hm
          rcases hm with rfl | rfl | rfl | rfl
          · exact vf_str tl
          · exact vf_str tl
          · exact vf_str tl2
          · exact vf_str t9
      · walk_at "rd"
        intro p hp
        have k1 := same_upd (o := .lst [V.int 0, V.int 1, V.int 3, V.int 60, V.int 61, V.int 62]) hp
        obtain ⟨x, hx, e⟩ := atI_mod (xs := [V.int 0, V.int 1, V.int 3, V.int 60, V.int 61, V.int 62]) (z := c / 16) (m := 6) (by decide) rfl
        obtain ⟨j, hj, rfl⟩ : ∃ j : Int, (0 ≤ j ∧ j ≤ 62) ∧ x = .int j := by
          simp only [List.mem_cons, List.not_mem_nil, or_false] at hx
          rcases hx with rfl | rfl | rfl | rfl | rfl | rfl <;> exact ⟨_, by decide, rfl⟩
        refine ⟨by unfold CDiv; omega, _, SqL.of upd_same, _, e, j, rfl, by omega, by omega, ?_⟩
        refine lc_rangeG (fun v H' => ∃ p kvs, v = .ref p ∧ H' p = some (.dK kvs)) (fun v H2 H3 ⟨p, kvs, h1, h2⟩ g => ⟨p, kvs, h1, g _ _ h2⟩) (fun v H2 D xs ys ⟨p, kvs, h1, h2⟩ h => ⟨p, kvs, h1, by rw [upd_ne (fun z => by subst z; rw [h] at h2; cases h2)]; exact h2⟩) (by rw [PySem.sizeLine_eq]; omega) (fun i hi H2 g2 R r => ?_) fun D H2 ys hD g2 hy hG eD => hN _ _ ?_
        · walk_at "rd"
          intro p2 h2
          refine ⟨by omega, upd_same, [(.inr (S [97]), V.str (S (dg i)))], rfl, by simp, r _ _ ?_ ⟨_, _, rfl, upd_same⟩⟩
          rw [upd_upd]
          exact same_upd h2
        · refine ⟨D, ys, rfl, g1.trans (k1.trans g2), none_of (g1.trans k1) hD, eD, by omega, fun y hm => ?_⟩
          obtain ⟨p, kvs, h1, h2⟩ := hG y hm
          exact .inr (.inr (.inr (.inr (.inr (.inr ⟨p, kvs, h1, h2⟩)))))

end

section
variable {P : Program} {w : World} {K : PySem.W.Frag} {mg : Str → Option Value} {base : Heap} {t : Ads}
theorem mem_putK {kvs : Dc} {k : Key} {v : V} {kv : Key × V} (h : kv ∈ putK kvs k v) : kv ∈ kvs ∨ kv.2 = v := by
  unfold putK at h
  split at h
  · obtain ⟨q, hq, e⟩ := List.mem_map.mp h
    split at e
    · subst e; exact .inr rfl
    · subst e; exact .inl hq
  · rcases List.mem_append.mp h with h | h
    · exact .inl h
    · rw [List.mem_singleton.mp h]; exact .inr rfl
def sI (a b p : Addr) (K : PySem.W.Frag) (H : Hp) (i : Nat) (σ : L2.St) (H' : Hp) : Prop := ∃ (o3 o4 o5 o6 : Option V) (kss : List Dc), σ = [some (.ref a), some (.ref b), some (.ref p), o3, o4, o5, o6] ∧ Same H H' ∧ Scs H' p kss ∧ kss.length = i ∧ Vals3 K H' p kss
def sJ (a b p d : Addr) (K : PySem.W.Frag) (H : Hp) (k : Nat) (i : Nat) (σ : L2.St) (H' : Hp) : Prop := ∃ (o5 o6 : Option V) (kvs : Dc), σ = [some (.ref a), some (.ref b), some (.ref p), some (.int k), some (.ref d), o5, o6] ∧ Same H H' ∧ H' d = some (.dK kvs) ∧ kvs.length ≤ i ∧ ∀ kv ∈ kvs, Val K H' kv.2 ∧ kv.2 ≠ .ref p
theorem ok_law_scopes (T : Txt K mg t) (D : Df K mg "_law_scopes" s__law_scopes ps__law_scopes) (F__law_cell_at : OkF P w K mg base 1 "_law_cell_at" ps__law_cell_at (sp__law_cell_at K)) (F__law_rest : OkF P w K mg base 2 "_law_rest" ps__law_rest sp__law_rest) (F__law_value : OkF P w K mg base 2 "_law_value" ps__law_value (sp__law_value K)) : OkF P w K mg base 3 "_law_scopes" ps__law_scopes (sp__law_scopes K) := by
  refine D.ok sc__law_scopes (fun vs H Q E h => ?_) (fun f cdv A outer s H vs Q E hr h => ?_)
  · obtain ⟨_, _, _, _, rfl, _⟩ := h; rfl
  · obtain ⟨a, b, is, ns, rfl, hS, hb, h7, q⟩ := h
    refine ⟨_, ((qss_cons (qs_set (i := 2) sc__law_scopes.nd (by rfl) (Or.inl (by rfl)) (qe_lst qa_nil))
      (qss_cons (qs_for PassesOwn.never (by rfl) (qi_range1 (by rfl) T.z_range (qa_cons (qe_op op_mod (qe_callF F__law_cell_at hr (by decide) (qa_cons (qv 0) (qa_cons qe_int qa_nil))) qe_int) qa_nil)) (qg_name (i := 3) sc__law_scopes.nd (by rfl) (Or.inl (by rfl))) (qss_cons (qs_set (i := 4) sc__law_scopes.nd (by rfl) (Or.inl (by rfl)) qe_d0)
      (qss_cons (qs_for PassesOwn.never (by rfl) (qi_range1 (by rfl) T.z_range (qa_cons qe_int qa_nil)) (qg_name (i := 5) sc__law_scopes.nd (by rfl) (Or.inl (by rfl))) (qss_cons (qs_set (i := 6) sc__law_scopes.nd (by rfl) (Or.inl (by rfl)) (qe_callF F__law_rest hr (by decide) (qa_cons (qe_callF F__law_cell_at hr (by decide) (qa_cons (qv 0) (qa_cons (qe_op op_add (qe_op op_add qe_int (qe_op op_mulI qe_int (qv 3))) (qv 5)) qa_nil))) qa_nil)))
      (qss_one (qs_if (qt_cmpR op_eq (qe_op op_mod (qv 6) qe_int) qe_int (nomark _)) (qss_one (qs_asg (qe_callF F__law_value hr (by decide) (qa_cons (qe_op op_fdiv (qv 6) qe_int) qa_nil)) (qg_sub (qv 4) (qe_ix (ix_listK (K := K) (by rfl)) (qv 1) (qv 5) (fun _ _ => (by rfl))) (set_dict (hu_of hr)) (by intro _; rfl)))) qss_nil))))
      (qss_one (qs_expr (qe_bmK (K := K) (by rfl) PySem.F.plainAttrs_list PySem.F.slot_list_append PySem.F.type_list_append mt_append (qv 2) (qa_cons (qv 4) qa_nil)))))))
      (qss_one (qs_ret (qv 2)))))).h, ?_⟩
    walk_at "rd"
    intro p hp
    have g0 := same_upd (o := .lst []) hp
    refine ⟨⟨is, g0.seq hS⟩, fun v H1 g1 => ?_⟩
    have hm := mod_nn (a := v) (m := 6) (by decide)
    refine ⟨by omega, by omega, ?_⟩
    have g01 := g0.trans g1
    refine fb_range (sI a b p K H) ⟨_, _, _, _, [], rfl, g01, ⟨[], g1 _ _ upd_same, rfl, by decide, by simp⟩, rfl, by intro d hd; cases hd⟩ ?_ ?_
    · rintro i σ H2 hi ⟨o3, o4, o5, o6, kss, rfl, g2, hs, hk, hv⟩
      walk_at "rd"
      intro d hd
      refine ⟨by omega, by omega, ?_⟩
      have gd := same_upd (o := .dK []) hd
      refine fb_range (sJ a b p d K H2 i) ⟨_, _, [], rfl, gd, upd_same, Nat.zero_le _, by simp⟩ ?_ ?_
      · rintro j σ H3 hj ⟨o5, o6, kvs, rfl, g3, hd3, hl3, hw3⟩
        walk_at "rd"
        refine ⟨mulOk_l (by omega), ⟨is, (g2.trans g3).seq hS⟩, by omega, fun v H4 g4 z H5 hz g5 => ?_⟩
        have g35 := g4.trans g5
        split
        · refine ⟨by unfold CDiv; omega, by omega, fun x H6 g6 hx hf => ?_⟩
          have g36 := g35.trans g6
          have hj7 : j < ns.length := by omega
          have e6 := g36 _ _ hd3
          refine ⟨_, SqL.of ((g2.trans (g3.trans g36)) _ _ hb), _, by rw [List.getElem?_map, List.getElem?_eq_getElem hj7]; rfl, kvs, .inr (S ns[j]), rfl, e6, by omega, ?_⟩
          have hfp : x ≠ .ref p := fun z => by
            obtain ⟨as, e1, _⟩ := hs
            have := hf p z
            rw [(g3.trans g35) _ _ e1] at this
            cases this
          refine ⟨_, _, _, rfl, same_put hd (g3.trans g36), upd_same, ?_, fun kv hm => ?_⟩
          · have := length_putK kvs (.inr (S ns[j])) x
            omega
          · rcases mem_putK hm with hm | hm
            · exact ⟨((hw3 kv hm).1.mono g36).updD e6, (hw3 kv hm).2⟩
            · rw [hm]; exact ⟨hx.updD e6, hfp⟩
        · exact ⟨_, _, kvs, rfl, g3.trans g35, g35 _ _ hd3, by omega, fun kv hk => ⟨(hw3 kv hk).1.mono g35, (hw3 kv hk).2⟩⟩
      · rintro σ H3 ⟨o5, o6, kvs, rfl, g3, hd3, hl3, hw3⟩
        walk_at "rd"
        have hs3 := hs.mono g3
        have hv3 := hv.mono g3
        obtain ⟨as, e1, e2, e3, e4⟩ := hs3
        refine ⟨.inl ⟨rfl, _, SqL.of e1⟩, _, e1, by rw [List.length_map]; omega, ?_⟩
        refine ⟨_, _, _, _, kss ++ [kvs], rfl, same_put hp (g2.trans g3), ⟨as ++ [d], ?_, by simp [e2], by simp; omega, fun j a' d' h1 h2 => ?_⟩, by simp [hk], fun d' hd' kv hkv => ?_⟩
        · rw [upd_same, List.map_append]; rfl
        · have : H3 a' = some (.dK d') := by
            by_cases hj : j < as.length
            · rw [List.getElem?_append_left hj] at h1
              rw [List.getElem?_append_left (by omega)] at h2
              exact e4 j a' d' h1 h2
            · rw [List.getElem?_append_right (by omega)] at h1
              rw [List.getElem?_append_right (by omega)] at h2
              have hj0 : j - as.length = 0 := by
                have := (List.getElem?_eq_some_iff.mp h1).1
                simp at this
                omega
              rw [hj0] at h1
              rw [← e2, hj0] at h2
              cases h1
              cases h2
              exact hd3
          rw [upd_ne (fun z => by subst z; rw [e1] at this; cases this)]
          exact this
        · have : Val K H3 kv.2 ∧ kv.2 ≠ .ref p := by
            rcases List.mem_append.mp hd' with h | h
            · exact hv3 d' h kv hkv
            · rw [List.mem_singleton.mp h] at hkv; exact hw3 kv hkv
          exact ⟨this.1.updL e1 this.2, this.2⟩
    · rintro σ H2 ⟨o3, o4, o5, o6, kss, rfl, g2, hs, hk, hv⟩
      walk_at "rd"
      exact q p H2 kss g2 hs hv

end

section
variable {P : Program} {w : World} {K : PySem.W.Frag} {mg : Str → Option Value} {base : Heap} {t : Ads}
theorem ok_law_due (T : Txt K mg t) (D : Df K mg "_law_due" s__law_due ps__law_due) (F__law_foreign : OkF P w K mg base 1 "_law_foreign" ps__law_foreign sp__law_foreign) : OkF P w K mg base 2 "_law_due" ps__law_due (sp__law_due K) := by
  refine D.ok sc__law_due (fun vs H Q E h => ?_) (fun f cdv A outer s H vs Q E hr h => ?_)
  · obtain ⟨_, _, _, _, rfl, _⟩ := h; rfl
  · obtain ⟨sc, n, kss, wn, rfl, hw, ⟨as, hsc, hl, h10, hd⟩, hn, hv, q⟩ := h
    refine ⟨_, ((qss_cons ⟨ps_setLC (i := 3) sc__law_due.nd rfl (Or.inl rfl) (lcs (N := N__law_due) (sc := defScope s__law_due) rfl rfl rfl (by decide +kernel)) ((qi_listK (K := K) (by rfl) (qv 0))).h (fun _ _ _ _ _ => (qts_one (qt_cmpR (op_dIn (hu_of hr)) (qv 2) (qv 0) (by rfl))).h) (fun _ _ _ _ _ => ((qe_dget (hu_of hr) (qv 0) (qv 2) (by intro _ _; rfl))).h)⟩
      (qss_cons (qs_if (qt_cmpR (op_eq0 (K := K) (by rfl) (hu_lt hr)) (qv 3) (qe_lst qa_nil) (nomark _)) (qss_one (qs_ret (qe_tup (qa_cons (qe_S (l := [118, 97, 108, 117, 101]) (by decide +kernel)) (qa_cons (qv 1) qa_nil))))) qss_nil)
      (qss_cons (qs_set (i := 4) sc__law_due.nd (by rfl) (Or.inl (by rfl)) (qe_ix (ix_listK (K := K) (by rfl)) (qv 3) (qe_un un_neg qe_int) (fun _ _ => (by rfl))))
      (qss_cons (qs_if (QW.qt (qw_or (QW.qt (qw_and (qt_cmpR op_eq (qv 2) qe_int (nomark _)) (qw_and1 (qt_not (qt_val (qe_callB (call_isstrAK (K := K) (by rfl)) (by rfl) T.z_isinstance bb_isinstance (qa_cons (qv 4) (qa_cons (qe_blt (v := .ty "str") T.z_str bb_str (by rfl)) qa_nil)))))))) (qw_or1 (QW.qt (qw_and (qt_cmpR op_eq (qv 2) qe_int (nomark _)) (qw_and1 (qt_not (qt_val (qe_callB (call_isAK (K := K) (n := "bool") (by rfl)) (by rfl) T.z_isinstance bb_isinstance (qa_cons (qv 4) (qa_cons (qe_blt (v := .ty "bool") T.z_bool bb_bool (by rfl)) qa_nil))))))))))) (qss_one (qs_ret (qe_tup (qa_cons (qe_S (l := [107, 105, 110, 100]) (by decide +kernel)) (qa_cons (qv 1) qa_nil))))) qss_nil)
      (qss_cons (qs_if (QW.qt (qw_and (qt_cmpR op_eq (qv 2) qe_int (nomark _)) (qw_and1 (qt_cmpR (op_ne0 (K := K) (by rfl) (hu_lt hr)) (qe_callF F__law_foreign hr (by decide) (qa_cons (qv 4) qa_nil)) (qe_lst qa_nil) (nomark _))))) (qss_one (qs_ret (qe_tup (qa_cons (qe_S (l := [115, 105, 103, 110]) (by decide +kernel)) (qa_cons (qe_ix (ix_listK (K := K) (by rfl)) (qe_callF F__law_foreign hr (by decide) (qa_cons (qv 4) qa_nil)) qe_int (fun _ _ => (by rfl))) qa_nil))))) qss_nil)
      (qss_cons (qs_if (QW.qt (qw_and (qt_cmpR op_eq (qv 2) qe_int (nomark _)) (qw_and1 (QW.qt (qw_or (qt_not (qt_val (qe_callB (call_isAK (K := K) (n := "list") (by rfl)) (by rfl) T.z_isinstance bb_isinstance (qa_cons (qv 4) (qa_cons (qe_blt (v := .ty "list") T.z_list bb_list (by rfl)) qa_nil))))) (qw_or1 (qt_cmpR op_gt (qe_callB (call_lenLK (K := K) (by rfl)) (by rfl) T.z_len bb_len (qa_cons (qv 4) qa_nil)) qe_int (nomark _)))))))) (qss_one (qs_ret (qe_tup (qa_cons (qe_S (l := [107, 105, 110, 100]) (by decide +kernel)) (qa_cons (qv 1) qa_nil))))) qss_nil)
      (qss_cons (qs_if (QW.qt (qw_and (qt_cmpR op_eq (qv 2) qe_int (nomark _)) (qw_and1 (qt_cmpR (op_ne0 (K := K) (by rfl) (hu_lt hr)) ⟨pe_lc (lcs (N := N__law_due) (sc := defScope s__law_due) rfl rfl rfl (by decide +kernel)) ((qi_listK (K := K) (by rfl) (qv 4))).h (fun _ _ _ _ _ => (qts_one (qt_not (qt_val (qe_callB (call_isAK (K := K) (n := "dict") (by rfl)) (by rfl) T.z_isinstance bb_isinstance (qa_cons (qv 0) (qa_cons (qe_blt (v := .ty "dict") T.z_dict bb_dict (by rfl)) qa_nil)))))).h) (fun _ _ _ _ _ => ((qv 0)).h)⟩ (qe_lst qa_nil) (nomark _))))) (qss_one (qs_ret (qe_tup (qa_cons (qe_S (l := [107, 105, 110, 100]) (by decide +kernel)) (qa_cons (qv 1) qa_nil))))) qss_nil)
      (qss_one (qs_ret (qe_tup (qa_cons (qe_S (l := [116, 111, 108, 100]) (by decide +kernel)) (qa_cons (qv 4) qa_nil))))))))))))).h, ?_⟩
    have sq : ∀ H1, Same H H1 → SqL K H1 sc (as.map V.ref) := fun H1 g => SqL.of (g _ _ hsc)
    have hz : (as.map V.ref).length ≤ sizeLine := by rw [PySem.sizeLine_eq, List.length_map]; omega
    have hmem : ∀ c ∈ as.map V.ref, ∃ a d, c = .ref a ∧ H a = some (.dK d) := fun c hc => by
      obtain ⟨a, ha, rfl⟩ := List.mem_map.mp hc
      obtain ⟨i, hi⟩ := List.getElem?_of_mem ha
      have hi2 : i < kss.length := by have := (List.getElem?_eq_some_iff.mp hi).1; omega
      exact ⟨a, _, rfl, hd i a _ hi (List.getElem?_eq_getElem hi2)⟩
    have key : ∀ (σ : L2.St) (R : VK), (∀ y, σ[1]? = some (some y) → y = .str (S n)) → σ[1]? = some (some (.str (S n))) →
        (∀ D H1, Same H H1 → H1 D = some (.lst (kss.filterMap fun d => valV d (.inr (S n)))) → R (.ref D) H1) → lcBody (Itl K sc) (tTest (tOp rDIn (tVar 2) (tVar 0))) (tDGet (tVar 0) (tVar 2)) σ H R := fun σ R _ hσ hR => by
      refine lc_listP (fun c => (dv H (.inr (S n)) c).isSome) (fun c => (dv H (.inr (S n)) c).getD .non) hz hsc (fun c hc H1 g R r => ?_) (fun c hc hf H1 g R r => ?_) (fun D H1 hD g e => hR D H1 g ?_)
      · obtain ⟨a, d, rfl, ha⟩ := hmem c hc
        walk_at "rd"
        refine ⟨_, hσ, _, .k (k := .inr (S n)) (g _ _ ha), ?_⟩
        simp only [dv, ha] at r
        exact r
      · obtain ⟨a, d, rfl, ha⟩ := hmem c hc
        walk_at "rd"
        simp only [dv, ha] at r hf
        cases e : valV d (.inr (S n)) with
        | none => rw [e] at hf; cases hf
        | some v =>
          rw [e] at r
          have := DGet.k (k := .inr (S n)) (g _ _ ha)
          rw [e] at this
          exact ⟨_, hσ, v, this, r⟩
      · rw [e, filt_map, scs_look hl hd]
    have w4 : wn = 0 ∨ wn = 1 ∨ wn = 2 ∨ wn = 3 := by omega
    have no : ∀ H1, Same H H1 → look kss (.inr (S n)) = none → ∀ p, H1 p = none → Q (.ref p) (upd H1 p (.tup [V.str (S [118, 97, 108, 117, 101]), V.str (S n)])) := fun H1 g e p hp => by
      refine q p _ (g.trans (same_upd hp)) ?_
      rw [upd_same]
      unfold outc
      rw [e]
      rfl
    have yes : ∀ v H1 r, Same H H1 → look kss (.inr (S n)) = some v → oc H v wn = r → ∀ p, H1 p = none → Q (.ref p) (upd H1 p (.tup (tpl n r))) := fun v H1 r g e e2 p hp => by
      refine q p _ (g.trans (same_upd hp)) ?_
      rw [upd_same]
      unfold outc
      rw [e]
      simp only [e2]
    have hval : ∀ v, look kss (.inr (S n)) = some v → Val K H v := fun v e => by
      obtain ⟨d, hd, kv, hk, rfl⟩ := look_mem e
      exact hv d hd kv hk
    have lk : look kss (.inr (S n)) = (kss.filterMap fun d => valV d (.inr (S n))).getLast? := rfl
    rcases w4 with rfl | rfl | rfl | rfl
    · walk_at "rd"
      refine ⟨⟨_, sq H (Same.refl H)⟩, key _ _ (fun y e => by cases e; rfl) rfl fun D H1 g e p hp => ?_⟩
      have g1 := same_upd (o := .lst []) hp
      have gg := g.trans g1
      refine ⟨D, rfl, _, SqL.of (g1 _ _ e), SqL.of upd_same, ?_⟩
      cases lo : look kss (.inr (S n)) with
      | none =>
        rw [if_pos (by rw [lk, List.getLast?_eq_none_iff] at lo; rw [lo]; rfl)]
        exact no _ gg lo
      | some v =>
        rw [if_neg (by intro z; rw [List.isEmpty_iff] at z; rw [lk, z] at lo; cases lo)]
        refine ⟨D, rfl, _, SqL.of (g1 _ _ e), v, by rw [atI_last1]; exact lo, ?_⟩
        exact yes v _ (.told v) gg lo rfl
    · walk_at "rd"
      refine ⟨⟨_, sq H (Same.refl H)⟩, key _ _ (fun y e => by cases e; rfl) rfl fun D H1 g e p hp => ?_⟩
      have g1 := same_upd (o := .lst []) hp
      have gg := g.trans g1
      refine ⟨D, rfl, _, SqL.of (g1 _ _ e), SqL.of upd_same, ?_⟩
      cases lo : look kss (.inr (S n)) with
      | none =>
        rw [if_pos (by rw [lk, List.getLast?_eq_none_iff] at lo; rw [lo]; rfl)]
        exact no _ gg lo
      | some v =>
        rw [if_neg (by intro z; rw [List.isEmpty_iff] at z; rw [lk, z] at lo; cases lo)]
        refine ⟨D, rfl, _, SqL.of (g1 _ _ e), v, by rw [atI_last1]; exact lo, ?_⟩
        rcases (hval v lo).1 with ⟨l, rfl, tx⟩ | hN
        · refine .inl ⟨⟨_, rfl⟩, l, rfl, tx, fun p2 H2 g2 e2 p3 h3 => ⟨_, SqL.of (same_upd h3 _ _ e2), SqL.of upd_same, ?_⟩⟩
          have g3 := same_upd (o := .lst []) h3
          cases hf : fb l with
          | none =>
            rw [if_neg (by simp)]
            refine yes _ _ (.told (.str (S l))) (gg.trans (g2.trans g3)) lo ?_
            show (match fb l with | none => R3.told (.str (S l)) | some b => .sign b) = _
            rw [hf]
          | some b =>
            rw [if_pos (by rfl)]
            refine ⟨l, rfl, tx, fun p4 H4 g4 e4 => ⟨_, SqL.of e4, .int b, by rw [hf]; exact atI_0 _ _, ?_⟩⟩
            refine yes _ _ (.sign b) (gg.trans (g2.trans (g3.trans g4))) lo ?_
            show (match fb l with | none => R3.told (.str (S l)) | some b => .sign b) = _
            rw [hf]
        · refine .inr ⟨hN.mono gg, yes v _ .kind gg lo ?_⟩
          rcases hN with rfl | ⟨_, rfl⟩ | ⟨_, rfl⟩ | ⟨b, xs, rfl, h⟩ | ⟨b, xs, rfl, h⟩ | ⟨b, xs, rfl, h⟩ <;> rfl
    · walk_at "rd"
      refine ⟨⟨_, sq H (Same.refl H)⟩, key _ _ (fun y e => by cases e; rfl) rfl fun D H1 g e p hp => ?_⟩
      have g1 := same_upd (o := .lst []) hp
      have gg := g.trans g1
      refine ⟨D, rfl, _, SqL.of (g1 _ _ e), SqL.of upd_same, ?_⟩
      cases lo : look kss (.inr (S n)) with
      | none =>
        rw [if_pos (by rw [lk, List.getLast?_eq_none_iff] at lo; rw [lo]; rfl)]
        exact no _ gg lo
      | some v =>
        rw [if_neg (by intro z; rw [List.isEmpty_iff] at z; rw [lk, z] at lo; cases lo)]
        refine ⟨D, rfl, _, SqL.of (g1 _ _ e), v, by rw [atI_last1]; exact lo, ?_⟩
        obtain ⟨tt, t1, t2⟩ := ty_bool ((hval v lo).1.mono gg)
        refine ⟨tt, t1, _, t2, ?_⟩
        cases v with
        | bl b => rw [if_neg (by simp [isBl])]; exact yes _ _ (.told (.bl b)) gg lo rfl
        | _ => rw [if_pos (by rfl)]; exact yes _ _ .kind gg lo rfl
    · walk_at "rd"
      refine ⟨⟨_, sq H (Same.refl H)⟩, key _ _ (fun y e => by cases e; rfl) rfl fun D H1 g e p hp => ?_⟩
      have g1 := same_upd (o := .lst []) hp
      have gg := g.trans g1
      refine ⟨D, rfl, _, SqL.of (g1 _ _ e), SqL.of upd_same, ?_⟩
      cases lo : look kss (.inr (S n)) with
      | none =>
        rw [if_pos (by rw [lk, List.getLast?_eq_none_iff] at lo; rw [lo]; rfl)]
        exact no _ gg lo
      | some v =>
        rw [if_neg (by intro z; rw [List.isEmpty_iff] at z; rw [lk, z] at lo; cases lo)]
        refine ⟨D, rfl, _, SqL.of (g1 _ _ e), v, by rw [atI_last1]; exact lo, ?_⟩
        have hV := hval v lo
        have ocv : oc H v 3 = match isLs H v with | some xs => if xs.length ≤ 60 ∧ xs.all (isDb H) = true then R3.told v else .kind | none => .kind := rfl
        obtain ⟨tt, t1, t2⟩ := ty_list (hV.1.mono gg)
        rw [isLs_mono hV.1 gg] at t2
        refine ⟨tt, t1, _, t2, ?_⟩
        cases ls : isLs H v with
        | none => rw [if_pos (by rfl)]; exact yes _ _ .kind gg lo (by rw [ocv, ls])
        | some xs =>
          rw [if_neg (by simp)]
          obtain ⟨a, rfl, ea⟩ := ls_ref ls
          obtain ⟨h100, hit⟩ := hV.2 xs ls
          rw [ls] at ocv
          simp only at ocv
          refine ⟨a, rfl, xs, .inl (SqL.of (gg _ _ ea)), ?_⟩
          by_cases h60 : xs.length ≤ 60
          · rw [if_neg (by omega)]
            refine ⟨a, rfl, ⟨_, SqL.of (gg _ _ ea)⟩, ?_⟩
            refine lc_listP (fun c => !isDb H c) id (by rw [PySem.sizeLine_eq]; omega) (gg _ _ ea) (fun c hc H2 g2 R r => ?_) (fun c hc hf H2 g2 R r => ?_) (fun D2 H2 hD2 g2 e2 p2 hp2 => ?_)
            · walk_at "rd"
              obtain ⟨tt, t1, t2⟩ := ty_dict ((hit c hc).mono (gg.trans g2))
              rw [isDb_mono (hit c hc) (gg.trans g2)] at t2
              exact ⟨tt, t1, _, t2, r⟩
            · walk_at "rd"
              exact r
            · rw [List.map_id] at e2
              have g3 := same_upd (o := .lst []) hp2
              refine ⟨D2, rfl, _, SqL.of (g3 _ _ e2), SqL.of upd_same, ?_⟩
              have ga := gg.trans (g2.trans g3)
              by_cases al : xs.all (isDb H) = true
              · rw [if_neg ?_]
                · exact yes _ _ (.told (.ref a)) ga lo (by rw [ocv, if_pos ⟨h60, al⟩])
                · rw [List.filter_eq_nil_iff.mpr fun x hx => by rw [List.all_eq_true.mp al x hx]; decide]
                  decide
              · rw [if_pos ?_]
                · exact yes _ _ .kind ga lo (by rw [ocv, if_neg fun z => al z.2])
                · cases ee : xs.filter fun c => !isDb H c with
                  | cons _ _ => rfl
                  | nil =>
                    refine absurd (List.all_eq_true.mpr fun x hx => ?_) al
                    have := List.filter_eq_nil_iff.mp ee x hx
                    simpa using this
          · rw [if_pos (by omega)]
            exact yes _ _ .kind gg lo (by rw [ocv, if_neg fun z => h60 z.1])

end

section
variable {P : Program} {w : World} {K : PySem.W.Frag} {mg : Str → Option Value} {base : Heap} {t : Ads}
theorem ok_law_found (T : Txt K mg t) (D : Df K mg "_law_found" s__law_found ps__law_found) (F_value_of : OkX P w K mg base 3 "value_of" ps_value_of (sp_value_of K t)) (F_text_of : OkX P w K mg base 4 "text_of" ps_text_of (sp_text_of K t)) (F_truth_of : OkX P w K mg base 4 "truth_of" ps_truth_of (sp_truth_of K t)) (F_rows_of : OkX P w K mg base 4 "rows_of" ps_rows_of (sp_rows_of K t)) : OkF P w K mg base 5 "_law_found" ps__law_found (sp__law_found K) := by
  obtain ⟨f0, m_value_of, x0⟩ := F_value_of.fnx (k := 4) (by decide)
  obtain ⟨f1, m_text_of, x1⟩ := F_text_of.fnx (k := 4) (by decide)
  obtain ⟨f2, m_truth_of, x2⟩ := F_truth_of.fnx (k := 4) (by decide)
  obtain ⟨f3, m_rows_of, x3⟩ := F_rows_of.fnx (k := 4) (by decide)
  refine D.ok sc__law_found (fun vs H Q E h => ?_) (fun f cdv A outer s H vs Q E hr h => ?_)
  · obtain ⟨_, _, _, _, rfl, _⟩ := h; rfl
  · obtain ⟨sc, n, kss, wn, rfl, hw, hs, hn, hv, q⟩ := h
    refine ⟨_, ((qss_cons (qs_try (i := 4) T.m_SealError T.c_SealError sc__law_found.nd (by rfl) (by rfl) (by rfl) (by rfl) (fun E pn xe hp hx => (qss_one (qs_set (i := 3) sc__law_found.nd (by rfl) (Or.inl (by rfl)) (qe_callXV (P := P) (w := w) (K := K) (mg := mg) (base := base) (k := 4) ⟨rfl, rfl, rfl, rfl, rfl⟩ hx (qe_ix (ix_listK (K := K) (by rfl)) (qe_lst (qa_cons (qe_cls m_value_of) (qa_cons (qe_cls m_text_of) (qa_cons (qe_cls m_truth_of) (qa_cons (qe_cls m_rows_of) qa_nil))))) (qv 2) (fun _ _ => (by rfl))) hr (by decide) (qa_cons (qv 0) (qa_cons (qv 1) qa_nil))))))
      (fun pn ea => (qss_cons (qs_if (QW.qt (qw_or (qt_val (qe_callB (call_isXTK (K := K) (by rfl)) (by rfl) T.z_isinstance bb_isinstance (qa_cons (qv 4) (qa_cons (qe_tup (qa_cons (qe_cls T.m_NoName) (qa_cons (qe_cls T.m_TooMany) qa_nil))) qa_nil)))) (qw_or1 (qt_not (qt_val (qe_callB (call_isXK (K := K) (by rfl)) (by rfl) T.z_isinstance bb_isinstance (qa_cons (qv 4) (qa_cons (qe_blt (v := .ty "ValueError") T.z_ValueError bb_ValueError (by rfl)) qa_nil)))))))) (qss_one (qs_ret (qe_tup (qa_cons (qe_S (l := [110, 111, 110, 101]) (by decide +kernel)) (qa_cons (qe_S (l := []) (by decide +kernel)) qa_nil))))) qss_nil)
      (qss_cons (qs_if (qt_val (qe_callB (call_isXK (K := K) (by rfl)) (by rfl) T.z_isinstance bb_isinstance (qa_cons (qv 4) (qa_cons (qe_cls T.m_NoValue) qa_nil)))) (qss_one (qs_ret (qe_tup (qa_cons (qe_S (l := [118, 97, 108, 117, 101]) (by decide +kernel)) (qa_cons (qe_atX (K := K) (by rfl) (qv 4)) qa_nil))))) qss_nil)
      (qss_cons (qs_if (qt_val (qe_callB (call_isXK (K := K) (by rfl)) (by rfl) T.z_isinstance bb_isinstance (qa_cons (qv 4) (qa_cons (qe_cls T.m_NoKind) qa_nil)))) (qss_one (qs_ret (qe_tup (qa_cons (qe_S (l := [107, 105, 110, 100]) (by decide +kernel)) (qa_cons (qe_atX (K := K) (by rfl) (qv 4)) qa_nil))))) qss_nil)
      (qss_cons (qs_if (qt_val (qe_callB (call_isXK (K := K) (by rfl)) (by rfl) T.z_isinstance bb_isinstance (qa_cons (qv 4) (qa_cons (qe_cls T.m_NoSign) qa_nil)))) (qss_one (qs_ret (qe_tup (qa_cons (qe_S (l := [115, 105, 103, 110]) (by decide +kernel)) (qa_cons (qe_atX (K := K) (by rfl) (qv 4)) qa_nil))))) qss_nil)
      (qss_one (qs_ret (qe_tup (qa_cons (qe_S (l := [110, 111, 110, 101]) (by decide +kernel)) (qa_cons (qe_S (l := []) (by decide +kernel)) qa_nil)))))))))))
      (qss_one (qs_ret (qe_tup (qa_cons (qe_S (l := [116, 111, 108, 100]) (by decide +kernel)) (qa_cons (qv 3) qa_nil))))))).h, ?_⟩
    walk_at "rd"
    intro p hp
    have g0 := same_upd (o := .lst [V.ref f0, V.ref f1, V.ref f2, V.ref f3]) hp
    refine ⟨_, SqL.of upd_same, ?_⟩
    obtain ⟨f, hf, xf⟩ : ∃ f, [V.ref f0, V.ref f1, V.ref f2, V.ref f3][wn]? = some (.ref f) ∧ FnX P w K mg base 4 f (spv K t wn) := by
      have w4 : wn = 0 ∨ wn = 1 ∨ wn = 2 ∨ wn = 3 := by omega
      rcases w4 with rfl | rfl | rfl | rfl
      · exact ⟨f0, rfl, x0⟩
      · exact ⟨f1, rfl, x1⟩
      · exact ⟨f2, rfl, x2⟩
      · exact ⟨f3, rfl, x3⟩
    refine ⟨_, hf, f, rfl, _, xf, sc, n, kss, rfl, hs.mono g0, hn, fun _ => hv.mono g0, ?_⟩
    have om := outc_mono (k := .inr (S n)) (w := wn) (fun d hd kv hk => (hv d hd kv hk).1) g0
    rw [om]
    cases e : outc H kss (.inr (S n)) wn with
    | told v =>
      intro H1 g1 p1 hp1
      refine q p1 _ (g0.trans (g1.trans (same_upd hp1))) ?_
      rw [upd_same, e]
      rfl
    | val =>
      intro d H1 g1 hd
      refine ⟨t.NoValue, rfl, T.c_NoValue, T.kit_up_NoValue, fun ea H2 g2 hc p1 hp1 => ?_⟩
      have gp := same_upd (o := .tup [V.ref t.NoName, V.ref t.TooMany]) hp1
      have G0 : L2.Got K (upd H2 p1 (.tup [V.ref t.NoName, V.ref t.TooMany])) ea t.NoValue [("name", .str (S n))] := (L2.Got.mk T.c_NoValue ⟨d, hc, g2 _ _ hd⟩).mono gp
      refine ⟨t.NoValue, _, _, upd_same, G0, rfl, false, T.kit_l1_NoValue, ?_⟩
      rw [if_neg (by decide)]
      refine ⟨t.NoValue, ⟨_, G0⟩, rfl, true, T.kit_ve_NoValue, ?_⟩
      rw [if_neg (by decide)]
      refine ⟨t.NoValue, ⟨_, G0⟩, rfl, true, T.kit_is_NoValue_NoValue, ?_⟩
      rw [if_pos rfl]
      refine ⟨t.NoValue, _, G0, T.n_NoValue_name, _, rfl, fun p2 hp2 => q p2 _ (g0.trans (g1.trans (g2.trans (gp.trans (same_upd hp2))))) ?_⟩
      rw [upd_same, e]
      rfl
    | kind =>
      intro d H1 g1 hd
      refine ⟨t.NoKind, rfl, T.c_NoKind, T.kit_up_NoKind, fun ea H2 g2 hc p1 hp1 => ?_⟩
      have gp := same_upd (o := .tup [V.ref t.NoName, V.ref t.TooMany]) hp1
      have G0 : L2.Got K (upd H2 p1 (.tup [V.ref t.NoName, V.ref t.TooMany])) ea t.NoKind [("name", .str (S n))] := (L2.Got.mk T.c_NoKind ⟨d, hc, g2 _ _ hd⟩).mono gp
      refine ⟨t.NoKind, _, _, upd_same, G0, rfl, false, T.kit_l1_NoKind, ?_⟩
      rw [if_neg (by decide)]
      refine ⟨t.NoKind, ⟨_, G0⟩, rfl, true, T.kit_ve_NoKind, ?_⟩
      rw [if_neg (by decide)]
      refine ⟨t.NoKind, ⟨_, G0⟩, rfl, false, T.kit_is_NoKind_NoValue, ?_⟩
      rw [if_neg (by decide)]
      refine ⟨t.NoKind, ⟨_, G0⟩, rfl, true, T.kit_is_NoKind_NoKind, ?_⟩
      rw [if_pos rfl]
      refine ⟨t.NoKind, _, G0, T.n_NoKind_name, _, rfl, fun p2 hp2 => q p2 _ (g0.trans (g1.trans (g2.trans (gp.trans (same_upd hp2))))) ?_⟩
      rw [upd_same, e]
      rfl
    | sign b =>
      intro d H1 g1 hd
      refine ⟨t.NoSign, rfl, T.c_NoSign, T.kit_up_NoSign, fun ea H2 g2 hc p1 hp1 => ?_⟩
      have gp := same_upd (o := .tup [V.ref t.NoName, V.ref t.TooMany]) hp1
      have G0 : L2.Got K (upd H2 p1 (.tup [V.ref t.NoName, V.ref t.TooMany])) ea t.NoSign [("at", .int (b : Nat))] := (L2.Got.mk T.c_NoSign ⟨d, hc, g2 _ _ hd⟩).mono gp
      refine ⟨t.NoSign, _, _, upd_same, G0, rfl, false, T.kit_l1_NoSign, ?_⟩
      rw [if_neg (by decide)]
      refine ⟨t.NoSign, ⟨_, G0⟩, rfl, true, T.kit_ve_NoSign, ?_⟩
      rw [if_neg (by decide)]
      refine ⟨t.NoSign, ⟨_, G0⟩, rfl, false, T.kit_is_NoSign_NoValue, ?_⟩
      rw [if_neg (by decide)]
      refine ⟨t.NoSign, ⟨_, G0⟩, rfl, false, T.kit_is_NoSign_NoKind, ?_⟩
      rw [if_neg (by decide)]
      refine ⟨t.NoSign, ⟨_, G0⟩, rfl, true, T.kit_is_NoSign_NoSign, ?_⟩
      rw [if_pos rfl]
      refine ⟨t.NoSign, _, G0, T.n_NoSign_at, _, rfl, fun p2 hp2 => q p2 _ (g0.trans (g1.trans (g2.trans (gp.trans (same_upd hp2))))) ?_⟩
      rw [upd_same, e]
      rfl

end

section
variable {P : Program} {w : World} {K : PySem.W.Frag} {mg : Str → Option Value} {base : Heap} {t : Ads}
theorem cut_m1 {xs : List V} {v : V} : cutV (xs ++ [v]) (some (-1)) none = [v] := by
  unfold cutV
  rw [HT.sIx_none]
  have : HT.sIx (xs ++ [v]).length 0 (some (-1)) = xs.length := by
    show (if (-1 : Int) < 0 then ((-1 : Int) + ((xs ++ [v]).length : Int)).toNat else min (-1 : Int).toNat (xs ++ [v]).length) = xs.length
    rw [if_pos (by decide), List.length_append, List.length_singleton]
    omega
  rw [this, List.drop_left]
  exact List.take_of_length_le (by simp)
theorem Scs.upd {H : Hp} {sc b : Addr} {kss : List Dc} {xs ys : List V} (h : Scs H sc kss) (hb : H b = some (.lst xs)) (hne : b ≠ sc) : Scs (L2.upd H b (.lst ys)) sc kss := by
  obtain ⟨as, h1, h2, h3, h4⟩ := h
  refine ⟨as, by rw [upd_ne hne.symm]; exact h1, h2, h3, fun i a d e1 e2 => ?_⟩
  have := h4 i a d e1 e2
  rw [upd_ne (fun z => by subst z; rw [hb] at this; cases this)]
  exact this
def tI (sc : Addr) (n : List Nat) (kss : List Dc) (H : Hp) (i : Nat) (σ : L2.St) (H' : Hp) : Prop := ∃ o2 o3 o4 : Option V, σ = [some (.ref sc), some (.str (S n)), o2, o3, o4] ∧ Same H H' ∧ look kss (.inr (S n)) = look (kss.take (kss.length - i)) (.inr (S n))
theorem ok_law_is_the_very (T : Txt K mg t) (D : Df K mg "_law_is_the_very" s__law_is_the_very ps__law_is_the_very) (F_value_of : OkX P w K mg base 3 "value_of" ps_value_of (sp_value_of K t)) : OkF P w K mg base 4 "_law_is_the_very" ps__law_is_the_very (sp__law_is_the_very K) := by
  refine D.ok sc__law_is_the_very (fun vs H Q E h => ?_) (fun f cdv A outer s H vs Q E hr h => ?_)
  · obtain ⟨_, _, _, rfl, _⟩ := h; rfl
  · obtain ⟨sc, n, kss, rfl, ⟨as, hsc, hl, h10, hd⟩, hn, hv, q⟩ := h
    refine ⟨_, ((qss_cons (qs_for PassesOwn.never (by rfl) (qi_listK (K := K) (by rfl) (qe_revS (by rfl) (qv 0))) (qg_name (i := 2) sc__law_is_the_very.nd (by rfl) (Or.inl (by rfl))) (qss_one (qs_if (qt_cmpR (op_dIn (hu_of hr)) (qv 1) (qv 2) (by rfl)) (qss_cons (qs_set (i := 3) sc__law_is_the_very.nd (by rfl) (Or.inl (by rfl)) (qe_dget (hu_of hr) (qv 2) (qv 1) (by intro _ _; rfl)))
      (qss_cons (qs_if (qt_val (qe_callB (call_isAK (K := K) (n := "list") (by rfl)) (by rfl) T.z_isinstance bb_isinstance (qa_cons (qv 3) (qa_cons (qe_blt (v := .ty "list") T.z_list bb_list (by rfl)) qa_nil)))) (qss_cons (qs_expr (qe_bmK (K := K) (by rfl) PySem.F.plainAttrs_list PySem.F.slot_list_append PySem.F.type_list_append mt_append (qe_callN F_value_of hr (by decide) (qa_cons (qv 0) (qa_cons (qv 1) qa_nil))) (qa_cons (qe_S (l := [109, 111, 114, 101]) (by decide +kernel)) qa_nil)))
      (qss_cons (qs_set (i := 4) sc__law_is_the_very.nd (by rfl) (Or.inl (by rfl)) (qe_and (qe_cmpR (op_eqSK (K := K) (by rfl) (hu_lt hr)) (qe_slice (sl_listK (K := K) (by rfl)) (qv 3) (qo_some (qe_un un_neg qe_int)) qo_none) (qe_lst (qa_cons (qe_S (l := [109, 111, 114, 101]) (by decide +kernel)) qa_nil)) (nomark _)) (qe_one (qe_cmpR (op_eqSK (K := K) (by rfl) (hu_lt hr)) (qe_slice (sl_listK (K := K) (by rfl)) (qe_callN F_value_of hr (by decide) (qa_cons (qv 0) (qa_cons (qv 1) qa_nil))) (qo_some (qe_un un_neg qe_int)) qo_none) (qe_lst (qa_cons (qe_S (l := [109, 111, 114, 101]) (by decide +kernel)) qa_nil)) (nomark _)))))
      (qss_cons (qs_expr (qe_bm0K (K := K) (by rfl) PySem.F.plainAttrs_list PySem.F.slot_list_pop PySem.F.type_list_pop mt_pop (qv 3)))
      (qss_one (qs_ret (qv 4)))))) qss_nil)
      (qss_one (qs_ret qe_bl)))) qss_nil)))
      (qss_one (qs_ret qe_bl)))).h, ?_⟩
    walk_at "rd"
    refine ⟨as.map V.ref, SqL.of hsc, fun p hp => ⟨⟨_, SqL.of upd_same⟩, ?_⟩⟩
    have g0 := same_upd (o := .lst (as.map V.ref).reverse) hp
    refine fb_list (xs := (as.map V.ref).reverse) (tI sc n kss (upd H p (.lst (as.map V.ref).reverse))) ⟨_, _, _, rfl, Same.refl _, by rw [Nat.sub_zero, List.take_length]⟩ ?_ ?_ ?_
    · rintro i σ H1 _ ⟨_, _, _, _, g, _⟩
      exact SqL.of (g _ _ upd_same)
    · rintro i x σ H1 hi ⟨o2, o3, o4, rfl, g, hk⟩
      have hil : i < as.length := by
        have := (List.getElem?_eq_some_iff.mp hi).1
        simpa using this
      rw [List.getElem?_reverse (by simpa using hil), List.length_map, List.getElem?_map, List.getElem?_eq_getElem (by omega)] at hi
      cases hi
      have hj : as.length - 1 - i < kss.length := by omega
      have g1 := g0.trans g
      have hd1 := g1 _ _ (hd _ _ _ (List.getElem?_eq_getElem (by omega : as.length - 1 - i < as.length)) (List.getElem?_eq_getElem hj))
      have lt := look_take (k := .inr (S n)) (List.getElem?_eq_getElem hj)
      rw [show as.length - 1 - i + 1 = kss.length - i by omega, ← hk] at lt
      walk_at "rd"
      refine ⟨_, .k (k := .inr (S n)) hd1, ?_⟩
      cases e : valV kss[as.length - 1 - i] (.inr (S n)) with
      | none =>
        rw [if_neg (by simp)]
        refine ⟨_, _, _, rfl, g, ?_⟩
        rw [lt, e, Option.none_or, show as.length - 1 - i = kss.length - (i + 1) by omega]
      | some v =>
        rw [if_pos (by rfl)]
        have dg : DGet H1 as[as.length - 1 - i] (kV (.inr (S n))) (some v) := by
          have := DGet.k (k := .inr (S n)) hd1
          rw [e] at this
          exact this
        refine ⟨v, dg, ?_⟩
        rw [e, Option.some_or] at lt
        obtain ⟨d, hdm, kv, hkv, rfl⟩ := look_mem lt
        obtain ⟨hV, hne⟩ := hv d hdm kv hkv
        have hV1 := hV.mono g1
        obtain ⟨tt, t1, t2⟩ := ty_list hV1.1
        refine ⟨tt, t1, _, t2, ?_⟩
        cases ls : isLs H1 kv.2 with
        | none =>
          rw [if_neg (by simp)]
          exact q _ g1
        | some xs =>
          rw [if_pos (by rfl)]
          obtain ⟨b, eb, hb⟩ := ls_ref ls
          have hs1 : Scs H1 sc kss := Scs.mono ⟨as, hsc, hl, h10, hd⟩ g1
          refine ⟨sc, n, kss, rfl, hs1, hn, fun h => absurd h (by decide), ?_⟩
          have oc0 : ∀ H', outc H' kss (.inr (S n)) 0 = .told kv.2 := fun H' => by unfold outc; rw [lt]; rfl
          rw [oc0]
          intro H2 g2
          have hb2 := g2 _ _ hb
          have hbs : b ≠ sc := fun z => hne (by rw [eb, z])
          have h100 := (hV1.2 xs ls).1
          have eM : eqS [V.str (S [109, 111, 114, 101])] [V.str (S [109, 111, 114, 101])] = true := eqS_self (by rfl)
          refine ⟨by rw [eb]; exact .inl ⟨rfl, _, SqL.of hb2⟩, b, eb, xs, hb2, by omega, b, eb, _, SqL.of upd_same, ?_⟩
          rw [cut_m1]
          intro p1 h1 p2 h2
          have k1 := same_upd (o := .lst [V.str (S [109, 111, 114, 101])]) h1
          have k2 := same_upd (o := .lst [V.str (S [109, 111, 114, 101])]) h2
          refine ⟨_, _, .inl ⟨SqL.of (k2 _ _ upd_same), SqL.of upd_same⟩, rfl, rfl, ?_⟩
          rw [if_pos eM]
          have hs3 : Scs (upd H2 b (.lst (xs ++ [V.str (S [109, 111, 114, 101])]))) sc kss := (hs1.mono g2).upd hb2 hbs
          refine ⟨sc, n, kss, rfl, hs3.mono (k1.trans k2), hn, fun h => absurd h (by decide), ?_⟩
          rw [oc0]
          intro H6 g6
          have k6 := k1.trans (k2.trans g6)
          refine ⟨b, eb, _, SqL.of (k6 _ _ upd_same), ?_⟩
          rw [cut_m1]
          intro p3 h3 p4 h4
          have k3 := same_upd (o := .lst [V.str (S [109, 111, 114, 101])]) h3
          have k4 := same_upd (o := .lst [V.str (S [109, 111, 114, 101])]) h4
          have k8 := k6.trans (k3.trans k4)
          have hb8 := k8 _ _ upd_same
          refine ⟨_, _, .inl ⟨SqL.of (k4 _ _ upd_same), SqL.of upd_same⟩, rfl, rfl, by rw [eb]; exact .inl ⟨rfl, _, SqL.of hb8⟩, b, eb, _, hb8, ⟨V.str (S [109, 111, 114, 101]), by simp⟩, ?_⟩
          rw [eM, List.dropLast_concat]
          refine q _ (g1.trans (g2.trans fun c o hc => ?_))
          by_cases z : c = b
          · subst z
            rw [upd_same, ← hb2]
            exact hc
          · rw [upd_ne z]
            refine k8 _ _ ?_
            rw [upd_ne z]
            exact hc
    · rintro σ H1 ⟨o2, o3, o4, rfl, g, hk⟩
      walk_at "rd"
      exact q _ (g0.trans g)

end

section
variable {P : Program} {w : World} {K : PySem.W.Frag} {mg : Str → Option Value} {base : Heap} {t : Ads}
def lO (K : PySem.W.Frag) (a p sc kp : Addr) (ns : List (List Nat)) (kss : List Dc) (H : Hp) (_ : Nat) (σ : L2.St) (H' : Hp) : Prop := ∃ o4 o5 o6 o7 : Option V, σ = [some (.ref a), some (.ref p), some (.ref sc), some (.ref kp), o4, o5, o6, o7] ∧ Same H H'
def lI (a p sc kp : Addr) (n : List Nat) (H : Hp) (_ : Nat) (σ : L2.St) (H' : Hp) : Prop := ∃ o5 o6 o7 : Option V, σ = [some (.ref a), some (.ref p), some (.ref sc), some (.ref kp), some (.str (S n)), o5, o6, o7] ∧ Same H H'
theorem ty_mono {K : PySem.W.Frag} {H H' : Hp} {x : V} {t : Value} (g : Same H H') (h : TyOf K H x t) : TyOf K H' x t := by
  cases h with
  | non => exact .non
  | bl => exact .bl _
  | int => exact .int _
  | str => exact .str _
  | flt => exact .flt _
  | lst e => exact .lst (g _ _ e)
  | frz e => exact .frz (g _ _ e)
  | tup e => exact .tup (g _ _ e)
  | dK e => exact .dK (g _ _ e)
  | dT e => exact .dT (g _ _ e)
  | ins e a b c d f => exact .ins (g _ _ e) a b c d f
theorem okV_of {K : PySem.W.Frag} {H : Hp} {x : V} (h : Itm K H x) : okV x := by
  rcases h with ⟨l, rfl, _⟩ | h
  · exact .inl rfl
  · rcases h with rfl | ⟨_, rfl⟩ | ⟨_, rfl⟩ | ⟨b, xs, rfl, h⟩ | ⟨b, xs, rfl, h⟩ | ⟨b, xs, rfl, h⟩
    · exact .inl rfl
    · exact .inl rfl
    · exact .inl rfl
    · exact .inr ⟨_, rfl⟩
    · exact .inr ⟨_, rfl⟩
    · exact .inr ⟨_, rfl⟩
theorem tpl_ok {K : PySem.W.Frag} {H : Hp} {kss : List Dc} {n : List Nat} {w : Nat} (hv : ∀ d ∈ kss, ∀ kv ∈ d, Val K H kv.2) (hn : n.length ≤ 100) : ∃ s y, tpl n (outc H kss (.inr (S n)) w) = [.str s, y] ∧ okV y ∧ ∃ t b, TyOf K H y t ∧ PySem.W.kitOne K t (.type "bool") = some b := by
  have hvv : ∀ v, look kss (.inr (S n)) = some v → Val K H v := fun v e => by
    obtain ⟨d, hd, kv, hk, rfl⟩ := look_mem e
    exact hv d hd kv hk
  have base : ∀ r, (∀ v, r = R3.told v → Itm K H v) → ∃ s y, tpl n r = [.str s, y] ∧ okV y ∧ ∃ t b, TyOf K H y t ∧ PySem.W.kitOne K t (.type "bool") = some b := fun r h => by
    cases r with
    | told v =>
      obtain ⟨t, h1, h2⟩ := ty_bool (h v rfl)
      exact ⟨_, v, rfl, okV_of (h v rfl), t, _, h1, h2⟩
    | val => exact ⟨_, _, rfl, .inl rfl, _, _, .str _, rfl⟩
    | kind => exact ⟨_, _, rfl, .inl rfl, _, _, .str _, rfl⟩
    | sign b => exact ⟨_, _, rfl, .inl rfl, _, _, .int _, rfl⟩
  refine base _ fun v e => ?_
  unfold outc at e
  cases lo : look kss (.inr (S n)) with
  | none => rw [lo] at e; cases e
  | some u =>
    rw [lo] at e
    have e : oc H u w = .told v := e
    have : v = u := by
      match w, e with
      | 0, e => cases e; rfl
      | 1, e =>
        cases u with
        | str s =>
          have e : (match fb s.cps.toList with | none => R3.told (.str s) | some b => .sign b) = .told v := e
          cases f : fb s.cps.toList with
          | none => rw [f] at e; cases e; rfl
          | some b => rw [f] at e; cases e
        | _ => cases e
      | 2, e => cases u <;> cases e; rfl
      | w + 3, e =>
        have e : (match isLs H u with | some xs => if xs.length ≤ 60 ∧ xs.all (isDb H) = true then R3.told u else .kind | none => .kind) = .told v := e
        cases ls : isLs H u with
        | none => rw [ls] at e; cases e
        | some xs =>
          rw [ls] at e
          simp only at e
          split at e
          · cases e; rfl
          · cases e
    rw [this]
    exact (hvv u lo).1
theorem ok_law (T : Txt K mg t) (D : Df K mg "law" s_law ps_law) (F__law_cell_at : OkF P w K mg base 1 "_law_cell_at" ps__law_cell_at (sp__law_cell_at K)) (F__law_names : OkF P w K mg base 2 "_law_names" ps__law_names sp__law_names) (F__law_scopes : OkF P w K mg base 3 "_law_scopes" ps__law_scopes (sp__law_scopes K)) (F__law_found : OkF P w K mg base 5 "_law_found" ps__law_found (sp__law_found K)) (F__law_due : OkF P w K mg base 2 "_law_due" ps__law_due (sp__law_due K)) (F__law_is_the_very : OkF P w K mg base 4 "_law_is_the_very" ps__law_is_the_very (sp__law_is_the_very K)) : OkF P w K mg base 6 "law" ps_law (sp_law K) := by
  refine D.ok sc_law (fun vs H Q E h => ?_) (fun f cdv A outer s H vs Q E hr h => ?_)
  · obtain ⟨_, _, rfl, _⟩ := h; rfl
  · obtain ⟨a, is, rfl, hS, h63, q⟩ := h
    refine ⟨_, ((qss_cons (qs_set (i := 1) sc_law.nd (by rfl) (Or.inl (by rfl)) (qe_callF F__law_names hr (by decide) (qa_cons (qe_callF F__law_cell_at hr (by decide) (qa_cons (qv 0) (qa_cons qe_int qa_nil))) qa_nil)))
      (qss_cons (qs_set (i := 2) sc_law.nd (by rfl) (Or.inl (by rfl)) (qe_callF F__law_scopes hr (by decide) (qa_cons (qv 0) (qa_cons (qv 1) qa_nil))))
      (qss_cons ⟨ps_setLC (i := 3) sc_law.nd rfl (Or.inl rfl) (lcs (N := N_law) (sc := defScope s_law) rfl rfl rfl (by decide +kernel)) ((qi_listK (K := K) (by rfl) (qv 2))).h (fun _ _ _ _ _ => qts_nil.h) (fun _ _ _ _ _ => ((qe_callTy call_dictD (by rfl) T.z_dict bb_dict (qa_cons (qv 0) qa_nil))).h)⟩
      (qss_cons (qs_for PassesOwn.never (by rfl) (qi_listK (K := K) (by rfl) (qv 1)) (qg_name (i := 4) sc_law.nd (by rfl) (Or.inl (by rfl))) (qss_one (qs_for PassesOwn.never (by rfl) (qi_listK (K := K) (by rfl) (qe_lst (qa_cons qe_int (qa_cons qe_int (qa_cons qe_int (qa_cons qe_int (qa_cons qe_int qa_nil))))))) (qg_name (i := 5) sc_law.nd (by rfl) (Or.inl (by rfl))) (qss_cons (qs_set (i := 6) sc_law.nd (by rfl) (Or.inl (by rfl)) (qe_callF F__law_found hr (by decide) (qa_cons (qv 2) (qa_cons (qv 4) (qa_cons (qv 5) qa_nil)))))
      (qss_cons (qs_set (i := 7) sc_law.nd (by rfl) (Or.inl (by rfl)) (qe_callF F__law_due hr (by decide) (qa_cons (qv 3) (qa_cons (qv 4) (qa_cons (qv 5) qa_nil)))))
      (qss_one (qs_if (QW.qt (qw_or (qt_cmpR (op_neI (hu_lt hr)) (qv 6) (qv 7) (nomark _)) (qw_or1 (qt_cmpR op_ne (qe_callB (call_isAK (K := K) (n := "bool") (by rfl)) (by rfl) T.z_isinstance bb_isinstance (qa_cons (qe_ix (ix_tupK (K := K) (by rfl)) (qv 6) qe_int (fun _ _ => (by rfl))) (qa_cons (qe_blt (v := .ty "bool") T.z_bool bb_bool (by rfl)) qa_nil))) (qe_callB (call_isAK (K := K) (n := "bool") (by rfl)) (by rfl) T.z_isinstance bb_isinstance (qa_cons (qe_ix (ix_tupK (K := K) (by rfl)) (qv 7) qe_int (fun _ _ => (by rfl))) (qa_cons (qe_blt (v := .ty "bool") T.z_bool bb_bool (by rfl)) qa_nil))) (nomark _))))) (qss_one (qs_ret qe_bl)) qss_nil)))))))
      (qss_cons (qs_for PassesOwn.never (by rfl) (qi_listK (K := K) (by rfl) (qv 1)) (qg_name (i := 4) sc_law.nd (by rfl) (Or.inl (by rfl))) (qss_one (qs_if (qt_not (qt_val (qe_callF F__law_is_the_very hr (by decide) (qa_cons (qv 2) (qa_cons (qv 4) qa_nil))))) (qss_one (qs_ret qe_bl)) qss_nil)))
      (qss_one (qs_ret (qe_cmpR (op_eqDL (K := K) (by rfl) (hu64 hr)) (qv 2) (qv 3) (nomark _)))))))))).h, ?_⟩
    walk_at "rd"
    refine ⟨⟨is, hS⟩, fun v H1 g1 p H2 ns g2 h7 h8 ep => ⟨⟨is, (g1.trans g2).seq hS⟩, ns, ep, h7, fun sc H3 kss g3 hs hv => ?_⟩⟩
    obtain ⟨as, hsc, hl, h10, hd⟩ := id hs
    refine ⟨⟨_, SqL.of hsc⟩, ?_⟩
    refine lc_listG (xs := as.map V.ref) (fun c v H' => ∃ a b d, c = .ref a ∧ v = .ref b ∧ H' a = some (.dK d) ∧ H' b = some (.dK d)) (fun c v X1 X2 ⟨a, b, d, e1, e2, e3, e4⟩ g => ⟨a, b, d, e1, e2, g _ _ e3, g _ _ e4⟩) (fun c v X1 D xs ys ⟨a, b, d, e1, e2, e3, e4⟩ h => ⟨a, b, d, e1, e2, by rw [upd_ne (fun z => by subst z; rw [h] at e3; cases e3)]; exact e3, by rw [upd_ne (fun z => by subst z; rw [h] at e4; cases e4)]; exact e4⟩) (by rw [PySem.sizeLine_eq, List.length_map]; omega) hsc (fun c hc H4 g4 R r => ?_) (fun kp H4 ys hkp g4 hy hG ek => ?_)
    · obtain ⟨b, hb, rfl⟩ := List.mem_map.mp hc
      obtain ⟨i, hi⟩ := List.getElem?_of_mem hb
      have hi2 : i < kss.length := by have := (List.getElem?_eq_some_iff.mp hi).1; omega
      have hd4 := g4 _ _ (hd i b _ hi (List.getElem?_eq_getElem hi2))
      walk_at "rd"
      exact ⟨_, hd4, fun p hp => r _ _ (same_upd hp) ⟨b, p, _, rfl, rfl, same_upd hp _ _ hd4, upd_same⟩⟩
    · have hs4 := hs.mono g4
      have hv4 := hv.mono g4
      have hvk : ∀ d ∈ kss, ∀ kv ∈ d, Val K H4 kv.2 := fun d hd kv hk => (hv4 d hd kv hk).1
      have hyl : ys.length = as.length := by rw [hy, List.length_map]
      have hk4 : Scs H4 kp kss := by
        have un : ∀ y ∈ ys, V.ref (match y with | .ref b => b | _ => sc) = y := fun y hm => by
          obtain ⟨i, hi⟩ := List.getElem?_of_mem hm
          have hil : i < as.length := by have := (List.getElem?_eq_some_iff.mp hi).1; omega
          obtain ⟨_, b, _, _, rfl, _⟩ := hG i _ y (by rw [List.getElem?_map, List.getElem?_eq_getElem hil]; rfl) hi
          rfl
        refine ⟨ys.map fun y => match y with | .ref b => b | _ => sc, ?_, by rw [List.length_map, hyl, hl], by rw [List.length_map, hyl]; exact h10, fun i b d h1 h2 => ?_⟩
        · rw [ek, List.map_map]
          congr 2
          exact (List.map_congr_left (g := id) fun y hm => un y hm).trans (List.map_id _) |>.symm
        · rw [List.getElem?_map] at h1
          cases hi : ys[i]? with
          | none => rw [hi] at h1; cases h1
          | some y =>
            have hil : i < as.length := by have := (List.getElem?_eq_some_iff.mp hi).1; omega
            obtain ⟨a', b', d', e1, rfl, e3, e4⟩ := hG i _ y (by rw [List.getElem?_map, List.getElem?_eq_getElem hil]; rfl) hi
            rw [hi] at h1
            cases h1
            cases e1
            have := g4 _ _ (hd i _ d (List.getElem?_eq_getElem hil) h2)
            rw [e3] at this
            cases this
            exact e4
      have ep4 := (g3.trans g4) _ _ ep
      refine ⟨⟨_, SqL.of ep4⟩, ?_⟩
      refine fb_list (xs := ns.map fun n => V.str (S n)) (lO K a p sc kp ns kss H4) ⟨_, _, _, _, rfl, Same.refl _⟩ ?_ ?_ ?_
      · rintro i σ H5 _ ⟨_, _, _, _, _, g⟩
        exact SqL.of (g _ _ ep4)
      · rintro i x σ H5 hi ⟨o4, o5, o6, o7, rfl, g5⟩
        rw [List.getElem?_map] at hi
        cases hn : ns[i]? with
        | none => rw [hn] at hi; cases hi
        | some n =>
          rw [hn] at hi
          cases hi
          have hn8 := h8 n (List.mem_of_getElem? hn)
          walk_at "rd"
          intro p2 hp2
          have g6 := same_upd (o := .lst [V.int 0, V.int 1, V.int 2, V.int 3, V.int 0]) hp2
          have g56 := g5.trans g6
          refine ⟨⟨_, SqL.of upd_same⟩, ?_⟩
          refine fb_list (xs := [V.int 0, V.int 1, V.int 2, V.int 3, V.int 0]) (lI a p sc kp n (upd H5 p2 (.lst [V.int 0, V.int 1, V.int 2, V.int 3, V.int 0]))) ⟨_, _, _, rfl, Same.refl _⟩ ?_ ?_ ?_
          · rintro j σ H6 _ ⟨_, _, _, _, g⟩
            exact SqL.of (g _ _ upd_same)
          · rintro j x σ H6 hj ⟨o5, o6, o7, rfl, g7⟩
            obtain ⟨wn, hw, rfl⟩ : ∃ wn : Nat, wn ≤ 3 ∧ x = .int wn := by
              have hx := List.mem_of_getElem? hj
              simp only [List.mem_cons, List.not_mem_nil, or_false] at hx
              rcases hx with rfl | rfl | rfl | rfl | rfl
              · exact ⟨0, by decide, rfl⟩
              · exact ⟨1, by decide, rfl⟩
              · exact ⟨2, by decide, rfl⟩
              · exact ⟨3, by decide, rfl⟩
              · exact ⟨0, by decide, rfl⟩
            have g46 := g56.trans g7
            walk_at "rd"
            have hv6 := hv4.mono g46
            refine ⟨hw, kss, hs4.mono g46, by omega, hv6, fun p3 H7 g8 e3 => ?_⟩
            have hv7 : ∀ d ∈ kss, ∀ kv ∈ d, Val K H7 kv.2 := fun d hd kv hk => (hvk d hd kv hk).mono (g46.trans g8)
            refine ⟨kp, n, kss, wn, rfl, hw, hk4.mono (g46.trans g8), by omega, hv7, fun p4 H8 g9 e4 => ?_⟩
            have o67 : outc H7 kss (.inr (S n)) wn = outc H6 kss (.inr (S n)) wn := outc_mono (fun d hd kv hk => (hv6 d hd kv hk).1) g8
            rw [o67] at e4
            obtain ⟨s, y, et, oy, ty, bb, t1, t2⟩ := tpl_ok (w := wn) (fun d hd kv hk => (hv6 d hd kv hk).1) (by omega : n.length ≤ 100)
            rw [et] at e3 e4
            have e38 := g9 _ _ e3
            have t8 : TyOf K H8 y ty := ty_mono (g8.trans g9) t1
            refine ⟨p4, rfl, _, e38, e4, fun x hx => ?_, _, SqT.of e38, y, atI_1 _ _ _, ty, t8, bb, t2, p4, rfl, _, SqT.of e4, y, atI_1 _ _ _, ty, t8, bb, t2, ?_⟩
            · simp only [List.mem_cons, List.not_mem_nil, or_false] at hx
              rcases hx with rfl | rfl
              · exact .inl rfl
              · exact oy
            · rw [if_neg (by simp)]
              exact ⟨_, _, _, rfl, g7.trans (g8.trans g9)⟩
          · rintro σ H6 ⟨o5, o6, o7, rfl, g7⟩
            exact ⟨_, _, _, _, rfl, g56.trans g7⟩
      · rintro σ H5 ⟨o4, o5, o6, o7, rfl, g5⟩
        walk_at "rd"
        refine ⟨⟨_, SqL.of (g5 _ _ ep4)⟩, ?_⟩
        refine fb_list (xs := ns.map fun n => V.str (S n)) (lO K a p sc kp ns kss H4) ⟨_, _, _, _, rfl, g5⟩ ?_ ?_ ?_
        · rintro i σ H5 _ ⟨_, _, _, _, _, g⟩
          exact SqL.of (g _ _ ep4)
        · rintro i x σ H6 hi ⟨o4, o5, o6, o7, rfl, g6⟩
          rw [List.getElem?_map] at hi
          cases hn : ns[i]? with
          | none => rw [hn] at hi; cases hi
          | some n =>
            rw [hn] at hi
            cases hi
            have hn8 := h8 n (List.mem_of_getElem? hn)
            walk_at "rd"
            exact ⟨kss, hs4.mono g6, by omega, hv4.mono g6, fun H7 g7 => ⟨_, _, _, _, rfl, g6.trans g7⟩⟩
        · rintro σ H6 ⟨o4, o5, o6, o7, rfl, g6⟩
          walk_at "rd"
          obtain ⟨as6, c1, c2, c3, c4⟩ := hs4.mono g6
          obtain ⟨bs6, d1, d2, d3, d4⟩ := hk4.mono g6
          refine ⟨_, SqL.of c1, _, SqL.of d1, by rw [List.length_map, List.length_map, c2, d2], fun j x y h1 h2 => ?_, q _⟩
          rw [List.getElem?_map] at h1 h2
          cases e1 : as6[j]? with
          | none => rw [e1] at h1; cases h1
          | some x1 =>
            cases e2 : bs6[j]? with
            | none => rw [e2] at h2; cases h2
            | some y1 =>
              rw [e1] at h1
              rw [e2] at h2
              cases h1
              cases h2
              have hj : j < kss.length := by have := (List.getElem?_eq_some_iff.mp e1).1; omega
              refine ⟨x1, y1, kss[j], rfl, rfl, c4 j _ _ e1 (List.getElem?_eq_getElem hj), d4 j _ _ e2 (List.getElem?_eq_getElem hj), fun kv hk => ?_⟩
              exact okV_of (hvk _ (List.getElem_mem hj) kv hk).1

end
end My

set_option maxHeartbeats 0
open PySem L2 PySem.Spec PyProof.Rows
namespace My
theorem len0 {α : Type} {us : List α} (h : us.length = 0) : us = [] := List.length_eq_zero_iff.mp h
theorem len1 {α : Type} : ∀ {us : List α}, us.length = 1 → ∃ a0, us = [a0]
  | [a0], _ => ⟨a0, rfl⟩
theorem len2 {α : Type} : ∀ {us : List α}, us.length = 2 → ∃ a0 a1, us = [a0, a1]
  | [a0, a1], _ => ⟨a0, a1, rfl⟩
theorem len3 {α : Type} : ∀ {us : List α}, us.length = 3 → ∃ a0 a1 a2, us = [a0, a1, a2]
  | [a0, a1, a2], _ => ⟨a0, a1, a2, rfl⟩
theorem len4 {α : Type} : ∀ {us : List α}, us.length = 4 → ∃ a0 a1 a2 a3, us = [a0, a1, a2, a3]
  | [a0, a1, a2, a3], _ => ⟨a0, a1, a2, a3, rfl⟩
theorem len5 {α : Type} : ∀ {us : List α}, us.length = 5 → ∃ a0 a1 a2 a3 a4, us = [a0, a1, a2, a3, a4]
  | [a0, a1, a2, a3, a4], _ => ⟨a0, a1, a2, a3, a4, rfl⟩
theorem len6 {α : Type} : ∀ {us : List α}, us.length = 6 → ∃ a0 a1 a2 a3 a4 a5, us = [a0, a1, a2, a3, a4, a5]
  | [a0, a1, a2, a3, a4, a5], _ => ⟨a0, a1, a2, a3, a4, a5, rfl⟩
theorem len7 {α : Type} : ∀ {us : List α}, us.length = 7 → ∃ a0 a1 a2 a3 a4 a5 a6, us = [a0, a1, a2, a3, a4, a5, a6]
  | [a0, a1, a2, a3, a4, a5, a6], _ => ⟨a0, a1, a2, a3, a4, a5, a6, rfl⟩
theorem dfm {K : PySem.W.Frag} {mg : Str → Option Value} {h : Heap} {x : Str} {st : Stmt} {ps : List Str} {f cd : Addr} {pm : Value} (X : K.In h) (G : h.Ns mainGlobals mg)
    (b : ∀ (kV doc pm : Value) (an : Option Addr) (cdv ct : Value) (us : List Value), us.length = ps.length → bindArgs (PySem.W.fnOf x x (defArgs st) (defBody st) (defScope st) .none kV doc pm an cdv ct) ⟨us, []⟩ = pure (ps.zip us))
    (a : PySem.W.nsIn K mainGlobals x = some (some (.ref f))) (l : K.lookup f = some ⟨.type "function", none, .func (PySem.W.fnOf x x (defArgs st) (defBody st) (defScope st) .none .none .none pm none (.ref cd) .none), #[]⟩)
    (c : PySem.W.codeIn K (.ref cd) x = true) (k : PySem.W.keepIn K (.ref f) = true) : Df K mg x st ps := df_mk X G b a l c k
theorem inim {K : PySem.W.Frag} {C : Addr} {qual : Str} {st : Stmt} {ps : List Str} {f cd : Addr} {pm : Value}
    (b : ∀ (kV doc pm : Value) (an : Option Addr) (cdv ct : Value) (us : List Value), us.length = ps.length → bindArgs (PySem.W.fnOf "__init__" qual (defArgs st) (defBody st) (defScope st) .none kV doc pm an cdv ct) ⟨us, []⟩ = pure (ps.zip us))
    (a : xInit K C = some (some (.ref f))) (l : K.lookup f = some ⟨.type "function", none, .func (PySem.W.fnOf "__init__" qual (defArgs st) (defBody st) (defScope st) .none .none .none pm none (.ref cd) .none), #[]⟩)
    (c : PySem.W.codeIn K (.ref cd) qual = true) (k : PySem.W.keepIn K (.ref f) = true) : Ini K C qual st ps := ini_mk b a l c k
theorem all_ok {l : PySem.W.OpenLaw} {w : World} {h : Heap} {mg : Str → Option Value} {fa : Addr} (X : (KH w.params).In h) (G : h.Ns mainGlobals mg) (hfa : mg "law" = some (.ref fa)) :
    ∃ fd : FuncData, (∀ (s : Shared) (v : Value), BindsTo s fd ⟨[v], []⟩ [("_law_script", v)]) ∧ ∀ base : Heap, (KH w.params).In base → base.Ns mainGlobals mg → FnOk l.prog w (KH w.params) mg base CX0 6 fa fd ["_law_script"] (sp_law (KH w.params)) := by
  have D_need_text : Df (KH w.params) mg "need_text" s_need_text ps_need_text := dfm (f := 122) (pm := (.str "sealpress.signs" 323)) (cd := 121) X G (fun _ _ _ _ _ _ us hl => by obtain ⟨_, rfl⟩ := len1 hl; rfl) (by kernel_rfl!) (by kernel_rfl!) (by kernel_rfl!) (by kernel_rfl!)
  have D_value_of : Df (KH w.params) mg "value_of" s_value_of ps_value_of := dfm (f := 129) (pm := (.str "sealpress.values" 336)) (cd := 128) X G (fun _ _ _ _ _ _ us hl => by obtain ⟨_, _, rfl⟩ := len2 hl; rfl) (by kernel_rfl!) (by kernel_rfl!) (by kernel_rfl!) (by kernel_rfl!)
  have D_text_of : Df (KH w.params) mg "text_of" s_text_of ps_text_of := dfm (f := 136) (pm := (.str "sealpress.values" 336)) (cd := 135) X G (fun _ _ _ _ _ _ us hl => by obtain ⟨_, _, rfl⟩ := len2 hl; rfl) (by kernel_rfl!) (by kernel_rfl!) (by kernel_rfl!) (by kernel_rfl!)
  have D_truth_of : Df (KH w.params) mg "truth_of" s_truth_of ps_truth_of := dfm (f := 143) (pm := (.str "sealpress.values" 336)) (cd := 142) X G (fun _ _ _ _ _ _ us hl => by obtain ⟨_, _, rfl⟩ := len2 hl; rfl) (by kernel_rfl!) (by kernel_rfl!) (by kernel_rfl!) (by kernel_rfl!)
  have D_rows_of : Df (KH w.params) mg "rows_of" s_rows_of ps_rows_of := dfm (f := 148) (pm := (.str "sealpress.values" 336)) (cd := 147) X G (fun _ _ _ _ _ _ us hl => by obtain ⟨_, _, rfl⟩ := len2 hl; rfl) (by kernel_rfl!) (by kernel_rfl!) (by kernel_rfl!) (by kernel_rfl!)
  have D__law_cell_at : Df (KH w.params) mg "_law_cell_at" s__law_cell_at ps__law_cell_at := dfm (f := 155) (pm := (.str "law_sealpress_k81_scopes" 373)) (cd := 154) X G (fun _ _ _ _ _ _ us hl => by obtain ⟨_, _, rfl⟩ := len2 hl; rfl) (by kernel_rfl!) (by kernel_rfl!) (by kernel_rfl!) (by kernel_rfl!)
  have D__law_mixed : Df (KH w.params) mg "_law_mixed" s__law_mixed ps__law_mixed := dfm (f := 162) (pm := (.str "law_sealpress_k81_scopes" 373)) (cd := 161) X G (fun _ _ _ _ _ _ us hl => by obtain ⟨_, _, rfl⟩ := len2 hl; rfl) (by kernel_rfl!) (by kernel_rfl!) (by kernel_rfl!) (by kernel_rfl!)
  have D__law_rest : Df (KH w.params) mg "_law_rest" s__law_rest ps__law_rest := dfm (f := 169) (pm := (.str "law_sealpress_k81_scopes" 373)) (cd := 168) X G (fun _ _ _ _ _ _ us hl => by obtain ⟨_, rfl⟩ := len1 hl; rfl) (by kernel_rfl!) (by kernel_rfl!) (by kernel_rfl!) (by kernel_rfl!)
  have D__law_names : Df (KH w.params) mg "_law_names" s__law_names ps__law_names := dfm (f := 176) (pm := (.str "law_sealpress_k81_scopes" 373)) (cd := 175) X G (fun _ _ _ _ _ _ us hl => by obtain ⟨_, rfl⟩ := len1 hl; rfl) (by kernel_rfl!) (by kernel_rfl!) (by kernel_rfl!) (by kernel_rfl!)
  have D__law_value : Df (KH w.params) mg "_law_value" s__law_value ps__law_value := dfm (f := 181) (pm := (.str "law_sealpress_k81_scopes" 373)) (cd := 180) X G (fun _ _ _ _ _ _ us hl => by obtain ⟨_, rfl⟩ := len1 hl; rfl) (by kernel_rfl!) (by kernel_rfl!) (by kernel_rfl!) (by kernel_rfl!)
  have D__law_scopes : Df (KH w.params) mg "_law_scopes" s__law_scopes ps__law_scopes := dfm (f := 188) (pm := (.str "law_sealpress_k81_scopes" 373)) (cd := 187) X G (fun _ _ _ _ _ _ us hl => by obtain ⟨_, _, rfl⟩ := len2 hl; rfl) (by kernel_rfl!) (by kernel_rfl!) (by kernel_rfl!) (by kernel_rfl!)
  have D__law_foreign : Df (KH w.params) mg "_law_foreign" s__law_foreign ps__law_foreign := dfm (f := 193) (pm := (.str "law_sealpress_k81_scopes" 373)) (cd := 192) X G (fun _ _ _ _ _ _ us hl => by obtain ⟨_, rfl⟩ := len1 hl; rfl) (by kernel_rfl!) (by kernel_rfl!) (by kernel_rfl!) (by kernel_rfl!)
  have D__law_due : Df (KH w.params) mg "_law_due" s__law_due ps__law_due := dfm (f := 198) (pm := (.str "law_sealpress_k81_scopes" 373)) (cd := 197) X G (fun _ _ _ _ _ _ us hl => by obtain ⟨_, _, _, rfl⟩ := len3 hl; rfl) (by kernel_rfl!) (by kernel_rfl!) (by kernel_rfl!) (by kernel_rfl!)
  have D__law_found : Df (KH w.params) mg "_law_found" s__law_found ps__law_found := dfm (f := 205) (pm := (.str "law_sealpress_k81_scopes" 373)) (cd := 204) X G (fun _ _ _ _ _ _ us hl => by obtain ⟨_, _, _, rfl⟩ := len3 hl; rfl) (by kernel_rfl!) (by kernel_rfl!) (by kernel_rfl!) (by kernel_rfl!)
  have D__law_is_the_very : Df (KH w.params) mg "_law_is_the_very" s__law_is_the_very ps__law_is_the_very := dfm (f := 212) (pm := (.str "law_sealpress_k81_scopes" 373)) (cd := 211) X G (fun _ _ _ _ _ _ us hl => by obtain ⟨_, _, rfl⟩ := len2 hl; rfl) (by kernel_rfl!) (by kernel_rfl!) (by kernel_rfl!) (by kernel_rfl!)
  have D_law : Df (KH w.params) mg "law" s_law ps_law := dfm (f := 217) (pm := (.str "law_sealpress_k81_scopes" 373)) (cd := 216) X G (fun _ _ _ _ _ _ us hl => by obtain ⟨_, rfl⟩ := len1 hl; rfl) (by kernel_rfl!) (by kernel_rfl!) (by kernel_rfl!) (by kernel_rfl!)
  have e_SIGNS : Str.ofString " !\"#$&'()*+,-./0123456789:;<=>?@ABCDEFGHIJKLMNOPQRSTUVWXYZ[\\]^_`abcdefghijklmnopqrstuvwxyz{|}~" = (S sg) := by decide +kernel
  have T : Txt (KH w.params) mg (⟨24, 44, 63, 75, 94, 113⟩ : Ads) := ⟨PySem.W.mg_of (v := .ref 24) X G (by kernel_rfl!), PySem.W.mg_of (v := .ref 44) X G (by kernel_rfl!), PySem.W.mg_of (v := .ref 63) X G (by kernel_rfl!), PySem.W.mg_of (v := .ref 75) X G (by kernel_rfl!), PySem.W.mg_of (v := .ref 94) X G (by kernel_rfl!), PySem.W.mg_of (v := .ref 113) X G (by kernel_rfl!), xcl_of (by kernel_rfl!), by kernel_rfl!, xcl_of (by kernel_rfl!), by kernel_rfl!, by kernel_rfl!, by kernel_rfl!, by kernel_rfl!, by kernel_rfl!, by kernel_rfl!, by kernel_rfl!, by kernel_rfl!, xcl_of (by kernel_rfl!), by kernel_rfl!, by kernel_rfl!, by kernel_rfl!, by kernel_rfl!, by kernel_rfl!, by kernel_rfl!, by kernel_rfl!, by kernel_rfl!, xcl_of (by kernel_rfl!), by kernel_rfl!, by kernel_rfl!, by kernel_rfl!, by kernel_rfl!, by kernel_rfl!, by kernel_rfl!, by kernel_rfl!, by kernel_rfl!, ⟨.str (Str.ofString " !\"#$&'()*+,-./0123456789:;<=>?@ABCDEFGHIJKLMNOPQRSTUVWXYZ[\\]^_`abcdefghijklmnopqrstuvwxyz{|}~") 325, PySem.W.mg_of X G (by kernel_rfl!), ⟨_, by rw [e_SIGNS]⟩⟩, ⟨.int 60 338, PySem.W.mg_of X G (by kernel_rfl!), ⟨_, rfl⟩⟩, PySem.W.mg_none_of X G (by kernel_rfl!), PySem.W.mg_none_of X G (by kernel_rfl!), PySem.W.mg_none_of X G (by kernel_rfl!), PySem.W.mg_none_of X G (by kernel_rfl!), PySem.W.mg_none_of X G (by kernel_rfl!), PySem.W.mg_none_of X G (by kernel_rfl!), PySem.W.mg_none_of X G (by kernel_rfl!), PySem.W.mg_none_of X G (by kernel_rfl!), PySem.W.mg_none_of X G (by kernel_rfl!), PySem.W.mg_none_of X G (by kernel_rfl!), PySem.W.mg_none_of X G (by kernel_rfl!), PySem.W.mg_none_of X G (by kernel_rfl!)⟩
  have I_NoSign : Ini (KH w.params) 44 "NoSign.__init__" s_i_NoSign ["self", "at"] := inim (f := 41) (pm := (.str "sealpress.errors" 187)) (cd := 40) (fun _ _ _ _ _ _ us hl => by obtain ⟨_, _, rfl⟩ := len2 hl; rfl) (by kernel_rfl!) (by kernel_rfl!) (by kernel_rfl!) (by kernel_rfl!)
  have I_NoValue : Ini (KH w.params) 94 "NoValue.__init__" s_i_NoValue ["self", "name"] := inim (f := 91) (pm := (.str "sealpress.errors" 187)) (cd := 90) (fun _ _ _ _ _ _ us hl => by obtain ⟨_, _, rfl⟩ := len2 hl; rfl) (by kernel_rfl!) (by kernel_rfl!) (by kernel_rfl!) (by kernel_rfl!)
  have I_NoKind : Ini (KH w.params) 113 "NoKind.__init__" s_i_NoKind ["self", "name"] := inim (f := 110) (pm := (.str "sealpress.errors" 187)) (cd := 109) (fun _ _ _ _ _ _ us hl => by obtain ⟨_, _, rfl⟩ := len2 hl; rfl) (by kernel_rfl!) (by kernel_rfl!) (by kernel_rfl!) (by kernel_rfl!)
  refine law_of D_law hfa (fun _ _ _ _ _ _ s v => .of_eq rfl) fun base => ?_
  have R_NoSign := err_NoSign (P := l.prog) (w := w) (base := base) T I_NoSign
  have R_NoValue := err_NoValue (P := l.prog) (w := w) (base := base) T I_NoValue
  have R_NoKind := err_NoKind (P := l.prog) (w := w) (base := base) T I_NoKind
  have F__law_cell_at := ok_law_cell_at (P := l.prog) (w := w) (base := base) T D__law_cell_at 
  have F__law_mixed := ok_law_mixed (P := l.prog) (w := w) (base := base) T D__law_mixed 
  have F__law_rest := ok_law_rest (P := l.prog) (w := w) (base := base) T D__law_rest F__law_mixed
  have F_need_text := ok_need_text (P := l.prog) (w := w) (base := base) T D_need_text R_NoSign
  have F_value_of := ok_value_of (P := l.prog) (w := w) (base := base) T D_value_of R_NoValue
  have F_text_of := ok_text_of (P := l.prog) (w := w) (base := base) T D_text_of F_value_of F_need_text R_NoKind
  have F_truth_of := ok_truth_of (P := l.prog) (w := w) (base := base) T D_truth_of F_value_of R_NoKind
  have F_rows_of := ok_rows_of (P := l.prog) (w := w) (base := base) T D_rows_of F_value_of R_NoKind
  have F__law_foreign := ok_law_foreign (P := l.prog) (w := w) (base := base) T D__law_foreign 
  have F__law_names := ok_law_names (P := l.prog) (w := w) (base := base) T D__law_names F__law_mixed
  have F__law_value := ok_law_value (P := l.prog) (w := w) (base := base) T D__law_value F__law_mixed
  have F__law_scopes := ok_law_scopes (P := l.prog) (w := w) (base := base) T D__law_scopes F__law_cell_at F__law_rest F__law_value
  have F__law_due := ok_law_due (P := l.prog) (w := w) (base := base) T D__law_due F__law_foreign
  have F__law_found := ok_law_found (P := l.prog) (w := w) (base := base) T D__law_found F_value_of F_text_of F_truth_of F_rows_of
  have F__law_is_the_very := ok_law_is_the_very (P := l.prog) (w := w) (base := base) T D__law_is_the_very F_value_of
  have F_law := ok_law (P := l.prog) (w := w) (base := base) T D_law F__law_cell_at F__law_names F__law_scopes F__law_found F__law_due F__law_is_the_very
  exact F_law
theorem walk {l : PySem.W.OpenLaw} {q : Program} {loose : List Str} {XP : (Str → Option Value) → Heap → Prop} {YP : World → Heap → Prop} {d : DefRec} {K : Params → PySem.W.Frag} (hn : l.most = some 63) (hdf : d.params.defaults = [])
    (hY : ∀ (w : World) (h : Heap), YP w h → (K w.params).In h)
    (F : ∀ (w : World) (mg : Str → Option Value) (fa : Addr) (h : Heap), (K w.params).In h → h.Ns mainGlobals mg → mg d.name = some (.ref fa) →
      ∃ fd : FuncData, (∀ (s : Shared) (u : Value), BindsTo s fd ⟨[u], []⟩ [("_law_script", u)]) ∧ ∀ base : Heap, (K w.params).In base → base.Ns mainGlobals mg → FnOk l.prog w (K w.params) mg base CX0 6 fa fd ["_law_script"] (sp_law (K w.params))) :
    PySem.W.WalkO q loose XP YP l.row.toRowW d [] (fun f vs => PySem.call f vs) :=
  L2.walk_of (n := 63) (k := 6) (x := "_law_script") (CX := fun _ => CX0) (sp := fun w => sp_law (K w.params)) hn (by decide) hdf ⟨rfl, by decide, by decide, rfl⟩ hY F (fun _ _ a ns hl _ hS => ⟨a, ns, rfl, hS, hl, fun _ => rfl⟩) fun _ _ _ _ _ z => z
end My
open PySem PySem.W PyProof.Rows
set_option maxRecDepth 100000 in
set_option maxHeartbeats 0 in
theorem PySem.Challenge.cw_sealpress_k81_scopes_holds : PySem.Challenge.rw_sealpress_k81_scopes.Holds := by
  w_on; o_law
  refine PySem.W.holds_open (q := My.qvw) (loose := My.loose0) (Xt := My.Xt0) (XP := XL My.qvw []) (Yf := Hook.obs My.HK) (Ya := Hook.val My.HK) (YP := Hook.says My.HK) (N := 2131) My.left (Hook.of My.HK) (Hook.keeps My.HK) (fun s e => xl_of s (Bool.and_eq_true_iff.mp e).1) XL.keeps (by rfl) (by rfl) (by rfl) (fun s e => recFacts_of (Bool.and_eq_true_iff.mp e).2) (by rfl) (by first | assumption | decide +kernel) (by decide +kernel) ⟨rfl, rfl, rfl, rfl, rfl, by decide +kernel⟩ ?hw ?hc
  (case hw => w_witness2)
  exact My.walk (l := PySem.Challenge.rw_sealpress_k81_scopes) rfl rfl (fun w h Y => PySem.W.kIn_of Y) (fun w mg fa h KX G hmg => My.all_ok KX G hmg)
