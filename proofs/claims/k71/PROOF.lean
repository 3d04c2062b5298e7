import PyProof.Rows.All
import Wide.All
import OpenK.AllK
import Wide.FinOn
import Lean
import PyProof.EqAt
import PyProof.EqKinds
import PyProof.TupleCall
import PyProof.Draws
import PyProof.EnumMake
import PyProof.NeKinds
import PyProof.ZipIter
import PyProof.Rows.ZipGen
import PyProof.ReprRoads
import KE.KRevIter
import PyProof.StrLawsReplace
import PyProof.ToksMono
import PyProof.SliceList
import PySem.Challenge.RW_sealpress_k71_walked
set_option Elab.async false
set_option linter.all false
set_option maxRecDepth 100000
/-! THE HAND LAYER, for ints, bools, texts, own classes, LISTS and tuples (index, slices, in, append, pop ..), calls, loops. Paste it whole ahead of your own text; what your proof does not reach may be deleted. -/

set_option Elab.async false
set_option linter.all false
set_option maxRecDepth 100000
set_option maxHeartbeats 0
namespace L2
open PySem PySem.W
theorem left_run {p q : Program} {loose : List Str} {Xt : Shared → Bool} {α : Type} {Yf : Shared → α} {Ya : World → α} {N M m0 : Nat} {ann : Option Value} {H0 : Params → Heap} {g0 : Array GenState} {d0 : Drawn} {k0 : Nat}
    (hb : ∀ w : World, (fencedOpening treeTable p w N).map (fun s => (s.heap, s.gens, s.drawn, s.toks)) = some (H0 w.params, g0, d0, k0))
    (hz : ∀ w : World, ((H0 w.params).isNs mainGlobals && g0.size == 0, (H0 w.params).objs.size, (H0 w.params).nsMap mainGlobals "__annotations__") = (true, m0, ann))
    (hr : ∀ (w : World) (os : OsState), ∃ s : Shared, topRun treeTable p w m0 ann M ⟨H0 w.params, g0, d0, k0, os⟩ (topStub p) = some s ∧
      (staticsOk (importedModules p.main.body) (H0 w.params) s.heap && namesBound p s.heap && gensDone s && laidKept (H0 w.params) s.heap) = true ∧ openSeen q loose (importedModules p.main.body) Xt true s = openGood q loose ∧ Yf s = Ya w)
    (hn : M ≤ N) : LeftO p q loose Xt Yf Ya N := fun w => by
  obtain ⟨s0, e, e'⟩ := Option.map_eq_some_iff.mp (hb w)
  obtain ⟨h, gs, d, k, os⟩ := s0
  simp only [Prod.mk.injEq] at e'
  obtain ⟨rfl, rfl, rfl, rfl⟩ := e'
  obtain ⟨s, r, l1, l2, l3⟩ := hr w os
  have z := hz w
  simp only [Prod.mk.injEq] at z
  obtain ⟨z1, z2, z3⟩ := z
  obtain ⟨x, rfl⟩ := Nat.exists_eq_add_of_le hn
  have r' := topRun_mono x _ _ _ _ r
  have t : topFrom treeTable p w (M + x) ⟨H0 w.params, gs, d, k, os⟩ = some s := by
    unfold topFrom
    simp only [z1, z2, z3, r', Option.bind_some, l1]
  unfold openEnds
  rw [e, Option.bind_some, t, Option.map_some, l2, l3]
end L2
/-! the top of the program, run in one go -/
namespace My
open PySem PySem.W
abbrev pw : Program := PySem.Challenge.pw_sealpress_k71_walked
noncomputable def tp (i : Nat) : Stmt := pw.main.body.getD i (.Pass ⟨0, 0, 0, 0⟩)
noncomputable def tc (i j : Nat) : Stmt := match tp i with
  | .ClassDef _ _ _ body _ _ _ _ _ _ _ => body.getD j (.Pass ⟨0, 0, 0, 0⟩)
  | _ => .Pass ⟨0, 0, 0, 0⟩
noncomputable def fnO (s : Stmt) (nm q : Str) (g : Addr) (cl : List (Str × Addr)) (df kd dc pm : Value) (an : Option Addr) (cd ct : Value) (bl : Addr) : Data := match s with
  | .FunctionDef _ a b _ _ _ sc _ _ _ => .func ⟨nm, q, a, .stmts b, sc, g, cl, df, kd, dc, pm, an, cd, ct, bl⟩
  | _ => .plain
noncomputable def en (P : Params) (k : Str) (t : Nat) (v : Value) : DictEntry := ⟨PyData.keyHash P k, .str k t, v⟩
noncomputable def o11 (_ : Params) : Obj := { cls := .type "tuple", data := .seq #[] }
noncomputable def o12 (_ : Params) : Obj := { cls := .none, data := .fields #[] }
noncomputable def o13 (_ : Params) : Obj := { cls := .type "code", data := .fields #[.str "<module>" 182, .str "<module>" 183, .str "/claim/cut.py" 184, .int 1 0, .int 0 0, .int 0 0, .int 0 0, .int 0 0, .ref 11, .bool false, .int 181 0, .ref 12, .none, .none, .none, .none, .int 185 0, .int 1 0, .str "/claim/cut.py" 186] }
noncomputable def o14 (_ : Params) : Obj := { cls := .type "frame", slots := #[some (.ref 13), some (.ref 3), some (.ref 3), none, some (.str "__main__" 164), none, some (.ref 0)] }
noncomputable def x0 (P : Params) : Obj := ⟨(.type "dict"),none,(.dict #[(en P "__name__" 165 (.str "law_sealpress_k71_walked" 208)),(en P "__doc__" 166 .none),(en P "__package__" 167 .none),(en P "__loader__" 168 (.builtin "__main__.__loader__#opaque")),(en P "__spec__" 169 .none),(en P "__annotations__" 170 (.ref 6)),(en P "__builtins__" 171 (.ref 4)),(en P "__file__" 173 (.str "/claim/cut.py" 172)),(en P "__cached__" 174 .none),(en P "branches_of" 195 (.ref 21)),(en P "walked" 207 (.ref 28)),(en P "_law_cell" 218 (.ref 35)),(en P "_law_mix" 230 (.ref 42)),(en P "_law_part" 238 (.ref 49)),(en P "_law_fault" 250 (.ref 56)),(en P "_law_good" 265 (.ref 63)),(en P "_law_some" 281 (.ref 70)),(en P "_law_within" 295 (.ref 77)),(en P "_law_compound" 311 (.ref 84)),(en P "_law_made" 322 (.ref 91)),(en P "_law_go" 335 (.ref 98)),(en P "_law_is" 344 (.ref 105)),(en P "_law_right" 360 (.ref 112)),(en P "law" 374 (.ref 119))] 24),#[]⟩
noncomputable def x1 (_ : Params) : Obj := ⟨(.type "code"),none,(.fields #[(.str "branches_of" 189),(.str "branches_of" 190),(.str "/claim/cut.py" 191),(.int 2 0),(.int 1 0),(.int 0 0),(.int 0 0),(.int 3 0),(.ref 15),(.bool true),(.int 181 0),(.ref 16),.none,(.ref 17),(.ref 18),(.ref 19),(.int 193 0),(.int 2 0),(.str "/claim/cut.py" 194)]),#[]⟩
noncomputable def x2 (_ : Params) : Obj := ⟨(.type "function"),none,(fnO (tp 1) "branches_of" "branches_of" 3 [] .none .none .none (.str "sealpress.ways" 187) none (.ref 20) .none 0),#[]⟩
noncomputable def x3 (_ : Params) : Obj := ⟨(.type "code"),none,(.fields #[(.str "walked" 196),(.str "walked" 197),(.str "/claim/cut.py" 198),(.int 4 0),(.int 2 0),(.int 0 0),(.int 0 0),(.int 3 0),(.ref 22),(.bool true),(.int 181 0),(.ref 23),.none,(.ref 24),(.ref 25),(.ref 26),(.int 205 0),(.int 4 0),(.str "/claim/cut.py" 206)]),#[]⟩
noncomputable def x4 (_ : Params) : Obj := ⟨(.type "function"),none,(fnO (tp 2) "walked" "walked" 3 [] .none .none .none (.str "sealpress.ways" 187) none (.ref 27) .none 0),#[]⟩
noncomputable def x5 (_ : Params) : Obj := ⟨(.type "code"),none,(.fields #[(.str "_law_cell" 210),(.str "_law_cell" 211),(.str "/claim/cut.py" 212),(.int 22 0),(.int 2 0),(.int 0 0),(.int 0 0),(.int 3 0),(.ref 29),(.bool true),(.int 181 0),(.ref 30),.none,(.ref 31),(.ref 32),(.ref 33),(.int 216 0),(.int 22 0),(.str "/claim/cut.py" 217)]),#[]⟩
noncomputable def x6 (_ : Params) : Obj := ⟨(.type "function"),none,(fnO (tp 4) "_law_cell" "_law_cell" 3 [] .none .none .none (.str "law_sealpress_k71_walked" 208) none (.ref 34) .none 0),#[]⟩
noncomputable def x7 (_ : Params) : Obj := ⟨(.type "code"),none,(.fields #[(.str "_law_mix" 219),(.str "_law_mix" 220),(.str "/claim/cut.py" 221),(.int 29 0),(.int 3 0),(.int 0 0),(.int 0 0),(.int 3 0),(.ref 36),(.bool true),(.int 181 0),(.ref 37),.none,(.ref 38),(.ref 39),(.ref 40),(.int 228 0),(.int 29 0),(.str "/claim/cut.py" 229)]),#[]⟩
noncomputable def x8 (_ : Params) : Obj := ⟨(.type "function"),none,(fnO (tp 5) "_law_mix" "_law_mix" 3 [] .none .none .none (.str "law_sealpress_k71_walked" 208) none (.ref 41) .none 0),#[]⟩
noncomputable def x9 (_ : Params) : Obj := ⟨(.type "code"),none,(.fields #[(.str "_law_part" 231),(.str "_law_part" 232),(.str "/claim/cut.py" 233),(.int 36 0),(.int 2 0),(.int 0 0),(.int 0 0),(.int 3 0),(.ref 43),(.bool true),(.int 181 0),(.ref 44),.none,(.ref 45),(.ref 46),(.ref 47),(.int 236 0),(.int 36 0),(.str "/claim/cut.py" 237)]),#[]⟩
noncomputable def x10 (_ : Params) : Obj := ⟨(.type "function"),none,(fnO (tp 6) "_law_part" "_law_part" 3 [] .none .none .none (.str "law_sealpress_k71_walked" 208) none (.ref 48) .none 0),#[]⟩
noncomputable def x11 (_ : Params) : Obj := ⟨(.type "code"),none,(.fields #[(.str "_law_fault" 239),(.str "_law_fault" 240),(.str "/claim/cut.py" 241),(.int 38 0),(.int 3 0),(.int 0 0),(.int 0 0),(.int 3 0),(.ref 50),(.bool true),(.int 181 0),(.ref 51),.none,(.ref 52),(.ref 53),(.ref 54),(.int 248 0),(.int 38 0),(.str "/claim/cut.py" 249)]),#[]⟩
noncomputable def x12 (_ : Params) : Obj := ⟨(.type "function"),none,(fnO (tp 7) "_law_fault" "_law_fault" 3 [] .none .none .none (.str "law_sealpress_k71_walked" 208) none (.ref 55) .none 0),#[]⟩
noncomputable def x13 (_ : Params) : Obj := ⟨(.type "code"),none,(.fields #[(.str "_law_good" 251),(.str "_law_good" 252),(.str "/claim/cut.py" 253),(.int 51 0),(.int 4 0),(.int 0 0),(.int 0 0),(.int 3 0),(.ref 57),(.bool true),(.int 181 0),(.ref 58),.none,(.ref 59),(.ref 60),(.ref 61),(.int 263 0),(.int 51 0),(.str "/claim/cut.py" 264)]),#[]⟩
noncomputable def x14 (_ : Params) : Obj := ⟨(.type "function"),none,(fnO (tp 8) "_law_good" "_law_good" 3 [] .none .none .none (.str "law_sealpress_k71_walked" 208) none (.ref 62) .none 0),#[]⟩
noncomputable def x15 (_ : Params) : Obj := ⟨(.type "code"),none,(.fields #[(.str "_law_some" 266),(.str "_law_some" 267),(.str "/claim/cut.py" 268),(.int 63 0),(.int 4 0),(.int 0 0),(.int 0 0),(.int 3 0),(.ref 64),(.bool true),(.int 181 0),(.ref 65),.none,(.ref 66),(.ref 67),(.ref 68),(.int 279 0),(.int 63 0),(.str "/claim/cut.py" 280)]),#[]⟩
noncomputable def x16 (_ : Params) : Obj := ⟨(.type "function"),none,(fnO (tp 9) "_law_some" "_law_some" 3 [] .none .none .none (.str "law_sealpress_k71_walked" 208) none (.ref 69) .none 0),#[]⟩
noncomputable def x17 (_ : Params) : Obj := ⟨(.type "code"),none,(.fields #[(.str "_law_within" 282),(.str "_law_within" 283),(.str "/claim/cut.py" 284),(.int 80 0),(.int 6 0),(.int 0 0),(.int 0 0),(.int 3 0),(.ref 71),(.bool true),(.int 181 0),(.ref 72),.none,(.ref 73),(.ref 74),(.ref 75),(.int 293 0),(.int 80 0),(.str "/claim/cut.py" 294)]),#[]⟩
noncomputable def x18 (_ : Params) : Obj := ⟨(.type "function"),none,(fnO (tp 10) "_law_within" "_law_within" 3 [] .none .none .none (.str "law_sealpress_k71_walked" 208) none (.ref 76) .none 0),#[]⟩
noncomputable def x19 (_ : Params) : Obj := ⟨(.type "code"),none,(.fields #[(.str "_law_compound" 296),(.str "_law_compound" 297),(.str "/claim/cut.py" 298),(.int 83 0),(.int 4 0),(.int 0 0),(.int 0 0),(.int 3 0),(.ref 78),(.bool true),(.int 181 0),(.ref 79),.none,(.ref 80),(.ref 81),(.ref 82),(.int 309 0),(.int 83 0),(.str "/claim/cut.py" 310)]),#[]⟩
noncomputable def x20 (_ : Params) : Obj := ⟨(.type "function"),none,(fnO (tp 11) "_law_compound" "_law_compound" 3 [] .none .none .none (.str "law_sealpress_k71_walked" 208) none (.ref 83) .none 0),#[]⟩
noncomputable def x21 (_ : Params) : Obj := ⟨(.type "code"),none,(.fields #[(.str "_law_made" 312),(.str "_law_made" 313),(.str "/claim/cut.py" 314),(.int 94 0),(.int 2 0),(.int 0 0),(.int 0 0),(.int 3 0),(.ref 85),(.bool true),(.int 181 0),(.ref 86),.none,(.ref 87),(.ref 88),(.ref 89),(.int 320 0),(.int 94 0),(.str "/claim/cut.py" 321)]),#[]⟩
noncomputable def x22 (_ : Params) : Obj := ⟨(.type "function"),none,(fnO (tp 12) "_law_made" "_law_made" 3 [] .none .none .none (.str "law_sealpress_k71_walked" 208) none (.ref 90) .none 0),#[]⟩
noncomputable def x23 (_ : Params) : Obj := ⟨(.type "code"),none,(.fields #[(.str "_law_go" 323),(.str "_law_go" 324),(.str "/claim/cut.py" 325),(.int 101 0),(.int 3 0),(.int 0 0),(.int 0 0),(.int 3 0),(.ref 92),(.bool true),(.int 181 0),(.ref 93),.none,(.ref 94),(.ref 95),(.ref 96),(.int 333 0),(.int 101 0),(.str "/claim/cut.py" 334)]),#[]⟩
noncomputable def x24 (_ : Params) : Obj := ⟨(.type "function"),none,(fnO (tp 13) "_law_go" "_law_go" 3 [] .none .none .none (.str "law_sealpress_k71_walked" 208) none (.ref 97) .none 0),#[]⟩
noncomputable def x25 (_ : Params) : Obj := ⟨(.type "code"),none,(.fields #[(.str "_law_is" 336),(.str "_law_is" 337),(.str "/claim/cut.py" 338),(.int 119 0),(.int 2 0),(.int 0 0),(.int 0 0),(.int 3 0),(.ref 99),(.bool true),(.int 181 0),(.ref 100),.none,(.ref 101),(.ref 102),(.ref 103),(.int 342 0),(.int 119 0),(.str "/claim/cut.py" 343)]),#[]⟩
noncomputable def x26 (_ : Params) : Obj := ⟨(.type "function"),none,(fnO (tp 14) "_law_is" "_law_is" 3 [] .none .none .none (.str "law_sealpress_k71_walked" 208) none (.ref 104) .none 0),#[]⟩
noncomputable def x27 (_ : Params) : Obj := ⟨(.type "code"),none,(.fields #[(.str "_law_right" 345),(.str "_law_right" 346),(.str "/claim/cut.py" 347),(.int 126 0),(.int 2 0),(.int 0 0),(.int 0 0),(.int 3 0),(.ref 106),(.bool true),(.int 181 0),(.ref 107),.none,(.ref 108),(.ref 109),(.ref 110),(.int 358 0),(.int 126 0),(.str "/claim/cut.py" 359)]),#[]⟩
noncomputable def x28 (_ : Params) : Obj := ⟨(.type "function"),none,(fnO (tp 15) "_law_right" "_law_right" 3 [] .none .none .none (.str "law_sealpress_k71_walked" 208) none (.ref 111) .none 0),#[]⟩
noncomputable def x29 (_ : Params) : Obj := ⟨(.type "code"),none,(.fields #[(.str "law" 361),(.str "law" 362),(.str "/claim/cut.py" 363),(.int 144 0),(.int 1 0),(.int 0 0),(.int 0 0),(.int 3 0),(.ref 113),(.bool true),(.int 181 0),(.ref 114),.none,(.ref 115),(.ref 116),(.ref 117),(.int 372 0),(.int 144 0),(.str "/claim/cut.py" 373)]),#[]⟩
noncomputable def x30 (_ : Params) : Obj := ⟨(.type "function"),none,(fnO (tp 16) "law" "law" 3 [] .none .none .none (.str "law_sealpress_k71_walked" 208) none (.ref 118) .none 0),#[]⟩
noncomputable def kh0 (P : Params) : PySem.W.Frag := [(3, x0 P), (20, x1 P), (21, x2 P), (27, x3 P), (28, x4 P), (34, x5 P), (35, x6 P), (41, x7 P), (42, x8 P), (48, x9 P), (49, x10 P), (55, x11 P)]
noncomputable def kh1 (P : Params) : PySem.W.Frag := [(56, x12 P), (62, x13 P), (63, x14 P), (69, x15 P), (70, x16 P), (76, x17 P), (77, x18 P), (83, x19 P), (84, x20 P), (90, x21 P), (91, x22 P), (97, x23 P)]
noncomputable def kh2 (P : Params) : PySem.W.Frag := [(98, x24 P), (104, x25 P), (105, x26 P), (111, x27 P), (112, x28 P), (118, x29 P), (119, x30 P)]
noncomputable def KH (P : Params) : PySem.W.Frag := kh0 P ++ (kh1 P ++ (kh2 P))
noncomputable def asL : List Addr := [3, 20, 21, 27, 28, 34, 35, 41, 42, 48, 49, 55, 56, 62, 63, 69, 70, 76, 77, 83, 84, 90, 91, 97, 98, 104, 105, 111, 112, 118, 119]
theorem as_eq (P : Params) : asL = (KH P).map (fun p => p.1) := by kernel_rfl
@[reducible] noncomputable def HK : Hook := kHook KH asL as_eq
noncomputable def obs0 (s : Shared) : List (Option Obj) := asL.map s.heap.get?
noncomputable def val0 (w : World) : List (Option Obj) := (KH w.params).map fun p => some p.2
noncomputable def tb0 (P : Params) : BT := .node (boot_o_0 P) (.node (boot_o_1 P) (.node (boot_o_3 P) (.node (boot_o_7 P) .nil .nil) (.node (o11 P) .nil .nil)) (.node (boot_o_5 P) (.node (boot_o_9 P) .nil .nil) (.node (o13 P) .nil .nil)))
  (.node (boot_o_2 P) (.node (boot_o_4 P) (.node (boot_o_8 P) .nil .nil) (.node (o12 P) .nil .nil)) (.node (boot_o_6 P) (.node (boot_o_10 P) .nil .nil) (.node (o14 P) .nil .nil)))
noncomputable def sB (w : World) (os : OsState) : SharedT := ⟨tb0 w.params, 15, {}, #[], {}, 187, os⟩
noncomputable def env0 : Env := { scope := pw.main.scope, locals := mainNs, globals := mainNs, cells := [], code := .ref 13, frame := some 14 }
noncomputable def body0 : List Stmt := behindTheImports pw
noncomputable def cE : Code := .body body0 env0
noncomputable def pos0 : Pos := ⟨0, 0, 0, 0⟩
noncomputable def B0 : List Frame := [topFrame pos0]
noncomputable def ann0 : Option Value := some (.ref 6)
noncomputable def qvw : Program := view pw [1, 2, 4, 5, 6, 7, 8, 9, 10, 11, 12, 13, 14, 15, 16]
noncomputable def loose0 : List Str := []
noncomputable def mods : List Str := importedModules pw.main.body
noncomputable def Xt0 (s : Shared) : Bool := xlAt qvw [] s && recOk (RowW.records (OpenRow.toRowW (OpenLaw.row PySem.Challenge.rw_sealpress_k71_walked))) s
noncomputable def lookF (w : World) (r : Flow × SharedT × Code × Pos) := (r.1, r.2.2.1, (staticsOk mods (boot_heap w.params) r.2.1.abs.heap && namesBound pw r.2.1.abs.heap && gensDone r.2.1.abs && laidKept (boot_heap w.params) r.2.1.abs.heap), obs0 r.2.1.abs)
noncomputable def lookG (r : Flow × SharedT × Code × Pos) := openSeen qvw loose0 mods Xt0 true r.2.1.abs
noncomputable def ck0 : List Stmt := body0
noncomputable def lhs (w : World) (os : OsState) := (segRunT treeTable pw w 11 ann0 1 632 (sB w os) (piecesOf ck0 env0 cE pos0 B0)).map (lookF w)
noncomputable def rhs (w : World) (_ : OsState) := some (Flow.next, cE, true, val0 w)
noncomputable def lhsG (w : World) (os : OsState) := (segRunT treeTable pw w 11 ann0 1 632 (sB w os) (piecesOf ck0 env0 cE pos0 B0)).map lookG
noncomputable def rhsG (_ : World) (_ : OsState) := some (openGood qvw loose0)
theorem lhs_r : @lhs = @lhs := rfl
theorem rhs_r : @rhs = @rhs := rfl
name_quick lhsQ for My.lhs by My.lhs_r
name_quick rhsQ for My.rhs by My.rhs_r
theorem kr (w : World) : PySem.W.Fast.lhsQ w = PySem.W.Fast.rhsQ w := by kernel_rfl
theorem run_all (w : World) : lhs w = rhs w := (congrFun PySem.W.Fast.lhsQ_eq w).trans ((kr w).trans (congrFun PySem.W.Fast.rhsQ_eq w).symm)
theorem lhsG_r : @lhsG = @lhsG := rfl
theorem rhsG_r : @rhsG = @rhsG := rfl
name_quick lhsGQ for My.lhsG by My.lhsG_r
name_quick rhsGQ for My.rhsG by My.rhsG_r
theorem krG (w : World) : PySem.W.Fast.lhsGQ w = PySem.W.Fast.rhsGQ w := by kernel_rfl
theorem run_allG (w : World) : lhsG w = rhsG w := (congrFun PySem.W.Fast.lhsGQ_eq w).trans ((krG w).trans (congrFun PySem.W.Fast.rhsGQ_eq w).symm)
noncomputable def lhs1 (w : World) (os : OsState) := topGo treeTable pw w 11 ann0 12 ⟨boot_heap w.params, #[], boot_drawn, boot_toks, os⟩ (topStub pw)
noncomputable def rhs1 (w : World) (os : OsState) : Option (Shared × Thread) := some ((sB w os).abs, ⟨denote treeTable cE, cE, pos0, B0⟩)
theorem lhs1_r : @lhs1 = @lhs1 := rfl
theorem rhs1_r : @rhs1 = @rhs1 := rfl
name_quick lhs1Q for My.lhs1 by My.lhs1_r
name_quick rhs1Q for My.rhs1 by My.rhs1_r
theorem kr1 (w : World) : PySem.W.Fast.lhs1Q w = PySem.W.Fast.rhs1Q w := by kernel_rfl
theorem run_1 (w : World) : lhs1 w = rhs1 w := (congrFun PySem.W.Fast.lhs1Q_eq w).trans ((kr1 w).trans (congrFun PySem.W.Fast.rhs1Q_eq w).symm)
noncomputable def lhs2 (w : World) (os : OsState) := segRun treeTable pw w 11 ann0 1 1 (sB w os).abs (blockOf body0 env0 cE pos0 B0)
noncomputable def rhs2 (w : World) (os : OsState) : Option (Flow × Shared × Code × Pos) := some (.next, (sB w os).abs, cE, pos0)
theorem lhs2_r : @lhs2 = @lhs2 := rfl
theorem rhs2_r : @rhs2 = @rhs2 := rfl
name_quick lhs2Q for My.lhs2 by My.lhs2_r
name_quick rhs2Q for My.rhs2 by My.rhs2_r
theorem kr2 (w : World) : PySem.W.Fast.lhs2Q w = PySem.W.Fast.rhs2Q w := by kernel_rfl
theorem run_2 (w : World) : lhs2 w = rhs2 w := (congrFun PySem.W.Fast.lhs2Q_eq w).trans ((kr2 w).trans (congrFun PySem.W.Fast.rhs2Q_eq w).symm)
noncomputable def lhs3 (w : World) : Bool × Nat × Option Value := ((boot_heap w.params).isNs mainGlobals && (#[] : Array GenState).size == 0, (boot_heap w.params).objs.size, (boot_heap w.params).nsMap mainGlobals "__annotations__")
theorem lhs3_r : @lhs3 = @lhs3 := rfl
name_quick lhs3Q for My.lhs3 by My.lhs3_r
theorem kr3 (w : World) : PySem.W.Fast.lhs3Q w = (true, 11, ann0) := by kernel_rfl
theorem run_3 (w : World) : lhs3 w = (true, 11, ann0) := (congrFun PySem.W.Fast.lhs3Q_eq w).trans (kr3 w)
theorem fin0 (w : World) (s : Shared) (q : Pos) : topRun treeTable pw w 11 ann0 2 s (restOf [] env0 cE q B0) = some s := rfl
theorem top_all (w : World) (os : OsState) : ∃ s : Shared, topRun treeTable pw w 11 ann0 (12 + (1 + (632 + 2))) ⟨boot_heap w.params, #[], boot_drawn, boot_toks, os⟩ (topStub pw) = some s ∧
    (staticsOk mods (boot_heap w.params) s.heap && namesBound pw s.heap && gensDone s && laidKept (boot_heap w.params) s.heap) = true ∧ openSeen qvw loose0 mods Xt0 true s = openGood qvw loose0 ∧ obs0 s = val0 w := by
  obtain ⟨⟨f, s, c, q⟩, hr, hF⟩ := Option.map_eq_some_iff.mp (congrFun (run_all w) os)
  unfold lookF at hF
  simp only [Prod.mk.injEq] at hF
  obtain ⟨rfl, rfl, h1, h3⟩ := hF
  have h2 : openSeen qvw loose0 mods Xt0 true s.abs = openGood qvw loose0 := by
    have hG := congrFun (run_allG w) os
    unfold lhsG rhsG at hG
    rw [hr, Option.map_some] at hG
    exact Option.some.inj hG
  refine ⟨s.abs, ?_, h1, h2, h3⟩
  refine go_top (congrFun (run_1 w) os) (piece_block (congrFun (run_2 w) os) ?_)
  have k := piece_app (segRun_of hr) (fin0 w s.abs q)
  rw [List.append_nil] at k
  exact k
theorem boot0 (w : World) : (fencedOpening treeTable pw w 747).map (fun s => (s.heap, s.gens, s.drawn, s.toks)) = some (boot_heap w.params, Array.mk [], boot_drawn, boot_toks) := boot_open (p := pw) (N := 747) (by kernel_rfl) (by kernel_rfl) (fun _ => rfl) w
theorem left : LeftO pw qvw loose0 Xt0 HK.obs HK.val 747 := L2.left_run (M := 12 + (1 + (632 + 2))) (m0 := 11) (ann := ann0) boot0 run_3 top_all (by decide)
end My
set_option maxHeartbeats 1000000

namespace L2
open PySem PySem.Spec PyProof.Rows


noncomputable abbrev Key := Sum Int Str
noncomputable def keyIs : Key → Value → Bool
  | .inl k, v => Value.isInt k v
  | .inr x, v => Value.isStrOf x v
noncomputable def keyH (w : World) : Key → Int
  | .inl k => hashInt k
  | .inr x => hashStr w x
theorem keyIs_shape : ∀ {k : Key} {v : Value}, keyIs k v = true → (∃ i t, k = Sum.inl i ∧ v = Value.int i t) ∨ (∃ x t, k = Sum.inr x ∧ v = Value.str x t)
  | .inl i, v, h => by
    obtain ⟨t, e⟩ := Value.isInt_shape (k := i) (v := v) h
    exact .inl ⟨i, t, rfl, e⟩
  | .inr x, v, h => by
    obtain ⟨t, e⟩ := Value.isStrOf_shape (x := x) (v := v) h
    exact .inr ⟨x, t, rfl, e⟩
theorem keyIs_int (i : Int) (t : Tok) : keyIs (.inl i) (.int i t) = true := by simp [keyIs, Value.isInt]
theorem keyIs_str (x : Str) (t : Tok) : keyIs (.inr x) (.str x t) = true := by simp [keyIs, Value.isStrOf]
theorem key_ll (a b : Int) : decide ((Sum.inl a : Key) = Sum.inl b) = (a == b) := by
  by_cases e : a = b
  · subst e; simp
  · have h : ¬ (Sum.inl a : Key) = Sum.inl b := fun q => e (Sum.inl.inj q)
    rw [decide_eq_false h]
    exact (beq_eq_false_iff_ne.mpr e).symm
theorem key_rr (a b : Str) : decide ((Sum.inr a : Key) = Sum.inr b) = decide (a = b) := by
  by_cases e : a = b
  · subst e; simp
  · have h : ¬ (Sum.inr a : Key) = Sum.inr b := fun q => e (Sum.inr.inj q)
    rw [decide_eq_false h, decide_eq_false e]
theorem key_lr (a : Int) (b : Str) : decide ((Sum.inl a : Key) = Sum.inr b) = false := decide_eq_false (fun q => nomatch q)
theorem key_rl (a : Str) (b : Int) : decide ((Sum.inr a : Key) = Sum.inl b) = false := decide_eq_false (fun q => nomatch q)

noncomputable def mixKind (prog : Program) (w : World) : PySem.KeyKind prog w Key where
  is := keyIs
  hash := keyH w
  inj := fun v a b ha hb => by
    rcases keyIs_shape ha with ⟨i, t, rfl, rfl⟩ | ⟨x, t, rfl, rfl⟩
    · rcases keyIs_shape hb with ⟨j, u, rfl, e⟩ | ⟨y, u, rfl, e⟩
      · injection e with e1 _; rw [e1]
      · exact nomatch e
    · rcases keyIs_shape hb with ⟨j, u, rfl, e⟩ | ⟨y, u, rfl, e⟩
      · exact nomatch e
      · injection e with e1 _; rw [e1]
  byValue := fun k v h => by
    rcases keyIs_shape h with ⟨i, t, rfl, rfl⟩ | ⟨x, t, rfl, rfl⟩ <;> rfl
  pyHash := fun hv h => by
    rcases keyIs_shape hv with ⟨i, t, rfl, rfl⟩ | ⟨x, t, rfl, rfl⟩
    · exact wpAny_pyHash_int h
    · exact wpAny_pyHash_str h
  eqBool := fun hu hv h => by
    rcases keyIs_shape hu with ⟨i, t, rfl, rfl⟩ | ⟨x, t, rfl, rfl⟩
    · rcases keyIs_shape hv with ⟨j, u, rfl, rfl⟩ | ⟨y, u, rfl, rfl⟩
      · rw [key_ll] at h; exact wpAny_eqBool_int h
      · rw [key_lr] at h; exact SeqAt.EqAt.int_str i t y u _ _ _ _ h
    · rcases keyIs_shape hv with ⟨j, u, rfl, rfl⟩ | ⟨y, u, rfl, rfl⟩
      · rw [key_rl] at h; exact SeqAt.EqAt.str_int x t j u _ _ _ _ h
      · rw [key_rr] at h; exact wpAny_eqBool_str h
  «strs» := fun k x t v h => by
    rcases keyIs_shape h with ⟨i, u, rfl, e⟩ | ⟨y, u, rfl, e⟩
    · exact nomatch e
    · injection e with e1 _
      subst e1
      cases v <;> rfl

theorem mixKind_int (prog : Program) (w : World) (i : Int) (t : Tok) : (mixKind prog w).is (.inl i) (.int i t) = true := keyIs_int i t
theorem mixKind_str (prog : Program) (w : World) (x : Str) (t : Tok) : (mixKind prog w).is (.inr x) (.str x t) = true := keyIs_str x t
end L2

namespace L2
open PySem PySem.Spec PyProof.Rows


inductive V where
  | non | bl (b : Bool) | int (i : Int) | str (x : Str) | byt (b : Array UInt8) | flt (b : UInt64) | ref (a : Addr) | ty (n : String)
  deriving DecidableEq

noncomputable def RelV : V → Value → Prop
  | .non, u => u = Value.none
  | .bl b, u => u = Value.bool b
  | .int i, u => ∃ t, u = Value.int i t
  | .str x, u => ∃ t, u = Value.str x t
  | .byt b, u => ∃ t, u = Value.bytes b t
  | .flt b, u => ∃ t, u = Value.float b t
  | .ref a, u => u = Value.ref a
  | .ty n, u => u = Value.type n

noncomputable abbrev Vals : List V → List Value → Prop := Paired RelV
theorem Vals.length {xs : List V} {us : List Value} (r : Vals xs us) : xs.length = us.length := Paired.length r
theorem Vals.get : ∀ {xs : List V} {us : List Value} {i : Nat} {x : V}, Vals xs us → xs[i]? = some x → ∃ u, us[i]? = some u ∧ RelV x u
  | _, _, _, _, .nil, e => by simp at e
  | _, _, 0, _, .cons r _, e => by simp at e; subst e; exact ⟨_, rfl, r⟩
  | _, _, i + 1, x, .cons _ t, e => by
    obtain ⟨u, h1, h2⟩ := Vals.get (i := i) (x := x) t (by simpa using e)
    exact ⟨u, by simpa using h1, h2⟩
theorem Vals.set {x : V} {u : Value} (r : RelV x u) : ∀ {xs : List V} {us : List Value} (i : Nat), Vals xs us → Vals (xs.set i x) (us.set i u)
  | _, _, _, .nil => .nil
  | _, _, 0, .cons _ t => .cons r t
  | _, _, i + 1, .cons q t => .cons q (Vals.set r i t)
theorem Vals.append : ∀ {xs ys : List V} {us ws : List Value}, Vals xs us → Vals ys ws → Vals (xs ++ ys) (us ++ ws)
  | _, _, _, _, .nil, s => s
  | _, _, _, _, .cons r t, s => .cons r (Vals.append t s)
theorem Vals.take : ∀ {xs : List V} {us : List Value} (n : Nat), Vals xs us → Vals (xs.take n) (us.take n)
  | _, _, 0, _ => .nil
  | _, _, _ + 1, .nil => .nil
  | _, _, n + 1, .cons r t => .cons r (Vals.take n t)
theorem Vals.drop : ∀ {xs : List V} {us : List Value} (n : Nat), Vals xs us → Vals (xs.drop n) (us.drop n)
  | _, _, 0, r => r
  | _, _, _ + 1, .nil => .nil
  | _, _, n + 1, .cons _ t => Vals.drop n t
noncomputable def RelO : Option V → Option Value → Prop
  | some v, some u => RelV v u
  | none, none => True
  | _, _ => False
noncomputable def KV {κ : Type} : List (κ × V) → List (κ × Value) → Prop := Paired fun (p : κ × V) (q : κ × Value) => p.1 = q.1 ∧ RelV p.2 q.2


noncomputable def kV : Key → V
  | .inl i => .int i
  | .inr x => .str x


inductive HO where
  
  | lst (xs : List V)
  
  | tup (xs : List V)
  
  | dK (kvs : List (Key × V)) | dT (kvs : List (List Key × V))
  
  | set (S : Int → Bool) (n : Nat)
  
  | ins (C dx : Addr) (fs : List (Str × V))
  
  | own (x : Addr)
  
  | xd (fs : List (Str × V))
  
  | met (f x : Addr)
  
  | rng (lo hi : Int)
  
  | frz (o : Obj) (u : HO)
  
  | tbl (ps : Array Value)
  
  | ext (φ : Heap → Prop)

noncomputable abbrev Hp := Addr → Option HO
noncomputable def upd (H : Hp) (a : Addr) (o : HO) : Hp := fun b => if b = a then some o else H b
theorem upd_same {H : Hp} {a : Addr} {o : HO} : upd H a o a = some o := by unfold upd; rw [if_pos rfl]
theorem upd_ne {H : Hp} {a b : Addr} {o : HO} (h : b ≠ a) : upd H a o b = H b := by unfold upd; rw [if_neg h]
theorem ne_of_none {H : Hp} {a b : Addr} {o : HO} (h : H a = some o) (h' : H b = none) : a ≠ b := by
  intro e; subst e; rw [h] at h'; cases h'

section
variable (P : Program) (w : World)
noncomputable def ObjOk (H : Hp) (h : Heap) (a : Addr) : HO → Prop
  | .lst xs => xs.length ≤ sizeLine ∧ ∃ (its : List Value) (n : Nat), Vals xs its ∧ h.get? a = some { cls := .type "list", data := .seq its.toArray n }
  | .tup xs => xs.length ≤ sizeLine ∧ ∃ its : List Value, Vals xs its ∧ IsTup h a its.toArray
  | .dK kvs => kvs.length ≤ sizeLine ∧ (a == sysModules) = false ∧ ∃ vs, KV kvs vs ∧ h.DictOf (mixKind P w) a vs
  | .dT kvs => kvs.length ≤ sizeLine ∧ (a == sysModules) = false ∧ ∃ xs : List (List Key × Addr × Value),
      Paired (fun (p : List Key × V) (q : List Key × Addr × Value) => p.1 = q.1 ∧ H q.2.1 = some (.tup (p.1.map kV)) ∧ RelV p.2 q.2.2) kvs xs ∧
      ∃ o es ep, h.get? a = some o ∧ o.ExactDict ∧ o.data = .dict es ep ∧ es.toList = xs.map (entryOfKey (tupleKind (mixKind P w))) ∧ (xs.map (·.1)).Nodup
  | .set S n => h.SetOf (intKind P w) a S n
  | .ins C dx fs => H dx = some (.own a) ∧ fs.length ≤ 1000 ∧ dx ≠ a ∧ h.get? a = some (PySem.W.instObj C dx) ∧
      ∃ mA, h.Ns1 dx mA ∧ (∀ f, RelO (fs.lookup f) (mA f)) ∧ PySem.Within mA (fs.map (·.1))
  | .own _ => ∃ o, h.get? a = some o
  | .xd fs => ∃ mA, h.Ns1 a mA ∧ ∀ f, RelO (fs.lookup f) (mA f)
  | .rng lo hi => ∃ t u v, h.get? a = some { cls := .type "range", data := .fields #[.int lo t, .int hi u, .int 1 v] }
  | .frz o u => h.get? a = some o ∧ ObjOk H h a u
  | .tbl ps => h.get? a = some { cls := .none, data := .fields ps }
  | .met f x => h.get? a = some (PySem.W.methodObj (.ref f) (.ref x))
  | .ext φ => φ h ∧ (∃ o, h.get? a = some o) ∧ ∀ h1 h2 : Heap, φ h1 → (∀ o, h1.get? a = some o → h2.get? a = some o) → φ h2

noncomputable def HOk (H : Hp) (h : Heap) : Prop := ∀ a o, H a = some o → ObjOk P w H h a o
end

section
variable {P : Program} {w : World} {H H' : Hp} {h h' : Heap} {a : Addr} {o : HO}
theorem ObjOk.lt (x : ObjOk P w H h a o) : a < h.objs.size := by
  cases o with
  | lst xs => obtain ⟨_, _, _, _, e⟩ := x; exact Heap.lt_size e
  | tup xs => obtain ⟨_, _, _, p⟩ := x; exact p.lt
  | dK kvs => obtain ⟨_, _, _, _, o, _, _, e, _⟩ := x; exact Heap.lt_size e
  | dT kvs => obtain ⟨_, _, _, _, o, _, _, e, _⟩ := x; exact Heap.lt_size e
  | set S n => obtain ⟨o, _, _, _, e, _⟩ := x; exact Heap.lt_size e
  | ins C dx fs => obtain ⟨_, _, _, e, _⟩ := x; exact Heap.lt_size e
  | own y => obtain ⟨_, e⟩ := x; exact Heap.lt_size e
  | xd fs => obtain ⟨_, ⟨_, _, _, e, _⟩, _⟩ := x; exact Heap.lt_size e
  | rng lo hi => obtain ⟨_, _, _, e⟩ := x; exact Heap.lt_size e
  | frz ob u => obtain ⟨e, _⟩ := x; exact Heap.lt_size e
  | tbl ps => exact Heap.lt_size (show h.get? a = some _ from x)
  | met f y => exact Heap.lt_size (show h.get? a = some _ from x)
  | ext φ => obtain ⟨_, ⟨_, e⟩, _⟩ := x; exact Heap.lt_size e
theorem Paired.mapP {α β : Type} {F G : α → β → Prop} : ∀ {l₁ : List α} {l₂ : List β}, Paired F l₁ l₂ → (∀ a b, F a b → G a b) → Paired G l₁ l₂
  | _, _, .nil, _ => .nil
  | _, _, .cons r t, f => .cons (f _ _ r) (Paired.mapP t f)
theorem ObjOk.stay (x : ObjOk P w H h a o) (k : ∀ b u, (b = a ∨ H b = some (.own a)) → h.get? b = some u → h'.get? b = some u)
    (ho : ∀ b, H b = some (.own a) → H' b = some (.own a)) (ht : ∀ b xs, H b = some (.tup xs) → H' b = some (.tup xs)) : ObjOk P w H' h' a o := by
  induction o with
  | lst xs => obtain ⟨z, its, n, r, e⟩ := x; exact ⟨z, its, n, r, k _ _ (.inl rfl) e⟩
  | tup xs => obtain ⟨z, its, r, ob, e, c⟩ := x; exact ⟨z, its, r, ob, k _ _ (.inl rfl) e, c⟩
  | dK kvs => obtain ⟨z, y, vs, r, ob, es, ep, e, c⟩ := x; exact ⟨z, y, vs, r, ob, es, ep, k _ _ (.inl rfl) e, c⟩
  | dT kvs =>
    obtain ⟨z, y, xs, r, ob, es, ep, e, c⟩ := x
    exact ⟨z, y, xs, Paired.mapP r fun p q z => ⟨z.1, ht _ _ z.2.1, z.2.2⟩, ob, es, ep, k _ _ (.inl rfl) e, c⟩
  | set S n => obtain ⟨ob, es, ep, t, e, c⟩ := x; exact ⟨ob, es, ep, t, k _ _ (.inl rfl) e, c⟩
  | ins C dx fs =>
    obtain ⟨d, z, ne, e, mA, ⟨od, es, ep, e2, c⟩, r⟩ := x
    exact ⟨ho _ d, z, ne, k _ _ (.inl rfl) e, mA, ⟨od, es, ep, k _ _ (.inr d) e2, c⟩, r⟩
  | own y => obtain ⟨ob, e⟩ := x; exact ⟨ob, k _ _ (.inl rfl) e⟩
  | xd fs => obtain ⟨mA, ⟨od, es, ep, e, c⟩, r⟩ := x; exact ⟨mA, ⟨od, es, ep, k _ _ (.inl rfl) e, c⟩, r⟩
  | rng lo hi => obtain ⟨t, u, v, e⟩ := x; exact ⟨t, u, v, k _ _ (.inl rfl) e⟩
  | frz ob u ih => obtain ⟨e, q⟩ := x; exact ⟨k _ _ (.inl rfl) e, ih q⟩
  | tbl ps =>
    have e : h.get? a = some { cls := .none, data := .fields ps } := x
    show h'.get? a = some { cls := .none, data := .fields ps }
    exact k a _ (.inl rfl) e
  | met f y =>
    have e : h.get? a = some (PySem.W.methodObj (.ref f) (.ref y)) := x
    show h'.get? a = some (PySem.W.methodObj (.ref f) (.ref y))
    exact k a _ (.inl rfl) e
  | ext φ => obtain ⟨p, ⟨o, e⟩, st⟩ := x; exact ⟨st _ _ p fun o q => k _ _ (.inl rfl) q, ⟨o, k _ _ (.inl rfl) e⟩, st⟩
theorem HOk.lt (x : HOk P w H h) (e : H a = some o) : a < h.objs.size := (x a o e).lt
theorem HOk.fresh (x : HOk P w H h) (e : h.objs.size ≤ a) : H a = none := by
  cases q : H a with
  | none => rfl
  | some u => exact absurd (Nat.lt_of_lt_of_le (x.lt q) e) (Nat.lt_irrefl _)

theorem HOk.kept (x : HOk P w H h) (k : ∀ b u, h.get? b = some u → h'.get? b = some u) : HOk P w H h' := fun a o e =>
  (x a o e).stay (fun b u _ q => k b u q) (fun _ q => q) fun _ _ q => q

theorem HOk.laid (x : HOk P w H h) (k : ∀ b u, h.get? b = some u → h'.get? b = some u) (hp : h.objs.size ≤ a) (new : ObjOk P w (upd H a o) h' a o) : HOk P w (upd H a o) h' := fun b u e => by
  have hn := x.fresh hp
  by_cases hb : b = a
  · subst hb; rw [upd_same] at e; cases e; exact new
  · rw [upd_ne hb] at e
    exact (x b u e).stay (fun c v _ q => k c v q) (fun c q => by rw [upd_ne (ne_of_none q hn)]; exact q) fun c xs q => by rw [upd_ne (ne_of_none q hn)]; exact q
end


noncomputable def Rd (H : Hp) (a : Addr) (u : HO) : Prop := H a = some u ∨ ∃ o, H a = some (.frz o u)
theorem Rd.ok {P : Program} {w : World} {H : Hp} {h : Heap} {a : Addr} {u : HO} (r : Rd H a u) (x : HOk P w H h) : ObjOk P w H h a u := by
  rcases r with r | ⟨o, r⟩
  · exact x a u r
  · obtain ⟨_, q⟩ := x a _ r
    exact q

noncomputable def Mut : Option HO → Prop
  | some (.lst _) => True
  | some (.dK _) => True
  | some (.dT _) => True
  | some (.set _ _) => True
  | some (.ins _ _ _) => True
  | some (.ext _) => True
  | _ => False
section
variable {P : Program} {w : World} {H : Hp} {h h' : Heap} {x e : Addr} {o' : HO}

theorem HOk.write (ok : HOk P w H h) (mu : Mut (H x)) (he : e = x ∨ H e = some (.own x)) (k : ∀ b u, b ≠ e → h.get? b = some u → h'.get? b = some u) (heo : ∃ u, h'.get? e = some u)
    (new : ObjOk P w (upd H x o') h' x o') : HOk P w (upd H x o') h' := fun b u q => by
  have nown : ∀ c y, H c = some (.own y) → c ≠ x := fun c y r z => by subst z; rw [r] at mu; exact mu
  have ntup : ∀ c xs, H c = some (.tup xs) → c ≠ x := fun c xs r z => by subst z; rw [r] at mu; exact mu
  by_cases hb : b = x
  · subst hb; rw [upd_same] at q; cases q; exact new
  · rw [upd_ne hb] at q
    by_cases hbe : b = e
    · have q' : H b = some (.own x) := by
        rcases he with z | z
        · exact absurd (hbe.trans z) hb
        · rw [hbe]; exact z
      rw [q] at q'; cases q'
      obtain ⟨v, hv⟩ := heo
      exact ⟨v, by rw [hbe]; exact hv⟩
    · refine (ok b u q).stay (fun c v hc r => k c v ?_ r) (fun c r => by rw [upd_ne (nown c b r)]; exact r) fun c xs r => by rw [upd_ne (ntup c xs r)]; exact r
      rcases hc with rfl | hc
      · exact hbe
      · rintro rfl
        rcases he with z | z
        · exact nown c b hc z
        · rw [hc] at z; cases z; exact hb rfl
end


structure Un (fs ex : List Addr) (H H' : Hp) (h h' : Heap) : Prop where
  keep : ∀ b o, h.get? b = some o → H b = none → b ∉ fs → b ∉ ex → h'.get? b = some o
  slot : ∀ b o, h.get? b = some o → H b = none → b ∈ fs → b ∉ ex → ∃ sl, h'.get? b = some { o with slots := sl }
  free : ∀ b o, h.get? b = some o → H b = none → b ∉ ex → H' b = none
  there : ∀ b o, h.get? b = some o → b ∉ ex → ∃ o', h'.get? b = some o'
  tups : ∀ b xs, H b = some (.tup xs) → H' b = some (.tup xs)
  frzs : ∀ b o u, H b = some (.frz o u) → H' b = some (.frz o u)
  tbls : ∀ b ps, H b = some (.tbl ps) → ∃ more, H' b = some (.tbl (ps ++ more))
section
variable {fs fs' ex ex' : List Addr} {H H1 H2 : Hp} {h h1 h2 h' : Heap} {a x e : Addr} {o : HO}
theorem Un.any (u : Un fs ex H H1 h h1) {b : Addr} {ob : Obj} (q : h.get? b = some ob) (n : H b = none) (hx : b ∉ ex) : ∃ sl, h1.get? b = some { ob with slots := sl } := by
  by_cases hb : b ∈ fs
  · exact u.slot b ob q n hb hx
  · exact ⟨ob.slots, u.keep b ob q n hb hx⟩
theorem Un.kept (k : ∀ b u, h.get? b = some u → h'.get? b = some u) : Un fs ex H H h h' :=
  ⟨fun b ob q _ _ _ => k b ob q, fun b ob q _ _ _ => ⟨ob.slots, k b ob q⟩, fun _ _ _ n _ => n, fun b ob q _ => ⟨ob, k b ob q⟩, fun _ _ q => q, fun _ _ _ q => q, fun _ ps q => ⟨#[], by rw [q]; simp⟩⟩
theorem Un.refl : Un fs ex H H h h := Un.kept fun _ _ q => q
theorem Un.laid (k : ∀ b u, h.get? b = some u → h'.get? b = some u) (hp : h.objs.size ≤ a) (hn : H a = none) : Un fs ex H (upd H a o) h h' where
  keep := fun b u q _ _ _ => k b u q
  slot := fun b u q _ _ _ => ⟨u.slots, k b u q⟩
  free := fun b u q n _ => by rw [upd_ne (Nat.ne_of_lt (Nat.lt_of_lt_of_le (Heap.lt_size q) hp))]; exact n
  there := fun b u q _ => ⟨u, k b u q⟩
  tups := fun b xs q => by rw [upd_ne (ne_of_none q hn)]; exact q
  frzs := fun b u xs q => by rw [upd_ne (ne_of_none q hn)]; exact q
  tbls := fun b ps q => ⟨#[], by rw [upd_ne (ne_of_none q hn), q]; simp⟩
theorem Un.write (mu : Mut (H x)) (he : e = x ∨ H e = some (.own x)) (k : ∀ b u, b ≠ e → h.get? b = some u → h'.get? b = some u) (heo : ∃ u, h'.get? e = some u) : Un fs ex H (upd H x o) h h' := by
  have hx : ∀ b, H b = none → b ≠ x := fun b n z => by subst z; rw [n] at mu; exact mu
  have hb : ∀ b, H b = none → b ≠ e := fun b n z => by
    subst z
    rcases he with r | r
    · exact hx b n r
    · rw [n] at r; cases r
  have hm : ∀ b u, H b = some u → ¬ Mut (some u) → b ≠ x := fun b u q nm z => by subst z; rw [q] at mu; exact nm mu
  refine ⟨fun b u q n _ _ => k b u (hb b n) q, fun b u q n _ _ => ⟨u.slots, k b u (hb b n) q⟩, fun b u q n _ => by rw [upd_ne (hx b n)]; exact n, fun b u q _ => ?_,
    fun b xs q => by rw [upd_ne (hm b _ q fun z => z)]; exact q, fun b u xs q => by rw [upd_ne (hm b _ q fun z => z)]; exact q, fun b ps q => ⟨#[], by rw [upd_ne (hm b _ q fun z => z), q]; simp⟩⟩
  by_cases hbe : b = e
  · subst hbe; exact heo
  · exact ⟨u, k b u hbe q⟩
end


noncomputable def trk (h : Heap) (H : Hp) : List Addr := (List.range h.objs.size).filter fun a => (H a).isSome
noncomputable def hidT (h : Heap) (H : Hp) : Heap := PySem.W.hideAll h (trk h H)
theorem hidT_size (h : Heap) (H : Hp) : (hidT h H).objs.size = h.objs.size := PySem.W.hideAll_size _ _
theorem hidT_get {h : Heap} {H : Hp} {b : Addr} {o : Obj} (e : h.get? b = some o) (n : H b = none) : (hidT h H).get? b = some o :=
  PySem.W.hideAll_get _ e fun hm => by
    have q : (H b).isSome = true := (List.mem_filter.mp hm).2
    rw [n] at q; simp at q
theorem of_hidT {h : Heap} {H : Hp} {b : Addr} {o : Obj} (e : (hidT h H).get? b = some o) : h.get? b = some o ∧ H b = none := by
  have e' : h.get? b = some o := PySem.W.of_hideAll (trk h H) e
  refine ⟨e', ?_⟩
  cases q : H b with
  | none => rfl
  | some x =>
    have hm : b ∈ trk h H := List.mem_filter.mpr ⟨List.mem_range.mpr (Heap.lt_size e'), by simp [q]⟩
    have z : (hidT h H).get? b = none := PySem.W.hideAll_none (trk h H) hm
    rw [z] at e; cases e


noncomputable def allNews (g h : Heap) (L : Addr) : List (Addr × Obj) := (List.range h.objs.size).filterMap fun a => if a = L ∨ (g.get? a).isSome = true then none else (h.get? a).map fun o => (a, o)
noncomputable def rest (g h : Heap) (L d : Addr) : List (Addr × Obj) := (allNews g h L).filter fun p => decide (p.1 ≠ d)
end L2

namespace L2
open PySem PySem.Spec PyProof.Rows


structure Mod (K : PySem.W.Frag) (mg : Str → Option Value) (base : Heap) : Prop where
  kin : K.In base
  glob : base.Ns mainGlobals mg
  blt : ∃ mb, base.Ns builtinsNs mb ∧ ∀ x : Str, x ≠ "__name__" → mb x = bootBuiltins x
  nolimit : base.NoLimit


structure Cx where
  prog : Program
  w : World
  K : PySem.W.Frag
  mg : Str → Option Value
  base : Heap
  A : Around
  N : List Str
  s₀ : Shared
  H₀ : Hp
  env : Env
  outer : List Env
  stack : List Env
  ex : List Addr
  fn : Str → Bool
  calm : Bool
  pn : List (Addr × Obj)
  xe : Value → Shared → Prop

noncomputable def frs (l : List Env) : List Addr := l.filterMap (·.frame)
noncomputable abbrev Cx.fs (X : Cx) : List Addr := frs X.outer

noncomputable def Vis (sc : Scope) (x : Str) : Prop := sc.names.lookup x = some .local ∨ sc.names.lookup x = some .cell ∨ sc.names.lookup x = some .free
noncomputable def Loc (sc : Scope) (x : Str) : Prop := sc.names.lookup x = some .local ∨ sc.names.lookup x = some .cell
noncomputable def Look (env : Env) (h : Heap) (m : Str → Option Value) (x : Str) (u : Value) : Prop :=
  (env.kindOf x = some .local ∧ m x = some u) ∨ ((env.kindOf x = some .cell ∨ env.kindOf x = some .free) ∧ ∃ c, env.cells.lookup x = some c ∧ h.IsCell c (some u))

structure Cx.Ok (X : Cx) : Prop where
  mod : Mod X.K X.mg X.base
  kind : X.env.scope.kind = .function
  glob : X.env.globals = mainGlobals
  blt : X.env.builtins = builtinsNs
  above : X.s₀.heap.objs.size ≤ X.env.locals
  inj : ∀ x y c, X.env.cells.lookup x = some c → X.env.cells.lookup y = some c → x = y
  has : ∀ x, (X.env.kindOf x = some .cell ∨ X.env.kindOf x = some .free) → ∃ c, X.env.cells.lookup x = some c
  cab : ∀ x c, X.fn x = true → X.env.cells.lookup x = some c → X.s₀.heap.objs.size ≤ c
  hd : X.calm = true → X.A.handled = none
  frames : X.A.frames = some X.stack
  stk : X.stack = X.outer ∨ (X.stack = X.env :: X.outer ∧ X.env.frame = some X.env.locals)
  exf : ∀ b ∈ X.ex, b ≠ X.env.locals ∧ ∀ x c, X.env.cells.lookup x = some c → c ≠ b
  bs : ∀ b o, X.base.get? b = some o → X.s₀.heap.get? b = some o ∧ X.H₀ b = none
  bsz : X.base.objs.size ≤ X.s₀.heap.objs.size
  noex : ∀ b o, X.base.get? b = some o → b ∉ X.ex
  exfs : ∀ b ∈ X.ex, b ∉ X.fs
  funs : X.s₀.heap.FunFrames X.base X.outer
  frf : ∀ b ∈ X.fs, X.H₀ b = none

structure Inv (X : Cx) (pins : List (Addr × Obj)) (σ : List (Option V)) (H : Hp) (s : Shared) : Prop where
  ok : X.Ok
  os : s.os = X.s₀.os
  bare : AllBare s.gens
  base : Un X.fs X.ex X.H₀ H X.s₀.heap s.heap
  loc : ∃ m, s.heap.Ns X.env.locals m ∧ ∀ (i : Nat) (x : Str) (v : V), X.N[i]? = some x → σ[i]? = some (some v) → Vis X.env.scope x → ∃ u, RelV v u ∧ Look X.env s.heap m x u
  cell : ∀ x c, X.env.cells.lookup x = some c → ∃ v, s.heap.IsCell c v
  free : H X.env.locals = none
  freeC : ∀ x c, X.env.cells.lookup x = some c → H c = none
  pin : ∀ p ∈ X.pn ++ pins, s.heap.get? p.1 = some p.2 ∧ H p.1 = none ∧ p.1 ≠ X.env.locals ∧ p.1 ∉ X.fs ∧ ∀ v, p.2.data ≠ .cell v
  hok : HOk X.prog X.w H s.heap
  len : σ.length = X.N.length

section
variable {X : Cx} {pins : List (Addr × Obj)} {σ : List (Option V)} {H H' : Hp} {s : Shared} {h' : Heap}

theorem Cx.Ok.nofr (ok : X.Ok) {b : Addr} {o : Obj} (e : X.base.get? b = some o) : b ∉ X.fs := fun hb => by
  have := (ok.funs.mem hb).1
  rw [e] at this; cases this
theorem Inv.bs (I : Inv X pins σ H s) : ∀ b o, X.base.get? b = some o → s.heap.get? b = some o ∧ H b = none := fun b o e =>
  ⟨I.base.keep b o (I.ok.bs b o e).1 (I.ok.bs b o e).2 (I.ok.nofr e) (I.ok.noex b o e), I.base.free b o (I.ok.bs b o e).1 (I.ok.bs b o e).2 (I.ok.noex b o e)⟩
theorem Inv.bk (I : Inv X pins σ H s) : ∀ b o, X.base.get? b = some o → s.heap.get? b = some o := fun b o e => (I.bs b o e).1
theorem Inv.mod (I : Inv X pins σ H s) : Mod X.K X.mg X.base := I.ok.mod
theorem Inv.kIn (I : Inv X pins σ H s) : X.K.In s.heap := I.ok.mod.kin.keeps I.bk
theorem Inv.lt (I : Inv X pins σ H s) : X.env.locals < s.heap.objs.size := let ⟨_, hn, _⟩ := I.loc; hn.lt
theorem Inv.sz (I : Inv X pins σ H s) : X.s₀.heap.objs.size ≤ s.heap.objs.size := Nat.le_trans I.ok.above (Nat.le_of_lt I.lt)
theorem Inv.nofs (I : Inv X pins σ H s) {a : Addr} (h : s.heap.objs.size ≤ a) : a ∉ X.fs := fun hb => by
  obtain ⟨_, o, ho, _⟩ := I.ok.funs.mem hb
  exact absurd (Nat.lt_of_lt_of_le (Heap.lt_size ho) (Nat.le_trans I.sz h)) (Nat.lt_irrefl _)
theorem Inv.cne (I : Inv X pins σ H s) : ∀ x c, X.env.cells.lookup x = some c → c ≠ X.env.locals := fun x c e z => by
  obtain ⟨v, o, ho, hd⟩ := I.cell x c e
  obtain ⟨m, ⟨o', es, ep, ho', hd', _⟩, _⟩ := I.loc
  rw [z, ho'] at ho; cases ho; rw [hd'] at hd; cases hd
theorem Inv.funs (I : Inv X pins σ H s) : s.heap.FunFrames X.base X.outer := by
  have all : ∀ (l : List Env), (∀ b ∈ frs l, b ∈ X.fs) → X.s₀.heap.FunFrames X.base l → s.heap.FunFrames X.base l := by
    intro l
    induction l with
    | nil => intro _ _; trivial
    | cons env r ih =>
      intro hs hl
      obtain ⟨hk, ⟨L, o, hf, hn, ho, hd⟩, hr⟩ := hl
      have hL : L ∈ X.fs := hs L (by unfold frs; rw [List.filterMap_cons, hf]; exact List.mem_cons_self)
      obtain ⟨sl, e⟩ := I.base.slot L o ho (I.ok.frf L hL) hL fun z => I.ok.exfs L z hL
      exact ⟨hk, ⟨L, _, hf, hn, e, hd⟩, ih (fun b hb => hs b (by unfold frs; rw [List.filterMap_cons, hf]; exact List.mem_cons_of_mem _ hb)) hr⟩
  exact all X.outer (fun _ hb => hb) I.ok.funs


theorem Inv.stack (I : Inv X pins σ H s) : s.heap.FunFrames X.base X.stack := by
  rcases I.ok.stk with e | ⟨e, hf⟩
  · rw [e]; exact I.funs
  · rw [e]
    obtain ⟨m, hn, _⟩ := I.loc
    refine .cons (by rw [I.ok.kind]; decide) hf hn ?_ I.funs
    exact Heap.get?_none_of_le (Nat.le_trans I.ok.bsz I.ok.above)
theorem Inv.stkSub (I : Inv X pins σ H s) : ∀ b ∈ frs X.stack, b ∈ X.env.locals :: X.fs := fun b hb => by
  rcases I.ok.stk with e | ⟨e, hf⟩
  · rw [e] at hb; exact List.mem_cons_of_mem _ hb
  · rw [e] at hb
    unfold frs at hb
    rw [List.filterMap_cons, hf] at hb
    exact hb
theorem Inv.stkFree (I : Inv X pins σ H s) : ∀ b ∈ frs X.stack, H b = none := fun b hb => by
  rcases List.mem_cons.mp (I.stkSub b hb) with e | hb
  · rw [e]; exact I.free
  · obtain ⟨_, o, ho, _⟩ := I.ok.funs.mem hb
    exact I.base.free b o ho (I.ok.frf b hb) fun z => I.ok.exfs b z hb


theorem Inv.step {g' : Array GenState} {t' : Nat} {d' : Drawn} {ch : List Addr} (I : Inv X pins σ H s)
    (hch : ∀ b ∈ ch, (b ∈ X.ex ∨ X.s₀.heap.objs.size ≤ b) ∧ b ≠ X.env.locals ∧ (∀ x c, X.env.cells.lookup x = some c → c ≠ b) ∧ ∀ p ∈ X.pn ++ pins, p.1 ≠ b)
    (keep : ∀ b o, b ≠ X.env.locals → b ∉ X.fs → b ∉ ch → s.heap.get? b = some o → H b = none → h'.get? b = some o)
    (slot : ∀ b o, b ≠ X.env.locals → b ∈ X.fs → b ∉ ch → s.heap.get? b = some o → H b = none → ∃ sl, h'.get? b = some { o with slots := sl }) (free : ∀ b o, b ∉ ch → s.heap.get? b = some o → H b = none → H' b = none)
    (there : ∀ b o, b ∉ ch → s.heap.get? b = some o → ∃ o', h'.get? b = some o')
    (tups : ∀ b xs, H b = some (.tup xs) → H' b = some (.tup xs)) (frzs : ∀ b o u, H b = some (.frz o u) → H' b = some (.frz o u)) (tbls : ∀ b ps, H b = some (.tbl ps) → ∃ more, H' b = some (.tbl (ps ++ more)))
    (ns : ∀ m, s.heap.Ns X.env.locals m → h'.Ns X.env.locals m) (hok : HOk X.prog X.w H' h') (hg : AllBare g') :
    Inv X pins σ H' { s with heap := h', gens := g', drawn := d', toks := t' } := by
  have neL : ∀ b o, X.s₀.heap.get? b = some o → b ≠ X.env.locals := fun b o e => Nat.ne_of_lt (Nat.lt_of_lt_of_le (Heap.lt_size e) I.ok.above)
  have neC : ∀ b o, X.s₀.heap.get? b = some o → b ∉ X.ex → b ∉ ch := fun b o e hx hb => by
    rcases (hch b hb).1 with z | z
    · exact hx z
    · exact absurd (Nat.lt_of_lt_of_le (Heap.lt_size e) z) (Nat.lt_irrefl _)
  have cellK : ∀ x c, X.env.cells.lookup x = some c → ∀ v, s.heap.IsCell c v → h'.IsCell c v := fun x c e v ⟨o, ho, hd⟩ => by
    have nch : c ∉ ch := fun z => (hch c z).2.2.1 x c e rfl
    by_cases hc : c ∈ X.fs
    · obtain ⟨sl, q⟩ := slot c o (I.cne x c e) hc nch ho (I.freeC x c e)
      exact ⟨_, q, hd⟩
    · exact ⟨o, keep c o (I.cne x c e) hc nch ho (I.freeC x c e), hd⟩
  refine ⟨I.ok, I.os, hg, ⟨fun b o e n hb hx => ?_, fun b o e n hb hx => ?_, fun b o e n hx => ?_, fun b o e hx => ?_, fun b xs e => tups b xs (I.base.tups b xs e), fun b o xs e => frzs b o xs (I.base.frzs b o xs e), fun b ps e => ?_⟩, ?_, fun x c e => ?_, ?_, fun x c e => ?_, fun p hp => ?_, hok, I.len⟩
  · exact keep b o (neL b o e) hb (neC b o e hx) (I.base.keep b o e n hb hx) (I.base.free b o e n hx)
  · obtain ⟨sl, e1⟩ := I.base.slot b o e n hb hx
    obtain ⟨sl', e2⟩ := slot b _ (neL b o e) hb (neC b o e hx) e1 (I.base.free b o e n hx)
    exact ⟨sl', e2⟩
  · obtain ⟨o', e1⟩ := I.base.there b o e hx
    exact free b o' (neC b o e hx) e1 (I.base.free b o e n hx)
  · obtain ⟨o', e1⟩ := I.base.there b o e hx
    exact there b o' (neC b o e hx) e1
  · obtain ⟨m1, e1⟩ := I.base.tbls b ps e
    obtain ⟨m2, e2⟩ := tbls b _ e1
    exact ⟨m1 ++ m2, by rw [e2, Array.append_assoc]⟩
  · obtain ⟨m, hn, hl⟩ := I.loc
    refine ⟨m, ns m hn, fun i x v e1 e2 e3 => ?_⟩
    obtain ⟨u, r, l⟩ := hl i x v e1 e2 e3
    refine ⟨u, r, ?_⟩
    rcases l with l | ⟨k, c, e, z⟩
    · exact .inl l
    · exact .inr ⟨k, c, e, cellK x c e _ z⟩
  · obtain ⟨v, z⟩ := I.cell x c e
    exact ⟨v, cellK x c e v z⟩
  · obtain ⟨m, ⟨o, _, _, ho, _⟩, _⟩ := I.loc
    exact free _ o (fun z => (hch _ z).2.1 rfl) ho I.free
  · obtain ⟨v, o, ho, hd⟩ := I.cell x c e
    exact free c o (fun z => (hch c z).2.2.1 x c e rfl) ho (I.freeC x c e)
  · obtain ⟨e, n, ne, nf, d⟩ := I.pin p hp
    have nch : p.1 ∉ ch := fun z => (hch p.1 z).2.2.2 p hp rfl
    exact ⟨keep p.1 p.2 ne nf nch e n, free p.1 p.2 nch e n, ne, nf, d⟩

theorem Inv.un {t' : Nat} (I : Inv X pins σ H s) (u : Un X.fs [] H H' s.heap h') (hok : HOk X.prog X.w H' h') : Inv X pins σ H' { s with heap := h', toks := t' } := by
  obtain ⟨m, ⟨o, es, ep, ho, r⟩, _⟩ := id I.loc
  obtain ⟨sl, hL⟩ := u.any ho I.free (by simp)
  exact I.step (g' := s.gens) (d' := s.drawn) (ch := []) (fun _ z => nomatch z) (fun b o _ hb _ e n => u.keep b o e n hb (by simp)) (fun b o _ hb _ e n => u.slot b o e n hb (by simp)) (fun b o _ e n => u.free b o e n (by simp)) (fun b o _ e => u.there b o e (by simp)) u.tups u.frzs u.tbls (fun m' hm => by
    obtain ⟨o', es', ep', ho', r'⟩ := hm
    rw [ho] at ho'; cases ho'
    exact ⟨_, es', ep', hL, r'⟩) hok I.bare

theorem Inv.call {g' : Array GenState} {t' : Nat} {d' : Drawn} {ch : List Addr} (I : Inv X pins σ H s) (u : Un (frs X.stack) ch H H' s.heap h') (hok : HOk X.prog X.w H' h') (hg : AllBare g')
    (hch : ∀ b ∈ ch, (b ∈ X.ex ∨ X.s₀.heap.objs.size ≤ b) ∧ b ≠ X.env.locals ∧ (∀ x c, X.env.cells.lookup x = some c → c ≠ b) ∧ ∀ p ∈ X.pn ++ pins, p.1 ≠ b) :
    Inv X pins σ H' { s with heap := h', gens := g', drawn := d', toks := t' } := by
  obtain ⟨m, ⟨o, es, ep, ho, r⟩, _⟩ := id I.loc
  obtain ⟨sl, hL⟩ := u.any ho I.free fun z => (hch _ z).2.1 rfl
  exact I.step (ch := ch) hch (fun b o hL hb hc e n => u.keep b o e n (fun z => (List.mem_cons.mp (I.stkSub b z)).elim hL hb) hc) (fun b o _ _ hc e n => u.any e n hc) (fun b o hc e n => u.free b o e n hc) (fun b o hc e => u.there b o e hc) u.tups u.frzs u.tbls (fun m' hm => by
    obtain ⟨o', es', ep', ho', r'⟩ := hm
    rw [ho] at ho'; cases ho'
    exact ⟨_, es', ep', hL, r'⟩) hok hg

theorem Inv.turned {t' : Nat} {it : Addr} (I : Inv X pins σ H s) (k : ∀ b o, b ≠ it → s.heap.get? b = some o → h'.get? b = some o) (hn : H it = none) (hL : it ≠ X.env.locals)
    (h1 : it ∈ X.ex ∨ X.s₀.heap.objs.size ≤ it) (h2 : ∀ x c, X.env.cells.lookup x = some c → c ≠ it) (h3 : ∀ p ∈ X.pn ++ pins, p.1 ≠ it) : Inv X pins σ H { s with heap := h', toks := t' } := by
  have nit : ∀ b u, H b = some u → b ≠ it := fun b u e z => by rw [z, hn] at e; cases e
  refine I.step (g' := s.gens) (d' := s.drawn) (ch := [it]) (fun b hb => ?_) (fun b o _ _ hc e _ => k b o (fun z => hc (by simp [z])) e) (fun b o _ _ hc e _ => ⟨o.slots, k b o (fun z => hc (by simp [z])) e⟩) (fun _ _ _ _ n => n)
    (fun b o hc e => ⟨o, k b o (fun z => hc (by simp [z])) e⟩) (fun _ _ e => e) (fun _ _ _ e => e) (fun b ps e => ⟨#[], by rw [e]; simp⟩) (fun m hm => ?_) (fun b u e => ?_) I.bare
  · have e : b = it := by simpa using hb
    subst e
    exact ⟨h1, hL, h2, h3⟩
  · obtain ⟨o, es, ep, ho, r⟩ := hm
    exact ⟨o, es, ep, k _ o (Ne.symm hL) ho, r⟩
  · refine (I.hok b u e).stay (fun c v hc q => k c v ?_ q) (fun _ q => q) fun _ _ q => q
    rcases hc with z | z
    · rw [z]; exact nit b u e
    · exact nit c _ z
theorem Inv.tok (I : Inv X pins σ H s) (t : Nat) : Inv X pins σ H { s with toks := t } := I.un (h' := s.heap) (t' := t) Un.refl I.hok

theorem Inv.kept {t' : Nat} (I : Inv X pins σ H s) (k : ∀ b u, s.heap.get? b = some u → h'.get? b = some u) : Inv X pins σ H { s with heap := h', toks := t' } := I.un (Un.kept k) (I.hok.kept k)

theorem Inv.laid {a : Addr} {o : HO} {t' : Nat} (I : Inv X pins σ H s) (k : ∀ b u, s.heap.get? b = some u → h'.get? b = some u) (hp : s.heap.objs.size ≤ a) (new : ObjOk X.prog X.w (upd H a o) h' a o) :
    Inv X pins σ (upd H a o) { s with heap := h', toks := t' } := I.un (Un.laid k hp (I.hok.fresh hp)) (I.hok.laid k hp new)

theorem Inv.write {x e : Addr} {o : HO} {t' : Nat} (I : Inv X pins σ H s) (mu : Mut (H x)) (he : e = x ∨ H e = some (.own x)) (k : ∀ b u, b ≠ e → s.heap.get? b = some u → h'.get? b = some u) (heo : ∃ u, h'.get? e = some u)
    (new : ObjOk X.prog X.w (upd H x o) h' x o) : Inv X pins σ (upd H x o) { s with heap := h', toks := t' } := I.un (Un.write mu he k heo) (I.hok.write mu he k heo new)

theorem Inv.pins_of {pins' : List (Addr × Obj)} (I : Inv X pins σ H s) (h : ∀ p ∈ pins', s.heap.get? p.1 = some p.2 ∧ H p.1 = none ∧ p.1 ≠ X.env.locals ∧ p.1 ∉ X.fs ∧ ∀ v, p.2.data ≠ .cell v) : Inv X pins' σ H s :=
  ⟨I.ok, I.os, I.bare, I.base, I.loc, I.cell, I.free, I.freeC, fun p hp => (List.mem_append.mp hp).elim (fun z => I.pin p (List.mem_append_left _ z)) (h p), I.hok, I.len⟩

theorem nodup_ix {N : List Str} (hN : N.Nodup) {i j : Nat} {x : Str} (a : N[i]? = some x) (b : N[j]? = some x) : i = j := by
  obtain ⟨h1, e1⟩ := List.getElem?_eq_some_iff.mp a
  obtain ⟨h2, e2⟩ := List.getElem?_eq_some_iff.mp b
  exact (List.getElem_inj hN).mp (e1.trans e2.symm)


theorem store_ok2 {M : Model} {A : Around} {E : Value → Shared → Prop} {i : Nat} {x : Str} {v : V} {u : Value} {Q : Unit → Shared → Prop} (I : Inv X pins σ H s) (hN : X.N.Nodup) (hi : X.N[i]? = some x) (hx : Loc X.env.scope x) (r : RelV v u)
    (h : ∀ s', Inv X pins (σ.set i (some v)) H s' → (∃ a, Heap.SameBut a s.heap s'.heap ∧ (a = X.env.locals ∨ X.env.cells.lookup x = some a)) → Q () s') (hf : X.fn x = true ∨ X.env.scope.names.lookup x = some .local := by first | exact .inl rfl | exact .inr rfl | assumption) : wpAny M A (storeName X.env x u) Q E s := by
  obtain ⟨m, hn, hl⟩ := id I.loc
  have hcls : (X.env.scope.kind == .class || (X.env.scope.kind == .module && X.env.locals != X.env.globals)) = false := by rw [I.ok.kind]; rfl
  have hiσ : i < σ.length := by rw [I.len]; exact (List.getElem?_eq_some_iff.mp hi).1
  have cne := I.cne
  have tracked : ∀ {a : Addr} {h' : Heap}, (∃ o, s.heap.get? a = some o ∧ H a = none) → Heap.SameBut a s.heap h' → HOk X.prog X.w H h' := fun {a h'} ha hs b ob e => by
    obtain ⟨_, _, hfree⟩ := ha
    refine (I.hok b ob e).stay (fun c w' hc q => (hs.2 c ?_).trans q) (fun _ q => q) fun _ _ q => q
    rintro rfl
    rcases hc with rfl | hc
    · rw [hfree] at e; cases e
    · rw [hfree] at hc; cases hc
  rcases hx with hk | hk
  · refine wpAny_storeName_local hk hn (fun h' hn' hs => ?_) hcls
    obtain ⟨oL, _, _, hoL, _⟩ := id hn
    refine h _ ⟨I.ok, I.os, I.bare, ⟨fun b o e n hb hx => ?_, fun b o e n hb hx => ?_, I.base.free, fun b o e hx => ?_, I.base.tups, I.base.frzs, I.base.tbls⟩, ⟨_, hn', fun j y v' e1 e2 e3 => ?_⟩, fun y c e => ?_, I.free, I.freeC, fun p hp => ?_, tracked ⟨oL, hoL, I.free⟩ hs, by simpa using I.len⟩ ⟨_, hs, .inl rfl⟩
    · exact (hs.2 b (Nat.ne_of_lt (Nat.lt_of_lt_of_le (Heap.lt_size e) I.ok.above))).trans (I.base.keep b o e n hb hx)
    · obtain ⟨sl, e1⟩ := I.base.slot b o e n hb hx
      exact ⟨sl, (hs.2 b (Nat.ne_of_lt (Nat.lt_of_lt_of_le (Heap.lt_size e) I.ok.above))).trans e1⟩
    · obtain ⟨o', e1⟩ := I.base.there b o e hx
      exact ⟨o', (hs.2 b (Nat.ne_of_lt (Nat.lt_of_lt_of_le (Heap.lt_size e) I.ok.above))).trans e1⟩
    · by_cases hj : j = i
      · subst hj
        rw [hi] at e1; cases e1
        rw [List.getElem?_set_self hiσ] at e2
        cases e2
        exact ⟨u, r, .inl ⟨hk, by simp⟩⟩
      · rw [List.getElem?_set_ne (Ne.symm hj)] at e2
        obtain ⟨u', r', q⟩ := hl j y v' e1 e2 e3
        refine ⟨u', r', ?_⟩
        rcases q with ⟨k, e⟩ | ⟨k, c, e, z⟩
        · refine .inl ⟨k, ?_⟩
          have : y ≠ x := fun e => hj (nodup_ix hN e1 (e ▸ hi))
          simp [this, e]
        · exact .inr ⟨k, c, e, z.sameBut hs (cne y c e)⟩
    · obtain ⟨w', z⟩ := I.cell y c e
      exact ⟨w', z.sameBut hs (cne y c e)⟩
    · obtain ⟨e, n, ne, nf, d⟩ := I.pin p hp
      exact ⟨(hs.2 p.1 ne).trans e, n, ne, nf, d⟩
  · have hfn : X.fn x = true := by
      rcases hf with z | z
      · exact z
      · rw [z] at hk; cases hk
    obtain ⟨c, hc⟩ := I.ok.has x (.inl hk)
    obtain ⟨w', z⟩ := I.cell x c hc
    refine wpAny_storeName_cell I.ok.kind hk hc z (fun h' hc' hs => ?_)
    obtain ⟨oc, hoc, hocd⟩ := id z
    refine h { s with heap := h' } ⟨I.ok, I.os, I.bare, ⟨fun b o e n hb hx => ?_, fun b o e n hb hx => ?_, I.base.free, fun b o e hx => ?_, I.base.tups, I.base.frzs, I.base.tbls⟩, ⟨m, hn.sameBut hs (Ne.symm (cne x c hc)), fun j y v' e1 e2 e3 => ?_⟩, fun y c' e => ?_, I.free, I.freeC, fun p hp => ?_, tracked ⟨oc, hoc, I.freeC x c hc⟩ hs, by simpa using I.len⟩ ⟨c, hs, .inr hc⟩
    · exact (hs.2 b (Nat.ne_of_lt (Nat.lt_of_lt_of_le (Heap.lt_size e) (I.ok.cab x c hfn hc)))).trans (I.base.keep b o e n hb hx)
    · obtain ⟨sl, e1⟩ := I.base.slot b o e n hb hx
      exact ⟨sl, (hs.2 b (Nat.ne_of_lt (Nat.lt_of_lt_of_le (Heap.lt_size e) (I.ok.cab x c hfn hc)))).trans e1⟩
    · obtain ⟨o', e1⟩ := I.base.there b o e hx
      exact ⟨o', (hs.2 b (Nat.ne_of_lt (Nat.lt_of_lt_of_le (Heap.lt_size e) (I.ok.cab x c hfn hc)))).trans e1⟩
    · by_cases hj : j = i
      · subst hj
        rw [hi] at e1; cases e1
        rw [List.getElem?_set_self hiσ] at e2
        cases e2
        exact ⟨u, r, .inr ⟨.inl hk, c, hc, hc'⟩⟩
      · rw [List.getElem?_set_ne (Ne.symm hj)] at e2
        obtain ⟨u', r', q⟩ := hl j y v' e1 e2 e3
        refine ⟨u', r', ?_⟩
        rcases q with q | ⟨k, c', e, z'⟩
        · exact .inl q
        · refine .inr ⟨k, c', e, z'.sameBut hs ?_⟩
          rintro rfl
          exact hj (nodup_ix hN e1 (I.ok.inj _ _ _ e hc ▸ hi))
    · by_cases hcc : c' = c
      · subst hcc; exact ⟨_, hc'⟩
      · obtain ⟨w2, z2⟩ := I.cell y c' e
        exact ⟨w2, z2.sameBut hs hcc⟩
    · obtain ⟨e, n, ne, nf, d⟩ := I.pin p hp
      refine ⟨(hs.2 p.1 ?_).trans e, n, ne, nf, d⟩
      intro q
      rw [q, hoc] at e
      have q' : oc = p.2 := Option.some.inj e
      exact d w' (by rw [← q']; exact hocd)
theorem store_ok {M : Model} {A : Around} {E : Value → Shared → Prop} {i : Nat} {x : Str} {v : V} {u : Value} {Q : Unit → Shared → Prop} (I : Inv X pins σ H s) (hN : X.N.Nodup) (hi : X.N[i]? = some x) (hx : Loc X.env.scope x) (r : RelV v u)
    (h : ∀ s', Inv X pins (σ.set i (some v)) H s' → Q () s') (hf : X.fn x = true ∨ X.env.scope.names.lookup x = some .local := by first | exact .inl rfl | exact .inr rfl | assumption) : wpAny M A (storeName X.env x u) Q E s :=
  store_ok2 I hN hi hx r (fun s' I' _ => h s' I') hf

theorem Inv.call' {s' : Shared} {ch : List Addr} (I : Inv X pins σ H s) (ho : s'.os = s.os) (u : Un (frs X.stack) ch H H' s.heap s'.heap) (hok : HOk X.prog X.w H' s'.heap) (hg : AllBare s'.gens)
    (hch : ∀ b ∈ ch, (b ∈ X.ex ∨ X.s₀.heap.objs.size ≤ b) ∧ b ≠ X.env.locals ∧ (∀ x c, X.env.cells.lookup x = some c → c ≠ b) ∧ ∀ p ∈ X.pn ++ pins, p.1 ≠ b) : Inv X pins σ H' s' := by
  obtain ⟨h', g', d', t', o'⟩ := s'
  have e : o' = s.os := ho
  subst e
  exact I.call (g' := g') (t' := t') (d' := d') u hok hg hch
end



noncomputable abbrev XK := Value → Option Addr → Hp → Prop
noncomputable abbrev St := List (Option V)
noncomputable abbrev VK := V → Hp → Prop

noncomputable abbrev TE := St → Hp → VK → Prop
noncomputable abbrev TT := St → Hp → (Bool → Hp → Prop) → Prop
noncomputable abbrev TA := St → Hp → (List V → Hp → Prop) → Prop

structure Ends where
  nx : St → Hp → Prop
  rt : VK
  bk : St → Hp → Prop := fun _ _ => False
  ct : St → Hp → Prop := fun _ _ => False
noncomputable abbrev TS := Ends → St → Hp → Prop

noncomputable def EP (X : Cx) (pins : List (Addr × Obj)) (σ : St) (Q : VK) (u : Value) (s' : Shared) : Prop := ∃ v H', Inv X pins σ H' s' ∧ RelV v u ∧ Q v H'
noncomputable def TP (X : Cx) (pins : List (Addr × Obj)) (σ : St) (Q : Bool → Hp → Prop) (b : Bool) (s' : Shared) : Prop := ∃ H', Inv X pins σ H' s' ∧ Q b H'
noncomputable def AP (X : Cx) (pins : List (Addr × Obj)) (σ : St) (Q : List V → Hp → Prop) (us : List Value) (s' : Shared) : Prop := ∃ vs H', Inv X pins σ H' s' ∧ Vals vs us ∧ Q vs H'
noncomputable def SP (X : Cx) (pins : List (Addr × Obj)) (D : Ends) (f : Flow) (s' : Shared) : Prop :=
  match f with
  | .next => ∃ σ' H', Inv X pins σ' H' s' ∧ D.nx σ' H'
  | .brk => ∃ σ' H', Inv X pins σ' H' s' ∧ D.bk σ' H'
  | .cont => ∃ σ' H', Inv X pins σ' H' s' ∧ D.ct σ' H'
  | .ret u => ∃ v σ' H', Inv X pins σ' H' s' ∧ RelV v u ∧ D.rt v H'

noncomputable def PE (X : Cx) (e : Expr) (t : TE) : Prop :=
  ∀ (pins : List (Addr × Obj)) (s : Shared) (σ : St) (H : Hp) (Q : VK), Inv X pins σ H s → t σ H Q → wpAny (model X.prog X.w) X.A (eval e X.env) (EP X pins σ Q) X.xe s
noncomputable def PT (X : Cx) (e : Expr) (t : TT) : Prop :=
  ∀ (pins : List (Addr × Obj)) (s : Shared) (σ : St) (H : Hp) (Q : Bool → Hp → Prop), Inv X pins σ H s → t σ H Q → wpAny (model X.prog X.w) X.A (isTrue e X.env (eval e X.env)) (TP X pins σ Q) X.xe s

noncomputable def PW (X : Cx) (e : Expr) (t : TT) : Prop :=
  ∀ (whole : Sem Value) (pins : List (Addr × Obj)) (s : Shared) (σ : St) (H : Hp) (Q : Bool → Hp → Prop), Inv X pins σ H s → t σ H Q → wpAny (model X.prog X.w) X.A (isTrue e X.env whole) (TP X pins σ Q) X.xe s
theorem PW.pt {X : Cx} {e : Expr} {t : TT} (h : PW X e t) : PT X e t := h _

noncomputable def PA (X : Cx) (es : List Expr) (t : TA) : Prop :=
  ∀ (pos : Pos) (pins : List (Addr × Obj)) (s : Shared) (σ : St) (H : Hp) (Q : List V → Hp → Prop), Inv X pins σ H s → t σ H Q → wpAny (model X.prog X.w) X.A (spliced (backTo pos (starEach es X.env))) (AP X pins σ Q) X.xe s
noncomputable def PS (X : Cx) (st : Stmt) (t : TS) : Prop :=
  ∀ (pins : List (Addr × Obj)) (s : Shared) (σ : St) (H : Hp) (D : Ends), Inv X pins σ H s → t D σ H → wpAny (model X.prog X.w) X.A (exec st X.env) (SP X pins D) X.xe s
noncomputable def PSs (X : Cx) (st : List Stmt) (t : TS) : Prop :=
  ∀ (pins : List (Addr × Obj)) (s : Shared) (σ : St) (H : Hp) (D : Ends), Inv X pins σ H s → t D σ H → wpAny (model X.prog X.w) X.A (execs st X.env) (SP X pins D) X.xe s

theorem thn {α : Type} {t : Sem α} {Q Q' : α → Shared → Prop} {M : Model} {A : Around} {E : Value → Shared → Prop} {s : Shared} (h : wpAny M A t Q E s) (hQ : ∀ a s, Q a s → Q' a s) : wpAny M A t Q' E s := wpAny_mono h hQ fun _ _ x => x
end L2

namespace L2
open PySem PySem.Spec PyProof.Rows
section
variable {X : Cx}


theorem bin {a b : Expr} {ta tb : TE} (ha : PE X a ta) (hb : PE X b tb) {pins : List (Addr × Obj)} {s : Shared} {σ : St} {H : Hp} {R : V → V → Hp → Prop} (I : Inv X pins σ H s) (h : ta σ H fun x H1 => tb σ H1 fun y H2 => R x y H2)
    {α : Type} {Q : α → Shared → Prop} {f : Value → Value → Sem α}
    (hf : ∀ v u s2 x y H2, Inv X pins σ H2 s2 → RelV x v → RelV y u → R x y H2 → wpAny (model X.prog X.w) X.A (f v u) Q X.xe s2) :
    wpAny (model X.prog X.w) X.A (eval a X.env) (fun v s₁ => wpAny (model X.prog X.w) X.A (eval b X.env) (fun u s₂ => wpAny (model X.prog X.w) X.A (f v u) Q X.xe s₂) X.xe s₁) X.xe s := by
  refine thn (ha pins s σ H _ I h) fun v s1 ⟨x, H1, I1, r1, q1⟩ => ?_
  refine thn (hb pins s1 σ H1 _ I1 q1) fun u s2 ⟨y, H2, I2, r2, q2⟩ => ?_
  exact hf v u s2 x y H2 I2 r1 r2 q2


noncomputable def tVar (i : Nat) : TE := fun σ H Q => ∃ v, σ[i]? = some (some v) ∧ Q v H
noncomputable def tC (v : V) : TE := fun _ H Q => Q v H
theorem pe_var {i : Nat} {x : Str} {pos : Pos} (hN : X.N[i]? = some x) (hv : Vis X.env.scope x) (hd : (x == ("__debug__" : Str)) = false := by decide) (hcd : (x == ("__classdict__" : Str)) = false := by decide) : PE X (.Name x pos) (tVar i) := by
  intro pins s σ H Q I h
  obtain ⟨v, e, h⟩ := h
  obtain ⟨m, hn, hl⟩ := I.loc
  obtain ⟨u, r, l⟩ := hl i x v hN e hv
  have fin : EP X pins σ Q u s := ⟨v, H, I, r, h⟩
  rcases l with ⟨hk, hm⟩ | ⟨hk, c, hc, hcell⟩
  · exact wpAny_Name (wpAny_loadName_local I.ok.kind hk hn hm fin) hd
  · rcases hk with hk | hk
    · exact wpAny_Name (wpAny_loadName_cell I.ok.kind hk hc hcell fin) hd
    · exact wpAny_Name (wpAny_loadName_free I.ok.kind hk hc hcell fin hcd) hd
theorem pe_int {i j pos} : PE X (.Constant (.int i) j pos) (tC (.int i)) := fun _ _ _ H _ I h => wpAny_Constant_int ⟨.int i, H, I.tok _, ⟨_, rfl⟩, h⟩
theorem pe_bl {b j pos} : PE X (.Constant (.bool b) j pos) (tC (.bl b)) := fun _ _ _ H _ I h => Constant_bool ⟨.bl b, H, I, rfl, h⟩
theorem pe_non {j pos} : PE X (.Constant .none j pos) (tC .non) := fun _ _ _ H _ I h => Constant_none ⟨.non, H, I, rfl, h⟩
theorem pe_str {x j pos} : PE X (.Constant (.str x) j pos) (tC (.str x)) := fun _ _ _ H _ I h => Calls.Constant_str ⟨.str x, H, I.tok _, ⟨_, rfl⟩, h⟩


noncomputable def Gl (X : Cx) (x : Str) : Prop := X.env.kindOf x = some .globalImplicit
theorem ld_glob {E : Value → Shared → Prop} {pins : List (Addr × Obj)} {s : Shared} {σ : St} {H : Hp} {x : Str} {u : Value} {pos : Pos} {Q : Value → Shared → Prop} (I : Inv X pins σ H s) (hg : Gl X x) (hm : X.mg x = some u) (h : Q u s)
    (hd : (x == ("__debug__" : Str)) = false := by decide) : wpAny (model X.prog X.w) X.A (eval (.Name x pos) X.env) Q E s :=
  Calls.Name_function_global I.ok.kind hg (Calls.loadGlobal_global (by rw [I.ok.glob]; exact I.mod.glob.keeps I.bk) hm h) hd
theorem ld_blt {E : Value → Shared → Prop} {pins : List (Addr × Obj)} {s : Shared} {σ : St} {H : Hp} {x : Str} {u : Value} {pos : Pos} {Q : Value → Shared → Prop} (I : Inv X pins σ H s) (hg : Gl X x) (hm : X.mg x = none) (hv : bootBuiltins x = some u) (h : Q u s)
    (hn : x ≠ "__name__" := by decide) (hd : (x == ("__debug__" : Str)) = false := by decide) : wpAny (model X.prog X.w) X.A (eval (.Name x pos) X.env) Q E s := by
  obtain ⟨mb, h1, h2⟩ := I.mod.blt
  exact Calls.Name_function_global I.ok.kind hg (Calls.loadGlobal_builtin (by rw [I.ok.glob]; exact I.mod.glob.keeps I.bk) hm (by rw [I.ok.blt]; exact h1.keeps I.bk) ((h2 x hn).trans hv) h) hd

theorem pe_glob {x : Str} {v : V} {u : Value} {pos : Pos} (hg : Gl X x) (hm : X.mg x = some u) (r : RelV v u) (hd : (x == ("__debug__" : Str)) = false := by decide) : PE X (.Name x pos) (tC v) :=
  fun _ _ _ H _ I h => ld_glob I hg hm ⟨v, H, I, r, h⟩ hd
theorem pe_bltn {x : Str} {v : V} {u : Value} {pos : Pos} (hg : Gl X x) (hm : X.mg x = none) (hv : bootBuiltins x = some u) (r : RelV v u) (hn : x ≠ "__name__" := by decide) (hd : (x == ("__debug__" : Str)) = false := by decide) : PE X (.Name x pos) (tC v) :=
  fun _ _ _ H _ I h => ld_blt I hg hm hv ⟨v, H, I, r, h⟩ hn hd



variable {a b : Expr} {ta tb : TE} {pos : Pos}
variable {tA tB' : TT} {rest : List Expr}
noncomputable def tAnd (t u : TT) : TT := fun σ H Q => t σ H fun c H1 => if c = true then u σ H1 Q else Q false H1
noncomputable def tOr (t u : TT) : TT := fun σ H Q => t σ H fun c H1 => if c = true then Q true H1 else u σ H1 Q
noncomputable def tNot (t : TT) : TT := fun σ H Q => t σ H fun c H1 => Q (!c) H1
theorem pw_and1 (ha : PT X a tA) : PW X (.BoolOp .And [a] pos) tA := by
  intro wh pins s σ H Q I h
  refine isTrue_and (thn (ha pins s σ H Q I h) fun c s1 e => ?_)
  cases c with
  | true => exact isTrue_and_nil e
  | false => exact e
theorem pw_or1 (ha : PT X a tA) : PW X (.BoolOp .Or [a] pos) tA := by
  intro wh pins s σ H Q I h
  refine isTrue_or (thn (ha pins s σ H Q I h) fun c s1 e => ?_)
  cases c with
  | false => exact isTrue_or_nil e
  | true => exact e
theorem pw_and (ha : PT X a tA) (hb : PW X (.BoolOp .And (b :: rest) pos) tB') : PW X (.BoolOp .And (a :: b :: rest) pos) (tAnd tA tB') := by
  intro wh pins s σ H Q I h
  refine isTrue_and (thn (ha pins s σ H _ I h) fun c s1 ⟨H1, I1, q1⟩ => ?_)
  cases c with
  | true => exact hb wh pins s1 σ H1 Q I1 q1
  | false => exact ⟨H1, I1, q1⟩
theorem pw_or (ha : PT X a tA) (hb : PW X (.BoolOp .Or (b :: rest) pos) tB') : PW X (.BoolOp .Or (a :: b :: rest) pos) (tOr tA tB') := by
  intro wh pins s σ H Q I h
  refine isTrue_or (thn (ha pins s σ H _ I h) fun c s1 ⟨H1, I1, q1⟩ => ?_)
  cases c with
  | true => exact ⟨H1, I1, q1⟩
  | false => exact hb wh pins s1 σ H1 Q I1 q1
theorem pt_not (ha : PT X a tA) : PT X (.UnaryOp .Not a pos) (tNot tA) := by
  intro pins s σ H Q I h
  exact isTrue_not (ha pins s σ H (fun c H1 => Q (!c) H1) I h)

noncomputable def tAndV (ta tb : TE) : TE := fun σ H Q => ta σ H fun x H1 => ∃ c, x = .bl c ∧ if c = true then tb σ H1 Q else Q (.bl false) H1
noncomputable def tOrV (ta tb : TE) : TE := fun σ H Q => ta σ H fun x H1 => ∃ c, x = .bl c ∧ if c = true then Q (.bl true) H1 else tb σ H1 Q
noncomputable def tNotV (ta : TE) : TE := fun σ H Q => ta σ H fun x H1 => ∃ c, x = .bl c ∧ Q (.bl (!c)) H1
theorem pe_one {op} {t : TE} (h : PE X a t) : PE X (.BoolOp op [a] pos) t := fun pins s σ H Q I hw => BoolOp_one (h pins s σ H Q I hw)
theorem pe_and (ha : PE X a ta) (hb : PE X (.BoolOp .And (b :: rest) pos) tb) : PE X (.BoolOp .And (a :: b :: rest) pos) (tAndV ta tb) := by
  intro pins s σ H Q I h
  refine BoolOp_and (thn (ha pins s σ H _ I h) fun v s1 ⟨x, H1, I1, r1, q1⟩ => ?_)
  obtain ⟨c, rfl, q1⟩ := q1
  cases r1
  refine wpAny_truthy_bool ?_
  cases c with
  | true => exact hb pins s1 σ H1 Q I1 q1
  | false => exact ⟨.bl false, H1, I1, rfl, q1⟩
theorem pe_or (ha : PE X a ta) (hb : PE X (.BoolOp .Or (b :: rest) pos) tb) : PE X (.BoolOp .Or (a :: b :: rest) pos) (tOrV ta tb) := by
  intro pins s σ H Q I h
  refine BoolOp_or (thn (ha pins s σ H _ I h) fun v s1 ⟨x, H1, I1, r1, q1⟩ => ?_)
  obtain ⟨c, rfl, q1⟩ := q1
  cases r1
  refine wpAny_truthy_bool ?_
  cases c with
  | false => exact hb pins s1 σ H1 Q I1 q1
  | true => exact ⟨.bl true, H1, I1, rfl, q1⟩
theorem pe_not (ha : PE X a ta) : PE X (.UnaryOp .Not a pos) (tNotV ta) := by
  intro pins s σ H Q I h
  refine UnaryOp_ (thn (ha pins s σ H _ I h) fun v s1 ⟨x, H1, I1, r1, q1⟩ => ?_)
  obtain ⟨c, rfl, q1⟩ := q1
  cases r1
  exact not_of (wpAny_truthy_bool ⟨.bl (!c), H1, I1, rfl, q1⟩)

noncomputable def tIf (t : TT) (ta tb : TE) : TE := fun σ H Q => t σ H fun c H1 => if c = true then ta σ H1 Q else tb σ H1 Q
theorem pe_ifExp {c : Expr} (hc : PT X c tA) (ha : PE X a ta) (hb : PE X b tb) : PE X (.IfExp c a b pos) (tIf tA ta tb) := by
  intro pins s σ H Q I h
  refine wpAny_IfExp (thn (hc pins s σ H _ I h) fun d s1 ⟨H1, I1, q1⟩ => ?_)
  cases d with
  | true => exact ha pins s1 σ H1 Q I1 q1
  | false => exact hb pins s1 σ H1 Q I1 q1
end
end L2

namespace L2
open PySem PySem.Spec PyProof.Rows


noncomputable def SqL (K : PySem.W.Frag) (H : Hp) (a : Addr) (xs : List V) : Prop :=
  Rd H a (.lst xs) ∨
    ∃ (o : Obj) (its : Array Value) (n : Nat), K.lookup a = some o ∧ o.cls = .type "list" ∧ o.dict = none ∧ o.data = .seq its n ∧ its.size ≤ sizeLine ∧ Vals xs its.toList
noncomputable def SqT (K : PySem.W.Frag) (H : Hp) (a : Addr) (xs : List V) : Prop :=
  Rd H a (.tup xs) ∨
    ∃ (o : Obj) (its : Array Value) (n : Nat), K.lookup a = some o ∧ o.cls = .type "tuple" ∧ o.data = .seq its n ∧ its.size ≤ sizeLine ∧ Vals xs its.toList
noncomputable def absV : Value → Option V
  | .none => some .non
  | .bool b => some (.bl b)
  | .int i _ => some (.int i)
  | .str x _ => some (.str x)
  | .bytes b _ => some (.byt b)
  | .float b _ => some (.flt b)
  | .ref a => some (.ref a)
  | .type n => some (.ty n)
  | _ => none
theorem RelV.abs {x : V} {u : Value} (r : RelV x u) : absV u = some x := by
  cases x with
  | non => cases r; rfl
  | bl _ => cases r; rfl
  | int _ => obtain ⟨t, rfl⟩ := r; rfl
  | str _ => obtain ⟨t, rfl⟩ := r; rfl
  | byt _ => obtain ⟨t, rfl⟩ := r; rfl
  | flt _ => obtain ⟨t, rfl⟩ := r; rfl
  | ref _ => cases r; rfl
  | ty _ => cases r; rfl
theorem RelV.inj {x y : V} {u : Value} (r : RelV x u) (q : RelV y u) : x = y := Option.some.inj (r.abs.symm.trans q.abs)
theorem Vals.inj : ∀ {xs ys : List V} {us : List Value}, Vals xs us → Vals ys us → xs = ys
  | _, _, _, .nil, .nil => rfl
  | _, _, _, .cons r t, .cons r' t' => by rw [r.inj r', Vals.inj t t']
section
variable {X : Cx} {pins : List (Addr × Obj)} {σ : St} {H : Hp} {s : Shared} {a : Addr} {xs ys : List V}
theorem SqL.of {K : PySem.W.Frag} (h : H a = some (.lst xs)) : SqL K H a xs := .inl (.inl h)
theorem SqT.of {K : PySem.W.Frag} (h : H a = some (.tup xs)) : SqT K H a xs := .inl (.inl h)
theorem Inv.list (I : Inv X pins σ H s) (h : SqL X.K H a xs) : ∃ its : List Value, Vals xs its ∧ PlainL s.heap a its.toArray ∧ xs.length ≤ sizeLine := by
  rcases h with h | ⟨o, its, n, hk, hc, hd, hs, hz, r⟩
  · obtain ⟨z, its, n, r, e⟩ := h.ok I.hok
    exact ⟨its, r, ⟨_, n, e, rfl, rfl, rfl⟩, z⟩
  · refine ⟨its.toList, r, ⟨o, n, I.kIn a o hk, hc, hd, by simpa using hs⟩, ?_⟩
    have e := r.length
    simp only [Array.length_toList] at e
    omega
theorem Inv.tuple (I : Inv X pins σ H s) (h : SqT X.K H a xs) : ∃ its : List Value, Vals xs its ∧ IsTup s.heap a its.toArray ∧ xs.length ≤ sizeLine := by
  rcases h with h | ⟨o, its, n, hk, hc, hs, hz, r⟩
  · obtain ⟨z, its, r, p⟩ := h.ok I.hok
    exact ⟨its, r, p, z⟩
  · refine ⟨its.toList, r, ⟨o, I.kIn a o hk, hc, n, by simpa using hs⟩, ?_⟩
    have e := r.length
    simp only [Array.length_toList] at e
    omega
theorem Inv.list_inj (I : Inv X pins σ H s) (h : SqL X.K H a xs) (h' : SqL X.K H a ys) : xs = ys := by
  obtain ⟨its, r, ⟨o, n, e, _, _, d⟩, _⟩ := I.list h
  obtain ⟨its', r', ⟨o', n', e', _, _, d'⟩, _⟩ := I.list h'
  rw [e] at e'; cases e'
  rw [d] at d'
  injection d' with d1 _
  have : its = its' := by simpa using congrArg Array.toList d1
  subst this
  exact r.inj r'
theorem Inv.tuple_inj (I : Inv X pins σ H s) (h : SqT X.K H a xs) (h' : SqT X.K H a ys) : xs = ys := by
  obtain ⟨its, r, ⟨o, e, _, n, d⟩, _⟩ := I.tuple h
  obtain ⟨its', r', ⟨o', e', _, n', d'⟩, _⟩ := I.tuple h'
  rw [e] at e'; cases e'
  rw [d] at d'
  injection d' with d1 _
  have : its = its' := by simpa using congrArg Array.toList d1
  subst this
  exact r.inj r'
end


noncomputable abbrev Cx.wish (X : Cx) (E : Value → Shared → Prop) : Cx := { X with xe := E }

noncomputable abbrev Cx.nox (X : Cx) : Cx := X.wish fun _ _ => False
theorem Cx.Ok.wish {X : Cx} (ok : X.Ok) (E : Value → Shared → Prop) : (X.wish E).Ok :=
  ⟨ok.mod, ok.kind, ok.glob, ok.blt, ok.above, ok.inj, ok.has, ok.cab, ok.hd, ok.frames, ok.stk, ok.exf, ok.bs, ok.bsz, ok.noex, ok.exfs, ok.funs, ok.frf⟩
theorem Cx.Ok.unwish {X : Cx} {E : Value → Shared → Prop} (ok : (X.wish E).Ok) : X.Ok :=
  ⟨ok.mod, ok.kind, ok.glob, ok.blt, ok.above, ok.inj, ok.has, ok.cab, ok.hd, ok.frames, ok.stk, ok.exf, ok.bs, ok.bsz, ok.noex, ok.exfs, ok.funs, ok.frf⟩
section
variable {X : Cx} {pins : List (Addr × Obj)} {σ : St} {H : Hp} {s : Shared} {E : Value → Shared → Prop}
theorem Inv.wish (I : Inv X pins σ H s) (E : Value → Shared → Prop) : Inv (X.wish E) pins σ H s := ⟨I.ok.wish E, I.os, I.bare, I.base, I.loc, I.cell, I.free, I.freeC, I.pin, I.hok, I.len⟩
theorem Inv.unwish (I : Inv (X.wish E) pins σ H s) : Inv X pins σ H s := ⟨I.ok.unwish, I.os, I.bare, I.base, I.loc, I.cell, I.free, I.freeC, I.pin, I.hok, I.len⟩
theorem SP.unwish {D : Ends} {f : Flow} {s' : Shared} (h : SP (X.wish E) pins D f s') : SP X pins D f s' := by
  cases f with
  | next => obtain ⟨σ', H', I, q⟩ := h; exact ⟨σ', H', I.unwish, q⟩
  | brk => obtain ⟨σ', H', I, q⟩ := h; exact ⟨σ', H', I.unwish, q⟩
  | cont => obtain ⟨σ', H', I, q⟩ := h; exact ⟨σ', H', I.unwish, q⟩
  | ret u => obtain ⟨v, σ', H', I, r, q⟩ := h; exact ⟨v, σ', H', I.unwish, r, q⟩
theorem PSs.nox {st : List Stmt} {t : TS} (h : PSs X.nox st t) : PSs X st t := fun pins s σ H D I hw =>
  wpAny_mono (h pins s σ H D (I.wish _) hw) (fun _ _ q => q.unwish) fun _ _ z => False.elim z
end


section
variable {X : Cx} {st : Stmt} {rest : List Stmt} {t u : TS} {e : Expr} {te : TE} {pos : Pos}
noncomputable def tNext : TS := fun D σ H => D.nx σ H
noncomputable def tSeq (t u : TS) : TS := fun D σ H => t { D with nx := u D } σ H
theorem pss_nil : PSs X [] tNext := fun _ _ σ H _ I h => wpAny_execs_nil ⟨σ, H, I, h⟩
theorem pss_cons (h1 : PS X st t) (h2 : PSs X rest u) : PSs X (st :: rest) (tSeq t u) := by
  intro pins s σ H D I h
  refine wpAny_execs_cons (thn (h1 pins s σ H { D with nx := u D } I h) fun f s1 q => ?_)
  cases f with
  | next =>
    obtain ⟨σ', H', I', q⟩ := q
    exact h2 pins s1 σ' H' D I' q
  | ret v => exact q
  | brk => exact q
  | cont => exact q
noncomputable def tBreak : TS := fun D σ H => D.bk σ H
theorem ps_pass : PS X (.Pass pos) tNext := fun _ _ σ H _ I h => wpAny_Pass ⟨σ, H, I, h⟩
theorem ps_break : PS X (.Break pos) tBreak := fun _ _ σ H _ I h => wpAny_Break ⟨σ, H, I, h⟩
theorem Inv.quiet {pins : List (Addr × Obj)} {σ : St} {H : Hp} {s : Shared} (I : Inv X pins σ H s) : interactive X.env = false := by simp [interactive, I.ok.kind]

noncomputable def tDrop (te : TE) : TS := fun D σ H => te σ H fun _ H1 => D.nx σ H1
theorem ps_expr (he : PE X e te) (hs : swapsWith e none pos.line X.env = pure false := by rfl) : PS X (.Expr e pos) (tDrop te) := by
  intro pins s σ H D I h
  exact wpAny_Expr_any (thn (he pins s σ H _ I h) fun v s1 ⟨x, H1, I1, r1, q1⟩ => ⟨σ, H1, I1, q1⟩) I.quiet hs
noncomputable def tRet (te : TE) : TS := fun D σ H => te σ H D.rt
theorem ps_ret (he : PE X e te) : PS X (.Return (some e) pos) (tRet te) := by
  intro pins s σ H D I h
  exact wpAny_Return_some (thn (he pins s σ H _ I h) fun v s1 ⟨x, H1, I1, r1, q1⟩ => ⟨x, σ, H1, I1, r1, q1⟩)
noncomputable def tRetN : TS := fun D _ H => D.rt .non H
theorem ps_retN : PS X (.Return none pos) tRetN := fun _ _ σ H _ I h => wpAny_Return_none ⟨.non, σ, H, I, rfl, h⟩
noncomputable def tIfS (c : TT) (t u : TS) : TS := fun D σ H => c σ H fun b H1 => if b = true then t D σ H1 else u D σ H1
theorem ps_if {c : Expr} {a b : List Stmt} {tc : TT} (hc : PT X c tc) (ha : PSs X a t) (hb : PSs X b u) : PS X (.If c a b pos) (tIfS tc t u) := by
  intro pins s σ H D I h
  refine wpAny_If (thn (hc pins s σ H _ I h) fun d s1 ⟨H1, I1, q1⟩ => ?_)
  cases d with
  | true => exact ha pins s1 σ H1 D I1 q1
  | false => exact hb pins s1 σ H1 D I1 q1

end


noncomputable abbrev TG := V → St → Hp → (St → Hp → Prop) → Prop
noncomputable abbrev TGs := List V → St → Hp → (St → Hp → Prop) → Prop
noncomputable def PG (X : Cx) (target : Expr) (t : TG) : Prop :=
  ∀ (pins : List (Addr × Obj)) (s : Shared) (σ : St) (H : Hp) (v : V) (u : Value) (Q : St → Hp → Prop), Inv X pins σ H s → RelV v u → t v σ H Q →
    wpAny (model X.prog X.w) X.A (assign target X.env u) (fun _ s' => ∃ σ' H', Inv X pins σ' H' s' ∧ Q σ' H') X.xe s

noncomputable def PGs (X : Cx) (ts : List Expr) (t : TGs) : Prop :=
  ∀ (pins : List (Addr × Obj)) (s : Shared) (σ : St) (H : Hp) (vs : List V) (us : List Value) (Q : St → Hp → Prop), Inv X pins σ H s → Vals vs us → t vs σ H Q →
    wpAny (model X.prog X.w) X.A (assignInOrder ((assignEach ts X.env).map (·.2)) us) (fun _ s' => ∃ σ' H', Inv X pins σ' H' s' ∧ Q σ' H') X.xe s

noncomputable abbrev TSet := V → V → V → Hp → (Hp → Prop) → Prop
noncomputable def PSet (X : Cx) (t : TSet) : Prop :=
  ∀ (pins : List (Addr × Obj)) (s : Shared) (σ : St) (H : Hp) (o i v : V) (ov iv u : Value) (Q : Hp → Prop), Inv X pins σ H s → RelV o ov → RelV i iv → RelV v u → t o i v H Q →
    wpAny (model X.prog X.w) X.A (setItem ov iv u) (fun _ s' => ∃ H', Inv X pins σ H' s' ∧ Q H') X.xe s

noncomputable abbrev TIp := V → V → Hp → VK → Prop
noncomputable def PIp (X : Cx) (op : Operator) (t : TIp) : Prop :=
  ∀ (pins : List (Addr × Obj)) (s : Shared) (σ : St) (H : Hp) (x y : V) (v u : Value) (Q : VK), Inv X pins σ H s → RelV x v → RelV y u → t x y H Q →
    wpAny (model X.prog X.w) X.A (inplaceOp op v u) (EP X pins σ Q) X.xe s
section
variable {X : Cx} {pos : Pos}
noncomputable def gName (i : Nat) : TG := fun v σ H Q => Q (σ.set i (some v)) H
theorem pg_name {i : Nat} {x : Str} (hN : X.N.Nodup) (hi : X.N[i]? = some x) (hx : Loc X.env.scope x) (hf : X.fn x = true ∨ X.env.scope.names.lookup x = some .local := by first | exact .inl rfl | exact .inr rfl | assumption) : PG X (.Name x pos) (gName i) := by
  intro pins s σ H v u Q I r h
  exact wpAny_assign_Name (store_ok I hN hi hx r (fun s' I' => ⟨_, H, I', h⟩) hf)
noncomputable def gNil : TGs := fun vs σ H Q => vs = [] ∧ Q σ H
noncomputable def gCons (t : TG) (u : TGs) : TGs := fun vs σ H Q => ∃ v r, vs = v :: r ∧ t v σ H fun σ' H' => u r σ' H' Q
theorem pgs_nil : PGs X [] gNil := by
  intro pins s σ H vs us Q I r h
  obtain ⟨e, h⟩ := h
  subst e
  cases r
  exact assignInOrder_nil ⟨σ, H, I, h⟩
theorem pgs_cons {e : Expr} {es : List Expr} {t : TG} {u : TGs} (h1 : PG X e t) (h2 : PGs X es u)
    (hs : (assignEach (e :: es) X.env).map (·.2) = assign e X.env :: (assignEach es X.env).map (·.2) := by rfl) : PGs X (e :: es) (gCons t u) := by
  intro pins s σ H vs us Q I r h
  obtain ⟨v, vr, e1, h⟩ := h
  subst e1
  cases r with
  | cons r rr =>
    rw [hs]
    refine assignInOrder_cons (thn (h1 pins s σ H _ _ _ I r h) fun _ s1 ⟨σ1, H1, I1, q1⟩ => ?_)
    exact h2 pins s1 σ1 H1 _ _ Q I1 rr q1

noncomputable def gTup (K : PySem.W.Frag) (n : Nat) (t : TGs) : TG := fun v σ H Q => ∃ a xs, v = .ref a ∧ SqT K H a xs ∧ xs.length = n ∧ t xs σ H Q
theorem pg_tup {es : List Expr} {k : Nat} {t : TGs} {n : Nat} (hc : X.calm = true) (h : PGs X es t)
    (hn : (assignEach es X.env).length = n := by rfl) (hst : (assignEach es X.env).findIdx? (·.1) = none := by rfl) : PG X (.Tuple es k pos) (gTup X.K n t) := by
  intro pins s σ H v u Q I r hw
  obtain ⟨a, xs, e1, hq, hl, hw⟩ := hw
  subst e1
  cases r
  obtain ⟨its, rv, ht, hz⟩ := I.tuple hq
  refine assign_Tuple_tuple (I.ok.hd hc) ht (by simp [hn, ← hl, rv.length]) hst fun h' hx => ?_
  have I1 : Inv X pins σ H { s with heap := h' } := I.kept (t' := s.toks) fun b o e => hx b o (Nat.ne_of_lt (Heap.lt_size e)) e
  exact h pins _ σ H xs _ Q I1 (by simpa using rv) hw

noncomputable def gSub (to ti : TE) (t : TSet) : TG := fun v σ H Q => to σ H fun o H1 => ti σ H1 fun i H2 => t o i v H2 fun H3 => Q σ H3
theorem pg_sub {o i : Expr} {to ti : TE} {t : TSet} (ho : PE X o to) (hi : PE X i ti) (hs : PSet X t)
    (ha : ∀ v, assign (.Subscript o i pos) X.env v = (do
      let ov ← holding [v] (eval o X.env)
      let iv ← holding [v, ov] (eval i X.env)
      standAt pos
      holding [v, ov, iv] (setItem ov iv v)
      release [v, ov, iv] []) := by intro _; rfl) : PG X (.Subscript o i pos) (gSub to ti t) := by
  intro pins s σ H v u Q I r h
  rw [ha]
  refine wpAny_bind (wpAny_holding (thn (ho pins s σ H _ I h) fun ov s1 ⟨x, H1, I1, r1, q1⟩ => ?_))
  refine wpAny_bind (wpAny_holding (thn (hi pins s1 σ H1 _ I1 q1) fun iv s2 ⟨y, H2, I2, r2, q2⟩ => ?_))
  refine wpAny_bind (wpAny_standAt (wpAny_bind (wpAny_holding (thn (hs pins s2 σ H2 x y v ov iv u _ I2 r1 r2 r q2) fun _ s3 ⟨H3, I3, q3⟩ => ?_))))
  exact wpAny_release ⟨σ, H3, I3, q3⟩

noncomputable def tAsg (te : TE) (g : TG) : TS := fun D σ H => te σ H fun x H1 => g x σ H1 D.nx
theorem ps_asg {tg e : Expr} {te : TE} {g : TG} (he : PE X e te) (hg : PG X tg g) (hs : swapsWithSole [tg] e pos.line X.env = pure false := by rfl) (hw : swappedStores [tg] e X.env = pure none := by rfl)
    (h1 : (assignEach [tg] X.env).map (·.2) = [assign tg X.env] := by rfl) : PS X (.Assign [tg] e pos) (tAsg te g) := by
  intro pins s σ H D I h
  refine wpAny_Assign_stores (thn (he pins s σ H _ I h) fun v s1 ⟨x, H1, I1, r1, q1⟩ => ?_) hs hw
  rw [h1]
  exact thn (hg pins s1 σ H1 x v _ I1 r1 q1) fun _ s2 q => q

theorem ps_set {i : Nat} {x : Str} {e : Expr} {te : TE} {pos' : Pos} (hN : X.N.Nodup) (hi : X.N[i]? = some x) (hx : Loc X.env.scope x) (he : PE X e te) (hs : swapsWith e (some (.Name x pos')) pos.line X.env = pure false := by rfl) (hf : X.fn x = true ∨ X.env.scope.names.lookup x = some .local := by first | exact .inl rfl | exact .inr rfl | assumption) :
    PS X (.Assign [.Name x pos'] e pos) (tAsg te (gName i)) := by
  intro pins s σ H D I h
  refine wpAny_Assign_Name (thn (he pins s σ H _ I h) fun v s1 ⟨y, H1, I1, r1, q1⟩ => ?_) hs
  exact store_ok I1 hN hi hx r1 (fun s2 I2 => ⟨_, H1, I2, q1⟩) hf

noncomputable def tAug (i : Nat) (te : TE) (ti : TIp) : TS := fun D σ H => ∃ x, σ[i]? = some (some x) ∧ te σ H fun y H1 => ti x y H1 fun z H2 => D.nx (σ.set i (some z)) H2
theorem ps_aug {i : Nat} {x : Str} {e : Expr} {te : TE} {op : Operator} {ti : TIp} {pos' : Pos} (hN : X.N.Nodup) (hi : X.N[i]? = some x) (hx : Loc X.env.scope x) (he : PE X e te) (ho : PIp X op ti) (hf : X.fn x = true ∨ X.env.scope.names.lookup x = some .local := by first | exact .inl rfl | exact .inr rfl | assumption) :
    PS X (.AugAssign (.Name x pos') op e pos) (tAug i te ti) := by
  intro pins s σ H D I h
  obtain ⟨v, e1, h⟩ := h
  obtain ⟨m, hn, hl⟩ := I.loc
  have vis : Vis X.env.scope x := by rcases hx with k | k; exact .inl k; exact .inr (.inl k)
  obtain ⟨u, r, l⟩ := hl i x v hi e1 vis
  refine wpAny_AugAssign_Name ?_
  have go : wpAny (model X.prog X.w) X.A (eval e X.env) (fun w s₂ => wpAny (model X.prog X.w) X.A (inplaceOp op u w) (fun r s₃ => wpAny (model X.prog X.w) X.A (storeName X.env x r) (fun _ => SP X pins D .next) X.xe s₃) X.xe s₂) X.xe s := by
    refine thn (he pins s σ H _ I h) fun w s1 ⟨y, H1, I1, r1, q1⟩ => ?_
    refine thn (ho pins s1 σ H1 v y u w _ I1 r r1 q1) fun z s2 ⟨zv, H2, I2, r2, q2⟩ => ?_
    exact store_ok I2 hN hi hx r2 (fun s3 I3 => ⟨_, H2, I3, q2⟩) hf
  rcases l with ⟨hk, hm⟩ | ⟨hk, c, hc, hcell⟩
  · exact wpAny_loadName_local I.ok.kind hk hn hm go
  · rcases hk with hk | hk
    · exact wpAny_loadName_cell I.ok.kind hk hc hcell go
    · rcases hx with k | k
      · have : X.env.scope.names.lookup x = some .free := hk
        rw [k] at this; cases this
      · have : X.env.scope.names.lookup x = some .free := hk
        rw [k] at this; cases this

noncomputable def ipI (f : Int → Int → Int) : TIp := fun x y H Q => ∃ i j, x = .int i ∧ y = .int j ∧ Q (.int (f i j)) H
theorem ip_add : PIp X .Add (ipI fun i j => i + j) := by
  intro pins s σ H x y v u Q I r1 r2 h
  obtain ⟨i, j, e1, e2, q⟩ := h
  subst e1; subst e2
  obtain ⟨t, rfl⟩ := r1
  obtain ⟨t', rfl⟩ := r2
  exact iadd_int ⟨.int _, H, I.tok _, ⟨_, rfl⟩, q⟩
end


section
variable {X : Cx} {pos : Pos}

noncomputable def tWhile (c : TT) (tb : TS) : TS := fun D σ H => ∃ W : Nat → St → Hp → Prop, (∃ m, W m σ H) ∧ ∀ m σ H, W m σ H →
  c σ H fun b H1 => if b = true then ∃ N : St → Hp → Prop, (∀ σ' H', N σ' H' → ∃ m', m' < m ∧ W m' σ' H') ∧ tb { D with nx := N, ct := N, bk := D.nx } σ H1 else D.nx σ H1
theorem ps_while {c : Expr} {body : List Stmt} {tc : TT} {tb : TS} (hp : PassesOwn (model X.prog X.w) X.A X.env X.xe) (hc : PT X c tc) (hb : PSs X body tb) : PS X (.While c body [] pos) (tWhile tc tb) := by
  intro pins s σ H D I h
  obtain ⟨W, ⟨m0, w0⟩, turn⟩ := h
  refine wpAny_While (codeAny_whileLoop (fun n s' => ∃ σ' H', Inv X pins σ' H' s' ∧ W n σ' H') ?_ m0 ⟨σ, H, I, w0⟩)
  rintro n s1 ⟨σ1, H1, I1, w1⟩
  refine wpAny_passesOwn hp (thn (hc pins s1 σ1 H1 _ I1 (turn n σ1 H1 w1)) fun b s2 ⟨H2, I2, q2⟩ => ?_)
  cases b with
  | true =>
    obtain ⟨N, hN, q2⟩ := q2
    rw [if_pos rfl]
    refine wpAny_passesOwn hp (thn (hb pins s2 σ1 H2 _ I2 q2) fun f s3 q3 => ?_)
    cases f with
    | next =>
      obtain ⟨σ3, H3, I3, n3⟩ := q3
      obtain ⟨m', hm, w3⟩ := hN σ3 H3 n3
      exact ⟨m', hm, σ3, H3, I3, w3⟩
    | cont =>
      obtain ⟨σ3, H3, I3, n3⟩ := q3
      obtain ⟨m', hm, w3⟩ := hN σ3 H3 n3
      exact ⟨m', hm, σ3, H3, I3, w3⟩
    | brk => exact q3
    | ret v => exact q3
  | false =>
    rw [if_neg Bool.false_ne_true]
    exact wpAny_execs_nil ⟨σ1, H2, I2, q2⟩
end



structure It where
  go : Nat → Hp → Prop
  yld : Nat → Hp → V → Hp → Prop
  stop : Nat → Hp → Prop

noncomputable def FpOk (X : Cx) (pins : List (Addr × Obj)) (H : Hp) (b : Addr) : Prop :=
  H b = none ∧ b ≠ X.env.locals ∧ b ∉ X.fs ∧ (b ∈ X.ex ∨ X.s₀.heap.objs.size ≤ b) ∧ (∀ x c, X.env.cells.lookup x = some c → c ≠ b) ∧ ∀ p ∈ X.pn ++ pins, p.1 ≠ b
theorem Inv.fpOk {X : Cx} {pins : List (Addr × Obj)} {σ : St} {H H' : Hp} {s : Shared} {b : Addr} (I : Inv X pins σ H s) (hb : s.heap.objs.size ≤ b) (hn : H' b = none) : FpOk X pins H' b := by
  refine ⟨hn, Nat.ne_of_gt (Nat.lt_of_lt_of_le I.lt hb), I.nofs hb, .inr (Nat.le_trans I.sz hb), fun x c e z => ?_, fun p hp z => ?_⟩
  · obtain ⟨v, q⟩ := I.cell x c e
    exact absurd (Nat.lt_of_lt_of_le q.lt (by rw [z]; exact hb)) (Nat.lt_irrefl _)
  · exact absurd (Nat.lt_of_lt_of_le (Heap.lt_size (I.pin p hp).1) (by rw [z]; exact hb)) (Nat.lt_irrefl _)
structure Turn (P : Program) (w : World) (K : PySem.W.Frag) (tg : Expr) (J : It) (fp : List Addr) (it : Addr) (tn : Nat → Heap → Prop) : Prop where
  mem : it ∈ fp
  obj : ∀ i h, tn i h → ∀ b ∈ fp, ∃ o, h.get? b = some o ∧ ∀ v, o.data ≠ .cell v
  keep : ∀ i h h', tn i h → (∀ b ∈ fp, ∀ o, h.get? b = some o → h'.get? b = some o) → tn i h'
  item : ∀ (X : Cx), X.prog = P → X.w = w → X.K = K → X.calm = true → ∀ (i : Nat) (pins : List (Addr × Obj)) (s : Shared) (σ : St) (H : Hp) (E : Value → Shared → Prop), Inv X pins σ H s → (∀ b ∈ fp, FpOk X pins H b) → tn i s.heap → J.go i H →
    wpAny (model P w) X.A (pyNext (.ref it)) (fun r s1 => ∃ u, r = some u ∧
      wpAny (model P w) X.A (letOwnedTupleGo tg (.ref it) u) (fun _ s2 => ∃ x H', Inv X pins σ H' s2 ∧ RelV x u ∧ J.yld i H x H' ∧ tn (i + 1) s2.heap ∧ ∀ b ∈ fp, H' b = none) E s1) E s
  done : ∀ (X : Cx), X.prog = P → X.w = w → X.K = K → X.calm = true → ∀ (i : Nat) (pins : List (Addr × Obj)) (s : Shared) (σ : St) (H : Hp) (E : Value → Shared → Prop), Inv X pins σ H s → (∀ b ∈ fp, FpOk X pins H b) → tn i s.heap → J.stop i H →
    wpAny (model P w) X.A (pyNext (.ref it)) (fun r s1 => r = none ∧ Inv X pins σ H s1) E s
  self : ∀ (A : Around) (i : Nat) (s : Shared) (Q : Value → Shared → Prop) (E : Value → Shared → Prop), tn i s.heap → Q (.ref it) s → wpAny (model P w) A (pyIter (.ref it)) Q E s
noncomputable abbrev TI := St → Hp → (It → Hp → Prop) → Prop

noncomputable def PIE (X : Cx) (pins : List (Addr × Obj)) (σ : St) (tg : Expr) (R : It → Hp → Prop) (itv : Value) (s2 : Shared) : Prop :=
  ∃ (it : Addr) (fp : List Addr) (tn : Nat → Heap → Prop) (J : It) (H' : Hp), itv = .ref it ∧ Inv X pins σ H' s2 ∧ Turn X.prog X.w X.K tg J fp it tn ∧ tn 0 s2.heap ∧ (∀ b ∈ fp, FpOk X pins H' b) ∧ R J H'
noncomputable def PI (X : Cx) (tg iter : Expr) (wi : TI) : Prop :=
  ∀ (pins : List (Addr × Obj)) (s : Shared) (σ : St) (H : Hp) (R : It → Hp → Prop), Inv X pins σ H s → wi σ H R →
    wpAny (model X.prog X.w) X.A (eval iter X.env) (fun v s1 => wpAny (model X.prog X.w) X.A (pyIter v) (PIE X pins σ tg R) X.xe s1) X.xe s


theorem go_of {M : Model} {A : Around} {E : Value → Shared → Prop} {s : Shared} {tg : Expr} {it : Addr} {u : Value} {o : Obj} {n : String} {vs : Array Value} {Q : Unit → Shared → Prop} (ho : s.heap.get? it = some o) (hc : o.cls = .type n) (hd : o.data = .fields vs)
    (hn : ["enumerate", "zip", "dict_itemiterator", "dict_reverseitemiterator", "odict_iterator", "itertools.zip_longest", "itertools.pairwise"].contains n = false) (hQ : Q () s) : wpAny M A (letOwnedTupleGo tg (.ref it) u) Q E s := by
  unfold letOwnedTupleGo
  cases tg <;> first
    | exact wpAny_pure hQ
    | (cases u <;> first
        | exact wpAny_pure hQ
        | (refine wpAny_bind (wpAny_load ho ?_)
           rw [hc, hd]
           show wpAny M A (if (["enumerate", "zip", "dict_itemiterator", "dict_reverseitemiterator", "odict_iterator", "itertools.zip_longest", "itertools.pairwise"].contains n && vs[0]? == some (rawInt _)) = true then _ else _) Q E s
           rw [if_neg (by intro h; rw [hn, Bool.false_and] at h; cases h)]
           exact wpAny_pure hQ))


noncomputable def Itl (K : PySem.W.Frag) (a : Addr) : It :=
  ⟨fun i H => ∃ xs x, SqL K H a xs ∧ xs[i]? = some x, fun i H x H' => H' = H ∧ ∀ xs, SqL K H a xs → xs[i]? = some x, fun i H => ∃ xs, SqL K H a xs ∧ xs.length ≤ i⟩
noncomputable def Itt (K : PySem.W.Frag) (a : Addr) : It :=
  ⟨fun i H => ∃ xs x, SqT K H a xs ∧ xs[i]? = some x, fun i H x H' => H' = H ∧ ∀ xs, SqT K H a xs → xs[i]? = some x, fun i H => ∃ xs, SqT K H a xs ∧ xs.length ≤ i⟩

noncomputable def Itr (lo : Int) (n : Nat) : It := ⟨fun i _ => i < n, fun i H x H' => H' = H ∧ x = .int (lo + i), fun i _ => n ≤ i⟩
theorem turn_list {P : Program} {w : World} {K : PySem.W.Frag} {tg : Expr} (a it : Addr) : Turn P w K tg (Itl K a) [it] it (fun i h => h.IsListIter it a i) where
  mem := by simp
  obj := fun i h st b hb => by
    have e : b = it := by simpa using hb
    subst e
    obtain ⟨o, e, c, d⟩ := st
    exact ⟨o, e, fun v z => by rw [d] at z; cases z⟩
  keep := fun i h h' st k => st.at fun o e => k it (by simp) o e
  item := by
    intro X hP hw hK hc i pins s σ H E I hf st hg
    subst hP hw hK
    obtain ⟨xs, x, hq, hx⟩ := hg
    obtain ⟨its, rv, p, hz⟩ := I.list hq
    obtain ⟨u, hu, ru⟩ := rv.get hx
    obtain ⟨f0, f1, f2, f3, f4, f5⟩ := hf it (by simp)
    refine wpAny_pyNext_list_item st p.isList (x := u) (by simpa using hu) fun h' st' sb => ?_
    have I1 : Inv X pins σ H { s with heap := h' } := I.turned (t' := s.toks) (fun b o hb e => (sb.2 b hb).trans e) f0 f1 f3 f4 f5
    obtain ⟨o, e, c, d⟩ := id st'
    exact ⟨u, rfl, go_of (s := { s with heap := h' }) e c d (by decide) ⟨x, H, I1, ru, ⟨rfl, fun ys hy => by rw [I.list_inj hy hq]; exact hx⟩, st', fun b hb => (hf b hb).1⟩⟩
  done := by
    intro X hP hw hK hc i pins s σ H E I hf st hg
    subst hP hw hK
    obtain ⟨xs, hq, hx⟩ := hg
    obtain ⟨its, rv, p, hz⟩ := I.list hq
    obtain ⟨f0, f1, f2, f3, f4, f5⟩ := hf it (by simp)
    have hl := rv.length
    exact wpAny_pyNext_list_end (I.ok.hd hc) st p.isList (by simp; omega) fun h' eb => ⟨rfl, I.turned (t' := s.toks) (fun b o hb e => eb b o hb e) f0 f1 f3 f4 f5⟩
  self := fun _ _ _ _ _ st h => wpAny_pyIter_listiter st h
theorem turn_tuple {P : Program} {w : World} {K : PySem.W.Frag} {tg : Expr} (a it : Addr) : Turn P w K tg (Itt K a) [it] it (fun i h => h.IsTupleIter it a i) where
  mem := by simp
  obj := fun i h st b hb => by
    have e : b = it := by simpa using hb
    subst e
    obtain ⟨o, e, c, d⟩ := st
    exact ⟨o, e, fun v z => by rw [d] at z; cases z⟩
  keep := fun i h h' st k => st.at fun o e => k it (by simp) o e
  item := by
    intro X hP hw hK hc i pins s σ H E I hf st hg
    subst hP hw hK
    obtain ⟨xs, x, hq, hx⟩ := hg
    obtain ⟨its, rv, p, hz⟩ := I.tuple hq
    obtain ⟨u, hu, ru⟩ := rv.get hx
    obtain ⟨f0, f1, f2, f3, f4, f5⟩ := hf it (by simp)
    refine wpAny_pyNext_tuple_item st (show s.heap.IsTuple a its.toArray from p) (x := u) (by simpa using hu) fun h' st' sb => ?_
    have I1 : Inv X pins σ H { s with heap := h' } := I.turned (t' := s.toks) (fun b o hb e => (sb.2 b hb).trans e) f0 f1 f3 f4 f5
    obtain ⟨o, e, c, d⟩ := id st'
    exact ⟨u, rfl, go_of (s := { s with heap := h' }) e c d (by decide) ⟨x, H, I1, ru, ⟨rfl, fun ys hy => by rw [I.tuple_inj hy hq]; exact hx⟩, st', fun b hb => (hf b hb).1⟩⟩
  done := by
    intro X hP hw hK hc i pins s σ H E I hf st hg
    subst hP hw hK
    obtain ⟨xs, hq, hx⟩ := hg
    obtain ⟨its, rv, p, hz⟩ := I.tuple hq
    obtain ⟨f0, f1, f2, f3, f4, f5⟩ := hf it (by simp)
    have hl := rv.length
    exact wpAny_pyNext_tuple_end (I.ok.hd hc) st (show s.heap.IsTuple a its.toArray from p) (by simp; omega) fun h' eb => ⟨rfl, I.turned (t' := s.toks) (fun b o hb e => eb b o hb e) f0 f1 f3 f4 f5⟩
  self := fun _ _ _ _ _ st h => wpAny_pyIter_tupleiter st h
theorem turn_range {P : Program} {w : World} {K : PySem.W.Frag} {tg : Expr} (it : Addr) (lo : Int) (n : Nat) : Turn P w K tg (Itr lo n) [it] it (fun i h => IsRangeIter h it (lo + (i : Nat) * 1) ((n : Int) - (i : Nat)) 1) where
  mem := by simp
  obj := fun i h st b hb => by
    have e : b = it := by simpa using hb
    subst e
    exact ⟨_, st, fun v z => by
      have z' : Data.fields _ = Data.cell v := z
      cases z'⟩
  keep := fun i h h' st k => k it (by simp) _ st
  item := by
    intro X hP hw hK hc i pins s σ H E I hf st hg
    subst hP hw hK
    obtain ⟨f0, f1, f2, f3, f4, f5⟩ := hf it (by simp)
    have W := Walks.range (prog := X.prog) (w := X.w) (I.ok.hd hc) it lo 1 n
    refine W.item i s _ _ hg st fun v h' tk hv st' kk => ?_
    obtain ⟨t, rfl⟩ := hv
    have I1 : Inv X pins σ H { s with heap := h', toks := tk } := I.turned (fun b o hb e => kk b o (by simpa using hb) e) f0 f1 f3 f4 f5
    refine ⟨_, rfl, go_of (s := { s with heap := h', toks := tk }) (n := "range_iterator") st' rfl rfl (by decide) ⟨.int (lo + i), H, I1, ⟨t, ?_⟩, ⟨rfl, rfl⟩, st', fun b hb => (hf b hb).1⟩⟩
    rw [Int.mul_one]
  done := by
    intro X hP hw hK hc i pins s σ H E I hf st hg
    subst hP hw hK
    obtain ⟨f0, f1, f2, f3, f4, f5⟩ := hf it (by simp)
    exact wpAny_pyNext_range_end (I.ok.hd hc) st (by have : n ≤ i := hg; omega) fun h' eb => ⟨rfl, I.turned (t' := s.toks) (fun b o hb e => eb b o hb e) f0 f1 f3 f4 f5⟩
  self := fun _ _ _ _ _ st h => wpAny_pyIter_rangeiter st h
end L2

namespace L2
open PySem PySem.Spec PyProof.Rows
section
variable {X : Cx} {tg : Expr}
theorem range_it {pins : List (Addr × Obj)} {σ : St} {H : Hp} {s : Shared} {R : It → Hp → Prop} {E : Value → Shared → Prop} {lo hi : Int} {t u v : Tok} {tk : Nat} (I : Inv X pins σ H s) (h1 : -(2 ^ 62) ≤ lo) (h2 : lo < 2 ^ 62) (h3 : -(2 ^ 62) ≤ hi) (h4 : hi < 2 ^ 62)
    (q : R (Itr lo (hi - lo).toNat) H) : wpAny (model X.prog X.w) X.A (pyIter (.ref s.heap.objs.size)) (PIE X pins σ tg R) E { s with heap := s.heap.push { cls := .type "range", data := .fields #[.int lo t, .int hi u, .int 1 v] }, toks := tk } := by
  refine wpAny_pyIter_range (IsRange.new ..) (small_one h1 h2 h3 h4) ?_
  have I1 : Inv X pins σ H { s with heap := s.heap.push { cls := .type "range", data := .fields #[.int lo t, .int hi u, .int 1 v] }, toks := tk } := I.kept fun b o e => Heap.get?_push_of_some _ e
  refine ⟨(s.heap.push { cls := .type "range", data := .fields #[.int lo t, .int hi u, .int 1 v] }).objs.size, [(s.heap.push { cls := .type "range", data := .fields #[.int lo t, .int hi u, .int 1 v] }).objs.size], _, _, H, rfl,
    I1.kept (t' := tk) fun b o e => Heap.get?_push_of_some _ e, turn_range _ lo (hi - lo).toNat, ?_, fun b hb => ?_, q⟩
  · have e1 : lo + ((0 : Nat) : Int) * 1 = lo := by simp
    have e2 : (((hi - lo).toNat : Nat) : Int) - ((0 : Nat) : Int) = Builtin.Range.rangeSize lo hi 1 := by rw [rangeSize_one]; split <;> omega
    show IsRangeIter _ _ (lo + ((0 : Nat) : Int) * 1) ((((hi - lo).toNat : Nat) : Int) - ((0 : Nat) : Int)) 1
    rw [e1, e2]
    exact Heap.get?_push_size _ rfl
  · have e : b = (s.heap.push { cls := .type "range", data := .fields #[.int lo t, .int hi u, .int 1 v] }).objs.size := by simpa using hb
    subst e
    exact I1.fpOk (Nat.le_refl _) (I1.hok.fresh (Nat.le_refl _))
noncomputable def iRng1 (ta : TA) : TI := fun σ H R => ta σ H fun vs H1 => ∃ j : Int, vs = [.int j] ∧ -(2 ^ 62) ≤ j ∧ j < 2 ^ 62 ∧ R (Itr 0 j.toNat) H1
noncomputable def iRng2 (ta : TA) : TI := fun σ H R => ta σ H fun vs H1 => ∃ i j : Int, vs = [.int i, .int j] ∧ (-(2 ^ 62) ≤ i ∧ i < 2 ^ 62 ∧ -(2 ^ 62) ≤ j ∧ j < 2 ^ 62) ∧ R (Itr i (j - i).toNat) H1
theorem pi_range1 {a : Expr} {ta : TA} {p pos : Pos} (hg : Gl X "range") (hm : X.mg "range" = none) (ha : PA X [a] ta) (hs : starEach [a] X.env = [(false, eval a X.env)] := by rfl) : PI X tg (.Call (.Name "range" p) [a] [] pos) (iRng1 ta) := by
  intro pins s σ H R I h
  refine Call_ (ld_blt I hg hm boot_range (PyProof.Rows.callWith_type1 (thn (ha pos pins s σ H _ I h) fun us s1 ⟨vs, H1, I1, r1, q1⟩ => ?_) hs rfl))
  obtain ⟨j, e, q1, q2, q⟩ := q1
  subst e
  cases r1 with
  | cons r rr =>
    cases rr
    obtain ⟨t, rfl⟩ := r
    exact call_range_1 (range_it I1 (by omega) (by omega) q1 q2 (by simpa using q))
theorem pi_range2 {a b : Expr} {ta : TA} {p pos : Pos} (hg : Gl X "range") (hm : X.mg "range" = none) (ha : PA X [a, b] ta) (hs : starEach [a, b] X.env = [(false, eval a X.env), (false, eval b X.env)] := by rfl) (hs2 : starEach [b] X.env = [(false, eval b X.env)] := by rfl) :
    PI X tg (.Call (.Name "range" p) [a, b] [] pos) (iRng2 ta) := by
  intro pins s σ H R I h
  refine Call_ (ld_blt I hg hm boot_range (PyProof.Rows.callWith_type1 (thn (ha pos pins s σ H _ I h) fun us s1 ⟨vs, H1, I1, r1, q1⟩ => ?_) (by rw [hs, hs2]) (by rw [hs2]; rfl)))
  obtain ⟨i, j, e, ⟨q1, q2, q3, q4⟩, q⟩ := q1
  subst e
  cases r1 with
  | cons r rr =>
    cases rr with
    | cons r' rr =>
      cases rr
      obtain ⟨t, rfl⟩ := r
      obtain ⟨t', rfl⟩ := r'
      exact call_range_2 (range_it I1 q1 q2 q3 q4 q)



noncomputable def tFor (wi : TI) (g : TG) (tb : TS) : TS := fun D σ H => wi σ H fun J H1 => ∃ W : Nat → Nat → St → Hp → Prop, (∃ m, W 0 m σ H1) ∧ ∀ i m σ H, W i m σ H →
  (J.stop i H ∧ D.nx σ H) ∨ (J.go i H ∧ ∃ N : St → Hp → Prop, (∀ σ' H', N σ' H' → ∃ m', m' < m ∧ W (i + 1) m' σ' H') ∧ ∀ x H', J.yld i H x H' → g x σ H' fun σ2 H2 => tb { D with nx := N, ct := N, bk := D.nx } σ2 H2)

noncomputable def pinsAt (fp : List Addr) (h : Heap) : List (Addr × Obj) := fp.filterMap fun b => (h.get? b).map fun o => (b, o)
theorem mem_pinsAt {fp : List Addr} {h : Heap} {b : Addr} {o : Obj} (hb : b ∈ fp) (e : h.get? b = some o) : (b, o) ∈ pinsAt fp h := List.mem_filterMap.mpr ⟨b, hb, by rw [e]; rfl⟩
theorem of_pinsAt {fp : List Addr} {h : Heap} {p : Addr × Obj} (hp : p ∈ pinsAt fp h) : p.1 ∈ fp ∧ h.get? p.1 = some p.2 := by
  obtain ⟨b, hb, e⟩ := List.mem_filterMap.mp hp
  cases q : h.get? b with
  | none => rw [q] at e; cases e
  | some o =>
    rw [q] at e
    have e' : (b, o) = p := Option.some.inj e
    subst e'
    exact ⟨hb, q⟩
theorem Inv.pinned {pins : List (Addr × Obj)} {σ : St} {H : Hp} {s : Shared} {fp : List Addr} (I : Inv X pins σ H s) (hf : ∀ b ∈ fp, FpOk X pins H b) (ho : ∀ b ∈ fp, ∃ o, s.heap.get? b = some o ∧ ∀ v, o.data ≠ .cell v) : Inv X (pins ++ pinsAt fp s.heap) σ H s :=
  I.pins_of fun p hp => (List.mem_append.mp hp).elim (fun z => I.pin p (List.mem_append_right _ z)) fun z => by
    obtain ⟨hb, e⟩ := of_pinsAt z
    obtain ⟨f0, f1, f2, _⟩ := hf p.1 hb
    obtain ⟨o, e', d⟩ := ho p.1 hb
    rw [e] at e'; cases e'
    exact ⟨e, f0, f1, f2, d⟩
theorem Inv.unpinned {pins pl : List (Addr × Obj)} {σ : St} {H : Hp} {s : Shared} (I : Inv X (pins ++ pl) σ H s) : Inv X pins σ H s := I.pins_of fun p hp => I.pin p (List.mem_append_right _ (List.mem_append_left _ hp))
theorem ps_for {iter : Expr} {body : List Stmt} {wi : TI} {g : TG} {tb : TS} {pos : Pos} (hp : PassesOwn (model X.prog X.w) X.A X.env X.xe) (hc : X.calm = true) (hi : PI X tg iter wi) (hg : PG X tg g) (hb : PSs X body tb)
    (hs : ∀ x, foldedSetIterable iter X.env x = pure x := by intro _; rfl) : PS X (.For tg iter body [] pos) (tFor wi g tb) := by
  intro pins s σ H D I h
  refine wpAny_For (thn (hi pins s σ H _ I h) fun v s1 h1 => thn h1 fun itv s2 h2 => ?_) hs
  obtain ⟨it, fp, tn, J, H2, e, I2, T, st2, f2, W, ⟨m0, w0⟩, turn⟩ := h2
  subst e
  -- what stays true of the iterator's objects through the loop
  have stat : ∀ {H' : Hp}, (∀ b ∈ fp, H' b = none) → ∀ b ∈ fp, FpOk X pins H' b := fun hn b hb => ⟨hn b hb, (f2 b hb).2⟩
  refine codeAny_forLoop_any (fun n s' => ∃ i σ' H', Inv X pins σ' H' s' ∧ tn i s'.heap ∧ (∀ b ∈ fp, H' b = none) ∧ W i n σ' H') ?_ m0 ⟨0, σ, H2, I2, st2, fun b hb => (f2 b hb).1, w0⟩
  rintro n s3 ⟨i, σ3, H3, I3, st3, fr3, w3⟩
  rcases turn i n σ3 H3 w3 with ⟨stop, qn⟩ | ⟨go, N, hN, step⟩
  · refine wpAny_passesOwn hp (thn (T.done X rfl rfl rfl hc i pins s3 σ3 H3 X.xe I3 (stat fr3) st3 stop) fun r s4 ⟨hr, I4⟩ => ?_)
    subst hr
    exact wpAny_execs_nil ⟨σ3, H3, I4, qn⟩
  · refine wpAny_passesOwn hp (thn (T.item X rfl rfl rfl hc i pins s3 σ3 H3 X.xe I3 (stat fr3) st3 go) fun r s4 ⟨u, hr, h4⟩ => ?_)
    subst hr
    refine wpAny_passesOwn hp (thn h4 fun _ s5 ⟨x, H5, I5, r5, y5, st5, fr5⟩ => ?_)
    have I5' := I5.pinned (stat fr5) (T.obj _ _ st5)
    refine wpAny_passesOwn hp (thn (hg _ s5 σ3 H5 x u _ I5' r5 (step x H5 y5)) fun _ s6 ⟨σ6, H6, I6, q6⟩ => ?_)
    refine wpAny_passesOwn hp (thn (hb _ s6 σ6 H6 _ I6 q6) fun f s7 q7 => ?_)
    have again : ∀ {σ7 : St} {H7 : Hp}, Inv X (pins ++ pinsAt fp s5.heap) σ7 H7 s7 → N σ7 H7 → ∃ m, m < n ∧ ∃ i σ' H', Inv X pins σ' H' s7 ∧ tn i s7.heap ∧ (∀ b ∈ fp, H' b = none) ∧ W i m σ' H' := fun {σ7 H7} I7 n7 => by
      obtain ⟨m', hm, w7⟩ := hN σ7 H7 n7
      refine ⟨m', hm, i + 1, σ7, H7, I7.unpinned, T.keep _ _ _ st5 fun b hb o e => (I7.pin (b, o) (List.mem_append_right _ (List.mem_append_right _ (mem_pinsAt hb e)))).1, fun b hb => ?_, w7⟩
      obtain ⟨o, e, d⟩ := T.obj _ _ st5 b hb
      exact (I7.pin (b, o) (List.mem_append_right _ (List.mem_append_right _ (mem_pinsAt hb e)))).2.1
    cases f with
    | next => obtain ⟨σ7, H7, I7, n7⟩ := q7; exact again I7 n7
    | cont => obtain ⟨σ7, H7, I7, n7⟩ := q7; exact again I7 n7
    | brk => obtain ⟨σ7, H7, I7, q7⟩ := q7; exact ⟨σ7, H7, I7.unpinned, q7⟩
    | ret v => obtain ⟨x7, σ7, H7, I7, r7, q7⟩ := q7; exact ⟨x7, σ7, H7, I7.unpinned, r7, q7⟩
end



end L2

namespace L2
open PySem PySem.Spec PyProof.Rows

noncomputable abbrev R2 := V → V → Hp → VK → Prop

noncomputable def OpR (X : Cx) (f : Value → Value → Sem Value) (r : R2) : Prop :=
  ∀ (pins : List (Addr × Obj)) (s : Shared) (σ : St) (H : Hp) (x y : V) (v u : Value) (Q : VK), Inv X pins σ H s → RelV x v → RelV y u → r x y H Q →
    wpAny (model X.prog X.w) X.A (f v u) (EP X pins σ Q) X.xe s

noncomputable def UnR (X : Cx) (f : Value → Sem Value) (r : V → Hp → VK → Prop) : Prop :=
  ∀ (pins : List (Addr × Obj)) (s : Shared) (σ : St) (H : Hp) (x : V) (v : Value) (Q : VK), Inv X pins σ H s → RelV x v → r x H Q →
    wpAny (model X.prog X.w) X.A (f v) (EP X pins σ Q) X.xe s

noncomputable def CallR (X : Cx) (f : Value) (r : List V → Hp → VK → Prop) : Prop :=
  ∀ (pins : List (Addr × Obj)) (s : Shared) (σ : St) (H : Hp) (xs : List V) (us : List Value) (Q : VK), Inv X pins σ H s → Vals xs us → r xs H Q →
    wpAny (model X.prog X.w) X.A (call f us) (EP X pins σ Q) X.xe s

noncomputable def TruR (X : Cx) (r : V → Hp → (Bool → Hp → Prop) → Prop) : Prop :=
  ∀ (pins : List (Addr × Obj)) (s : Shared) (σ : St) (H : Hp) (x : V) (v : Value) (Q : Bool → Hp → Prop), Inv X pins σ H s → RelV x v → r x H Q →
    wpAny (model X.prog X.w) X.A (truthy v) (TP X pins σ Q) X.xe s

noncomputable def tOp (r : R2) (ta tb : TE) : TE := fun σ H Q => ta σ H fun x H1 => tb σ H1 fun y H2 => r x y H2 Q
noncomputable def tUn (r : V → Hp → VK → Prop) (ta : TE) : TE := fun σ H Q => ta σ H fun x H1 => r x H1 Q

noncomputable def rI (C : Int → Int → Prop) (g : Int → Int → V) : R2 := fun x y H Q => ∃ i j, x = .int i ∧ y = .int j ∧ C i j ∧ Q (g i j) H
noncomputable def rI0 (g : Int → Int → V) : R2 := fun x y H Q => ∃ i j, x = .int i ∧ y = .int j ∧ Q (g i j) H
noncomputable def rU (g : Int → V) : V → Hp → VK → Prop := fun x H Q => ∃ i, x = .int i ∧ Q (g i) H

section
variable {X : Cx} {a b c : Expr} {ta tb tc : TE} {pos : Pos}

theorem binT (ha : PE X a ta) (hb : PE X b tb) {pins : List (Addr × Obj)} {s : Shared} {σ : St} {H : Hp} {R : V → V → Hp → Prop} (I : Inv X pins σ H s)
    (h : ta σ H fun x H1 => tb σ H1 fun y H2 => R x y H2) {Q : Value → Shared → Prop} {f : Value → Value → Sem Value}
    (hf : ∀ v u s2 x y H2, Inv X pins σ H2 s2 → RelV x v → RelV y u → R x y H2 → wpAny (model X.prog X.w) X.A (f v u) Q X.xe s2) :
    wpAny (model X.prog X.w) X.A (eval a X.env) (fun v s₁ => wpAny (model X.prog X.w) X.A (eval b X.env) (fun u s₂ => wpAny (model X.prog X.w) X.A (f v u) Q X.xe s₂) X.xe s₁) X.xe s := by
  refine thn (ha pins s σ H _ I h) fun v s1 ⟨x, H1, I1, r1, q1⟩ => ?_
  refine thn (hb pins s1 σ H1 _ I1 q1) fun u s2 ⟨y, H2, I2, r2, q2⟩ => ?_
  exact hf v u s2 x y H2 I2 r1 r2 q2

theorem pe_op {op : Operator} {r : R2} (ho : OpR X (binaryOp op) r) (ha : PE X a ta) (hb : PE X b tb) : PE X (.BinOp a op b pos) (tOp r ta tb) := by
  intro pins s σ H Q I h
  exact wpAny_BinOp (binT ha hb I h fun v u s2 x y H2 I2 rx ry q => ho pins s2 σ H2 x y v u Q I2 rx ry q)
theorem pe_un {op : UnaryOp} {r : V → Hp → VK → Prop} (ho : UnR X (unaryOp op) r) (ha : PE X a ta) : PE X (.UnaryOp op a pos) (tUn r ta) := by
  intro pins s σ H Q I h
  exact UnaryOp_ (thn (ha pins s σ H _ I h) fun v s1 ⟨x, H1, I1, r1, q1⟩ => ho pins s1 σ H1 x v Q I1 r1 q1)

theorem opI {f : Value → Value → Sem Value} {C : Int → Int → Prop} {g : Int → Int → Int}
    (rule : ∀ (i j : Int) (t u : Tok) (s : Shared) (Q : Value → Shared → Prop) (E : Value → Shared → Prop), C i j → Q (.int (g i j) s.toks) { s with toks := s.toks + 1 } → wpAny (model X.prog X.w) X.A (f (.int i t) (.int j u)) Q E s) :
    OpR X f (rI C fun i j => .int (g i j)) := by
  intro pins s σ H x y v u Q I rx ry h
  obtain ⟨i, j, rfl, rfl, hc, q⟩ := h
  obtain ⟨t, rfl⟩ := rx
  obtain ⟨t', rfl⟩ := ry
  exact rule i j t t' s _ _ hc ⟨.int (g i j), H, I.tok _, ⟨_, rfl⟩, q⟩
theorem opI0 {f : Value → Value → Sem Value} {g : Int → Int → Int}
    (rule : ∀ (i j : Int) (t u : Tok) (s : Shared) (Q : Value → Shared → Prop) (E : Value → Shared → Prop), Q (.int (g i j) s.toks) { s with toks := s.toks + 1 } → wpAny (model X.prog X.w) X.A (f (.int i t) (.int j u)) Q E s) :
    OpR X f (rI0 fun i j => .int (g i j)) := by
  intro pins s σ H x y v u Q I rx ry h
  obtain ⟨i, j, rfl, rfl, q⟩ := h
  obtain ⟨t, rfl⟩ := rx
  obtain ⟨t', rfl⟩ := ry
  exact rule i j t t' s _ _ ⟨.int (g i j), H, I.tok _, ⟨_, rfl⟩, q⟩
theorem opB0 {f : Value → Value → Sem Value} {g : Int → Int → Bool}
    (rule : ∀ (i j : Int) (t u : Tok) (s : Shared) (Q : Value → Shared → Prop) (E : Value → Shared → Prop), Q (.bool (g i j)) s → wpAny (model X.prog X.w) X.A (f (.int i t) (.int j u)) Q E s) :
    OpR X f (rI0 fun i j => .bl (g i j)) := by
  intro pins s σ H x y v u Q I rx ry h
  obtain ⟨i, j, rfl, rfl, q⟩ := h
  obtain ⟨t, rfl⟩ := rx
  obtain ⟨t', rfl⟩ := ry
  exact rule i j t t' s _ _ ⟨.bl (g i j), H, I, rfl, q⟩

noncomputable def CDiv (i j : Int) : Prop := 0 < j ∧ j < 1073741824
noncomputable def CPow (i j : Int) : Prop := 0 ≤ j ∧ j ≤ 1000000 ∧ i.natAbs < 2 ^ 64
noncomputable def CMul (i j : Int) : Prop := (-(2 ^ 64) < i ∧ i < 2 ^ 64) ∨ (-(2 ^ 64) < j ∧ j < 2 ^ 64)
theorem CMul.ok {i j : Int} (h : CMul i j) : IntMulOk i j := by
  rcases h with ⟨h1, h2⟩ | ⟨h1, h2⟩
  · exact .of_left (intBits_le_64 h1 h2)
  · exact .of_right (intBits_le_64 h1 h2)
theorem two_pow_nn (k : Nat) : (0 : Int) ≤ 2 ^ k := by
  rw [two_pow_cast]
  exact Int.natCast_nonneg _

theorem op_add : OpR X (binaryOp .Add) (rI0 fun i j => .int (i + j)) := opI0 fun _ _ _ _ _ _ _ q => add_int q
theorem op_sub : OpR X (binaryOp .Sub) (rI0 fun i j => .int (i - j)) := opI0 fun _ _ _ _ _ _ _ q => sub_int q
theorem op_fdiv : OpR X (binaryOp .FloorDiv) (rI CDiv fun i j => .int (i / j)) := opI fun i j _ _ _ _ _ hc q => by
  have h1 : (0 : Int) < j := hc.1
  have h2 : j < 1073741824 := hc.2
  exact floordiv_int (by omega) (by rw [Int.fdiv_eq_ediv_of_nonneg i (by omega)]; exact q) (.inl (PyProof.noPylong_small (by omega)))
theorem op_mod : OpR X (binaryOp .Mod) (rI (fun _ j => 0 < j) fun i j => .int (i % j)) := opI fun i j _ _ _ _ _ hc q => by
  have h1 : (0 : Int) < j := hc
  exact mod_int' (by omega) (by rw [Int.fmod_eq_emod_of_nonneg i (by omega)]; exact q)
theorem op_pow : OpR X (binaryOp .Pow) (rI CPow fun i j => .int (i ^ j.toNat)) := opI fun _ _ _ _ _ _ _ hc q => pow_int_small hc.1 hc.2.1 hc.2.2 q
theorem op_shr : OpR X (binaryOp .RShift) (rI (fun _ j => 0 ≤ j) fun i j => .int (i / 2 ^ j.toNat)) := opI fun i j _ _ _ _ _ hc q =>
  rshift_int hc (by rw [Int.fdiv_eq_ediv_of_nonneg i (two_pow_nn _)]; exact q)
theorem unI {f : Value → Sem Value} {g : Int → Int}
    (rule : ∀ (i : Int) (t : Tok) (s : Shared) (Q : Value → Shared → Prop) (E : Value → Shared → Prop), Q (.int (g i) s.toks) { s with toks := s.toks + 1 } → wpAny (model X.prog X.w) X.A (f (.int i t)) Q E s) :
    UnR X f (rU fun i => .int (g i)) := by
  intro pins s σ H x v Q I rx h
  obtain ⟨i, rfl, q⟩ := h
  obtain ⟨t, rfl⟩ := rx
  exact rule i t s _ _ ⟨.int (g i), H, I.tok _, ⟨_, rfl⟩, q⟩
theorem un_neg : UnR X (unaryOp .USub) (rU fun i => .int (-i)) := unI fun _ _ _ _ _ q => neg_int q
end



noncomputable def scal : V → V → Bool
  | .non, .non => true | .non, .int _ => true | .int _, .non => true | .non, .bl _ => true | .bl _, .non => true | .non, .str _ => true | .str _, .non => true
  | .int _, .int _ => true | .bl _, .bl _ => true | .str _, .str _ => true | .byt _, .byt _ => true
  | .int _, .str _ => true | .str _, .int _ => true | .bl _, .str _ => true | .str _, .bl _ => true
  | _, _ => false
noncomputable def rEq : R2 := fun x y H Q => scal x y = true ∧ Q (.bl (decide (x = y))) H
noncomputable def rNe : R2 := fun x y H Q => scal x y = true ∧ Q (.bl (!decide (x = y))) H

theorem dec_int {i j : Int} : decide (V.int i = V.int j) = (i == j) := by
  rw [Bool.eq_iff_iff]
  simp
theorem dec_bl {i j : Bool} : decide (V.bl i = V.bl j) = (i == j) := by
  rw [Bool.eq_iff_iff]
  simp
theorem dec_str {i j : Str} : decide (V.str i = V.str j) = (i == j) := by
  rw [Bool.eq_iff_iff]
  simp
theorem dec_byt {i j : Array UInt8} : decide (V.byt i = V.byt j) = (i.toList == j.toList) := by
  rw [Bool.eq_iff_iff]
  cases i
  cases j
  simp

section
variable {X : Cx} {a b c : Expr} {ta tb tc : TE} {pos : Pos}
theorem fin_bl {pins : List (Addr × Obj)} {σ : St} {H : Hp} {s : Shared} {Q : VK} {k k' : Bool} (I : Inv X pins σ H s) (q : Q (.bl k) H) (e : k = k') : EP X pins σ Q (.bool k') s := by
  subst e
  exact ⟨.bl k, H, I, rfl, q⟩
theorem op_eq : OpR X (compareOp .Eq) rEq := by
  intro pins s σ H x y v u Q I rx ry h
  obtain ⟨hs, q⟩ := h
  cases x with
  | non =>
    cases rx
    cases y with
    | non => cases ry; exact PySem.EqNone.eq_none_none (fin_bl I q (by simp))
    | bl j => cases ry; exact PySem.EqNone.eq_none_bool (fin_bl I q (by simp))
    | int j => obtain ⟨t', rfl⟩ := ry; exact PySem.EqNone.eq_none_int (fin_bl I q (by simp))
    | str j => obtain ⟨t', rfl⟩ := ry; exact PySem.EqNone.eq_none_str (fin_bl I q (by simp))
    | _ => exact absurd (show false = true from hs) Bool.false_ne_true
  | bl i =>
    cases rx
    cases y with
    | non => cases ry; exact PySem.EqNone.eq_bool_none (fin_bl I q (by simp))
    | bl j => cases ry; exact eq_bool (fin_bl I q dec_bl)
    | str j => obtain ⟨t', rfl⟩ := ry; exact PySem.EqMixed.eq_bool_str (fin_bl I q (by simp))
    | _ => exact absurd (show false = true from hs) Bool.false_ne_true
  | int i =>
    obtain ⟨t, rfl⟩ := rx
    cases y with
    | non => cases ry; exact PySem.EqNone.eq_int_none (fin_bl I q (by simp))
    | int j => obtain ⟨t', rfl⟩ := ry; exact eq_int (fin_bl I q dec_int)
    | str j => obtain ⟨t', rfl⟩ := ry; exact PySem.EqMixed.eq_int_str (fin_bl I q (by simp))
    | _ => exact absurd (show false = true from hs) Bool.false_ne_true
  | str i =>
    obtain ⟨t, rfl⟩ := rx
    cases y with
    | non => cases ry; exact PySem.EqNone.eq_str_none (fin_bl I q (by simp))
    | bl j => cases ry; exact PySem.EqMixed.eq_str_bool (fin_bl I q (by simp))
    | int j => obtain ⟨t', rfl⟩ := ry; exact PySem.EqMixed.eq_str_int (fin_bl I q (by simp))
    | str j => obtain ⟨t', rfl⟩ := ry; exact eq_str (fin_bl I q dec_str)
    | _ => exact absurd (show false = true from hs) Bool.false_ne_true
  | byt i =>
    obtain ⟨t, rfl⟩ := rx
    cases y with
    | byt j => obtain ⟨t', rfl⟩ := ry; exact PySem.W.eq_bytes (fin_bl I q dec_byt)
    | _ => exact absurd (show false = true from hs) Bool.false_ne_true
  | _ => cases y <;> exact absurd (show false = true from hs) Bool.false_ne_true
theorem op_ne : OpR X (compareOp .NotEq) rNe := by
  intro pins s σ H x y v u Q I rx ry h
  obtain ⟨hs, q⟩ := h
  cases x with
  | non =>
    cases rx
    cases y with
    | non => cases ry; exact PySem.EqNone.ne_none_none (fin_bl I q (by simp))
    | bl j => cases ry; exact PySem.EqNone.ne_none_bool (fin_bl I q (by simp))
    | int j => obtain ⟨t', rfl⟩ := ry; exact PySem.EqNone.ne_none_int (fin_bl I q (by simp))
    | str j => obtain ⟨t', rfl⟩ := ry; exact PySem.EqNone.ne_none_str (fin_bl I q (by simp))
    | _ => exact absurd (show false = true from hs) Bool.false_ne_true
  | bl i =>
    cases rx
    cases y with
    | non => cases ry; exact PySem.EqNone.ne_bool_none (fin_bl I q (by simp))
    | bl j => cases ry; exact ne_bool (fin_bl I q (congrArg not dec_bl))
    | str j => obtain ⟨t', rfl⟩ := ry; exact PySem.EqMixed.ne_bool_str (fin_bl I q (by simp))
    | _ => exact absurd (show false = true from hs) Bool.false_ne_true
  | int i =>
    obtain ⟨t, rfl⟩ := rx
    cases y with
    | non => cases ry; exact PySem.EqNone.ne_int_none (fin_bl I q (by simp))
    | int j => obtain ⟨t', rfl⟩ := ry; exact ne_int (fin_bl I q (congrArg not dec_int))
    | str j => obtain ⟨t', rfl⟩ := ry; exact PySem.EqMixed.ne_int_str (fin_bl I q (by simp))
    | _ => exact absurd (show false = true from hs) Bool.false_ne_true
  | str i =>
    obtain ⟨t, rfl⟩ := rx
    cases y with
    | non => cases ry; exact PySem.EqNone.ne_str_none (fin_bl I q (by simp))
    | bl j => cases ry; exact PySem.EqMixed.ne_str_bool (fin_bl I q (by simp))
    | int j => obtain ⟨t', rfl⟩ := ry; exact PySem.EqMixed.ne_str_int (fin_bl I q (by simp))
    | str j => obtain ⟨t', rfl⟩ := ry; exact ne_str (fin_bl I q (congrArg not dec_str))
    | _ => exact absurd (show false = true from hs) Bool.false_ne_true
  | byt i =>
    obtain ⟨t, rfl⟩ := rx
    cases y with
    | byt j => obtain ⟨t', rfl⟩ := ry; exact PySem.W.ne_bytes (fin_bl I q (congrArg not dec_byt))
    | _ => exact absurd (show false = true from hs) Bool.false_ne_true
  | _ => cases y <;> exact absurd (show false = true from hs) Bool.false_ne_true

theorem op_lt : OpR X (compareOp .Lt) (rI0 fun i j => .bl (decide (i < j))) := opB0 fun _ _ _ _ _ _ _ q => lt_int q
theorem op_le : OpR X (compareOp .LtE) (rI0 fun i j => .bl (decide (i ≤ j))) := opB0 fun _ _ _ _ _ _ _ q => le_int q
theorem op_gt : OpR X (compareOp .Gt) (rI0 fun i j => .bl (decide (j < i))) := opB0 fun _ _ _ _ _ _ _ q => gt_int q
theorem op_ge : OpR X (compareOp .GtE) (rI0 fun i j => .bl (decide (j ≤ i))) := opB0 fun _ _ _ _ _ _ _ q => ge_int q
theorem op_in_str : OpR X (compareOp .In) (fun x y H Q => ∃ i j, x = .str i ∧ y = .str j ∧ Q (.bl (!(Builtin.Str.occurrences j i 0 j.length 1).isEmpty)) H) := by
  intro pins s σ H x y v u Q I rx ry h
  obtain ⟨i, j, rfl, rfl, q⟩ := h
  obtain ⟨t, rfl⟩ := rx
  obtain ⟨t', rfl⟩ := ry
  exact in_str (fin_bl I q rfl)


theorem op_isN : OpR X (compareOp .Is) (fun x y H Q => y = .non ∧ Q (.bl (decide (x = .non))) H) := by
  intro pins s σ H x y v u Q I rx ry h
  obtain ⟨rfl, q⟩ := h
  cases ry
  refine is_none_gen (fin_bl I q ?_)
  cases x <;> first
    | (cases rx; rfl)
    | (obtain ⟨t, rfl⟩ := rx; rfl)
theorem op_notN : OpR X (compareOp .IsNot) (fun x y H Q => y = .non ∧ Q (.bl (!decide (x = .non))) H) := by
  intro pins s σ H x y v u Q I rx ry h
  obtain ⟨rfl, q⟩ := h
  cases ry
  refine isnot_none_gen (fin_bl I q ?_)
  cases x <;> first
    | (cases rx; rfl)
    | (obtain ⟨t, rfl⟩ := rx; rfl)

theorem op_notin_str : OpR X (compareOp .NotIn) (fun x y H Q => ∃ i j, x = .str i ∧ y = .str j ∧ Q (.bl (!(!(Builtin.Str.occurrences j i 0 j.length 1).isEmpty))) H) := by
  intro pins s σ H x y v u Q I rx ry h
  obtain ⟨i, j, rfl, rfl, q⟩ := h
  obtain ⟨t, rfl⟩ := rx
  obtain ⟨t', rfl⟩ := ry
  exact notIn_str (fin_bl I q rfl)

theorem pe_cmpR {op : CmpOp} {r : R2} (ho : OpR X (compareOp op) r) (ha : PE X a ta) (hb : PE X b tb) (hm : behindInMarks op b = false) : PE X (.Compare a [op] [b] pos) (tOp r ta tb) := by
  intro pins s σ H Q I h
  exact wpAny_Compare1 (binT ha hb I h fun v u s2 x y H2 I2 rx ry q => ho pins s2 σ H2 x y v u Q I2 rx ry q) hm

noncomputable def tTest (t : TE) : TT := fun σ H Q => t σ H fun x H' => ∃ k, x = .bl k ∧ Q k H'
theorem pt_cmpR {op : CmpOp} {r : R2} (ho : OpR X (compareOp op) r) (ha : PE X a ta) (hb : PE X b tb) (hm : behindInMarks op b = false) : PT X (.Compare a [op] [b] pos) (tTest (tOp r ta tb)) := by
  intro pins s σ H Q I h
  refine wpAny_isTrue_Compare1 (thn (ha pins s σ H _ I h) fun v s1 ⟨x, H1, I1, r1, q1⟩ => thn (hb pins s1 σ H1 _ I1 q1) fun u s2 ⟨y, H2, I2, r2, q2⟩ =>
    thn (ho pins s2 σ H2 x y v u _ I2 r1 r2 q2) fun c s3 ⟨z, H3, I3, r3, k, e, q3⟩ => ?_) hm
  subst e
  cases r3
  exact wpAny_truthy_bool ⟨H3, I3, q3⟩

noncomputable def tChain (r r' : R2) (ta tb tc : TE) : TE := fun σ H Q => ta σ H fun x H1 => tb σ H1 fun y H2 => r x y H2 fun z H3 => ∃ k, z = .bl k ∧
  (if k = true then tc σ H3 fun w' H4 => r' y w' H4 Q else Q (.bl false) H3)
theorem pe_chain {op op' : CmpOp} {r r' : R2} (ho : OpR X (compareOp op) r) (ho' : OpR X (compareOp op') r') (ha : PE X a ta) (hb : PE X b tb) (hc : PE X c tc)
    (hm : lastMarks [op, op'] [b, c] = false := by with_unfolding_all rfl) : PE X (.Compare a [op, op'] [b, c] pos) (tChain r r' ta tb tc) := by
  intro pins s σ H Q I h
  refine Compare_chain (thn (ha pins s σ H _ I h) fun v s1 ⟨x, H1, I1, r1, q1⟩ => chain_link (thn (hb pins s1 σ H1 _ I1 q1) fun u s2 ⟨y, H2, I2, r2, q2⟩ =>
    thn (ho pins s2 σ H2 x y v u _ I2 r1 r2 q2) fun d s3 ⟨z, H3, I3, r3, k, e, q3⟩ => ?_)) hm
  subst e
  cases r3
  refine wpAny_truthy_bool ?_
  cases k with
  | false => exact ite_ff ⟨.bl false, H3, I3, rfl, q3⟩
  | true => exact ite_tt (chain_last (thn (hc pins s3 σ H3 _ I3 q3) fun w' s4 ⟨z', H4, I4, r4, q4⟩ => ho' pins s4 σ H4 y z' u w' Q I4 r2 r4 q4))
theorem pt_chain {op op' : CmpOp} {r r' : R2} (ho : OpR X (compareOp op) r) (ho' : OpR X (compareOp op') r') (ha : PE X a ta) (hb : PE X b tb) (hc : PE X c tc)
    (hm : lastMarks [op, op'] [b, c] = false := by with_unfolding_all rfl) : PT X (.Compare a [op, op'] [b, c] pos) (tTest (tChain r r' ta tb tc)) := by
  intro pins s σ H Q I h
  refine isTrue_chain (thn (ha pins s σ H _ I h) fun v s1 ⟨x, H1, I1, r1, q1⟩ => test_link (thn (hb pins s1 σ H1 _ I1 q1) fun u s2 ⟨y, H2, I2, r2, q2⟩ =>
    thn (ho pins s2 σ H2 x y v u _ I2 r1 r2 q2) fun d s3 ⟨z, H3, I3, r3, k, e, q3⟩ => ?_)) hm
  subst e
  cases r3
  refine wpAny_truthy_bool ?_
  cases k with
  | false =>
    obtain ⟨k', e', q'⟩ := q3
    cases e'
    exact ite_ff ⟨H3, I3, q'⟩
  | true =>
    refine ite_tt (test_last (thn (hc pins s3 σ H3 _ I3 q3) fun w' s4 ⟨z', H4, I4, r4, q4⟩ => thn (ho' pins s4 σ H4 y z' u w' _ I4 r2 r4 q4) fun d' s5 ⟨z2, H5, I5, r5, k2, e2, q5⟩ => ?_))
    subst e2
    cases r5
    exact wpAny_truthy_bool ⟨H5, I5, q5⟩



noncomputable def TruV (K : PySem.W.Frag) (x : V) (H : Hp) (k : Bool) : Prop :=
  match x with
  | .non => k = false
  | .bl b => k = b
  | .int i => k = (i != 0)
  | .str y => y.length ≤ sizeLine ∧ k = ((y.length : Int) != 0)
  | .byt y => y.size ≤ sizeLine ∧ k = ((y.size : Int) != 0)
  | .ref p => (∃ xs, SqL K H p xs ∧ k = !xs.isEmpty) ∨ (∃ xs, SqT K H p xs ∧ k = !xs.isEmpty) ∨ ∃ kvs, H p = some (.dK kvs) ∧ k = !kvs.isEmpty
  | _ => False
theorem isEmpty_kv {κ : Type} {kvs : List (κ × V)} {vs : List (κ × Value)} (r : KV kvs vs) : (!vs.isEmpty) = !kvs.isEmpty := by
  cases r <;> rfl
theorem isEmpty_of {xs : List V} {its : List Value} (r : Vals xs its) : (!its.toArray.isEmpty) = !xs.isEmpty := by
  cases r <;> simp
theorem line63 : (sizeLine : Nat) < 2 ^ 63 := by rw [sizeLine_eq]; decide
theorem tru_ok : TruR X (fun x H Q => ∃ k, TruV X.K x H k ∧ Q k H) := by
  intro pins s σ H x v Q I rx h
  obtain ⟨k, e, q⟩ := h
  have hl := line63
  have hs : sizeLine = 16777216 := sizeLine_eq
  cases x with
  | non =>
    cases rx
    have e' : k = false := e
    subst e'
    exact truthy_none ⟨H, I, q⟩
  | bl b =>
    cases rx
    have e' : k = b := e
    subst e'
    exact wpAny_truthy_bool ⟨H, I, q⟩
  | int i =>
    obtain ⟨t, rfl⟩ := rx
    have e' : k = (i != 0) := e
    subst e'
    exact PySem.P.truthy_int ⟨H, I, q⟩
  | str y =>
    obtain ⟨t, rfl⟩ := rx
    obtain ⟨hy, e'⟩ : y.length ≤ sizeLine ∧ k = ((y.length : Int) != 0) := e
    subst e'
    exact PySem.P.truthy_str (by omega) ⟨H, I.tok _, q⟩
  | byt y =>
    obtain ⟨t, rfl⟩ := rx
    obtain ⟨hy, e'⟩ : y.size ≤ sizeLine ∧ k = ((y.size : Int) != 0) := e
    subst e'
    exact PySem.W.truthy_bytes (by omega) ⟨H, I.tok _, q⟩
  | ref p =>
    cases rx
    have e' : (∃ xs, SqL X.K H p xs ∧ k = !xs.isEmpty) ∨ (∃ xs, SqT X.K H p xs ∧ k = !xs.isEmpty) ∨ ∃ kvs, H p = some (.dK kvs) ∧ k = !kvs.isEmpty := e
    rcases e' with ⟨xs, hx, e'⟩ | ⟨xs, hx, e'⟩ | ⟨kvs, hx, e'⟩
    · subst e'
      obtain ⟨its, r, pl, hz⟩ := I.list hx
      have hlen := r.length
      exact wpAny_truthy_list pl.isList (by simp only [List.size_toArray]; omega) ⟨H, I.tok _, by rw [isEmpty_of r]; exact q⟩
    · subst e'
      obtain ⟨its, r, pl, hz⟩ := I.tuple hx
      have hlen := r.length
      exact truthy_tuple pl (by simp only [List.size_toArray]; omega) ⟨H, I.tok _, by rw [isEmpty_of r]; exact q⟩
    · subst e'
      obtain ⟨hz, hS, vs, r, m⟩ : kvs.length ≤ sizeLine ∧ (p == sysModules) = false ∧ ∃ vs, KV kvs vs ∧ s.heap.DictOf (mixKind X.prog X.w) p vs := I.hok p _ hx
      have hlen : kvs.length = vs.length := Paired.length r
      exact wpAny_truthy_dict hS m (by omega) ⟨H, I.tok _, by rw [isEmpty_kv r]; exact q⟩
  | _ => exact (show False from e).elim

theorem pt_truth (ha : PE X a ta) (he : ∀ whole, isTrue a X.env whole = (do let v ← whole; standAt a.pos; holding [v] (truthy v))) :
    PT X a (fun σ H Q => ta σ H fun x H' => ∃ k, TruV X.K x H' k ∧ Q k H') := by
  intro pins s σ H Q I h
  exact isTrue_plain (thn (ha pins s σ H _ I h) fun v s1 ⟨x, H1, I1, r1, q1⟩ => tru_ok pins s1 σ H1 x v Q I1 r1 q1) (he _)


theorem op_add_str : OpR X (binaryOp .Add) (fun x y H Q => ∃ i j, x = .str i ∧ y = .str j ∧ i.length + j.length ≤ sizeLine ∧ Q (.str (i ++ j)) H) := by
  intro pins s σ H x y v u Q I rx ry h
  obtain ⟨i, j, rfl, rfl, hz, q⟩ := h
  obtain ⟨t, rfl⟩ := rx
  obtain ⟨t', rfl⟩ := ry
  exact add_str (fun t' tk => ⟨.str (i ++ j), H, I.tok _, ⟨_, rfl⟩, q⟩) hz
theorem vals1 {x : V} {us : List Value} (r : Vals [x] us) : ∃ u, us = [u] ∧ RelV x u := by
  cases r with
  | cons r1 r2 => cases r2; exact ⟨_, rfl, r1⟩
theorem vals2 {x y : V} {us : List Value} (r : Vals [x, y] us) : ∃ u w', us = [u, w'] ∧ RelV x u ∧ RelV y w' := by
  cases r with
  | cons r1 r2 =>
    cases r2 with
    | cons r3 r4 => cases r4; exact ⟨_, _, rfl, r1, r3⟩
theorem call_max2 (hc : X.calm = true) : CallR X (.builtin "max") (fun xs H Q => ∃ i j, xs = [.int i, .int j] ∧ Q (.int (if j > i then j else i)) H) := by
  intro pins s σ H xs us Q I r h
  obtain ⟨i, j, rfl, q⟩ := h
  obtain ⟨u, w', rfl, ⟨t, rfl⟩, ⟨t', rfl⟩⟩ := vals2 r
  refine max_two_ints (I.ok.hd hc) fun h' tk k => ⟨_, H, I.kept k, ?_, q⟩
  by_cases hj : j > i
  · rw [if_pos hj, if_pos hj]; exact ⟨_, rfl⟩
  · rw [if_neg hj, if_neg hj]; exact ⟨_, rfl⟩
theorem call_min2 (hc : X.calm = true) : CallR X (.builtin "min") (fun xs H Q => ∃ i j, xs = [.int i, .int j] ∧ Q (.int (if j < i then j else i)) H) := by
  intro pins s σ H xs us Q I r h
  obtain ⟨i, j, rfl, q⟩ := h
  obtain ⟨u, w', rfl, ⟨t, rfl⟩, ⟨t', rfl⟩⟩ := vals2 r
  refine min_two_ints (I.ok.hd hc) fun h' tk k => ⟨_, H, I.kept k, ?_, q⟩
  by_cases hj : j < i
  · rw [if_pos hj, if_pos hj]; exact ⟨_, rfl⟩
  · rw [if_neg hj, if_neg hj]; exact ⟨_, rfl⟩
theorem call_int1 : CallR X (.type "int") (fun xs H Q => (∃ i, xs = [.int i] ∧ Q (.int i) H) ∨ ∃ k, xs = [.bl k] ∧ Q (.int (if k then 1 else 0)) H) := by
  intro pins s σ H xs us Q I r h
  rcases h with ⟨i, rfl, q⟩ | ⟨k, rfl, q⟩
  · obtain ⟨u, rfl, t, rfl⟩ := vals1 r
    exact call_int_int ⟨.int i, H, I, ⟨_, rfl⟩, q⟩
  · obtain ⟨u, rfl, r1⟩ := vals1 r
    cases r1
    exact call_int_bool ⟨.int (if k then 1 else 0), H, I.tok _, ⟨_, rfl⟩, q⟩
theorem call_str_int : CallR X (.type "str") (fun xs H Q => ∃ i, xs = [.int i] ∧ i.natAbs.log2 < 1920 ∧ Q (.str (toString i)) H) := by
  intro pins s σ H xs us Q I r h
  obtain ⟨i, rfl, hz, q⟩ := h
  obtain ⟨u, rfl, t, rfl⟩ := vals1 r
  exact PySem.P.str_of_int hz ⟨.str _, H, I.tok _, ⟨_, rfl⟩, q⟩
end
end L2

namespace L2
open PySem PySem.Spec PyProof.Rows


structure ObjM (h : Heap) (x dx C : Addr) (mA : Str → Option Value) : Prop where
  obj : h.get? x = some (PySem.W.instObj C dx)
  ns : h.Ns1 dx mA
  ne : dx ≠ x

theorem lookIn_ns {h : Heap} {dx : Addr} {mA : Str → Option Value} (n : h.Ns1 dx mA) : ∃ od, h.get? dx = some od ∧ ∀ name, PySem.W.lookIn name od = some (mA name) := by
  obtain ⟨o, es, ep, ho, hd, hk, _, hm⟩ := n
  refine ⟨o, ho, fun name => ?_⟩
  have e := hm name
  unfold nsFind findBy at e
  rw [← Array.find?_toList] at e
  unfold PySem.W.lookIn
  rw [hd]
  dsimp only
  split
  · rename_i y q
    rw [q] at e
    exact congrArg some e
  · rename_i q
    rw [q] at e
    have a : es.toList.any (·.refKey) = false := by
      rw [List.any_eq_false]
      intro y hy
      obtain ⟨z, t, hkey⟩ := hk y (Array.mem_toList_iff.mp hy)
      simp [DictEntry.refKey, hkey]
    have a' : ¬ es.toList.any (·.refKey) = true := by rw [a]; exact Bool.false_ne_true
    rw [if_neg a']
    exact congrArg some e

theorem ObjM.look {h : Heap} {x dx C : Addr} {mA : Str → Option Value} (I : ObjM h x dx C mA) : ∃ od, PySem.W.InstAt h x (PySem.W.instObj C dx) C (some od) ∧ ∀ name, PySem.W.lookIn name od = some (mA name) :=
  let ⟨od, ho, hl⟩ := lookIn_ns I.ns
  ⟨od, ⟨I.obj, rfl, rfl, ho⟩, hl⟩

section
variable {prog : Program} {w : World} {A : Around} {E : Value → Shared → Prop} {s : Shared} {K : PySem.W.Frag} {x dx C f : Addr} {mA : Str → Option Value} {name : Str} {v : Value}

end


theorem RelO.some_of {v : V} {o : Option Value} (r : RelO (some v) o) : ∃ u, o = some u ∧ RelV v u := by
  cases o with
  | none => exact (show False from r).elim
  | some u => exact ⟨u, rfl, r⟩
section
variable {P : Program} {w : World} {H H' : Hp} {h h' : Heap} {a C dx : Addr} {fs fs' : List (Str × V)}
theorem ins_get (hok : HOk P w H h) (e : H a = some (.ins C dx fs)) : ∃ mA, ObjM h a dx C mA ∧ (∀ f, RelO (fs.lookup f) (mA f)) ∧ PySem.Within mA (fs.map (·.1)) ∧ fs.length ≤ 1000 ∧ H dx = some (.own a) := by
  obtain ⟨d, z, ne, ob, mA, n, r, q⟩ := (show ObjOk P w H h a (.ins C dx fs) from hok a _ e)
  exact ⟨mA, ⟨ob, n, ne⟩, r, q, z, d⟩
end


structure Cls (K : PySem.W.Frag) (C : Addr) : Prop where
  pg : PySem.W.plainGet K C Str.empty = true
  hd : PySem.W.hasDictIn K C = true
  po : PySem.W.plainOver K C = true
  sa : PySem.W.findIn K (.ref C) "__setattr__" = some (some (.builtin "object.__setattr__"))
theorem Cls.get {K : PySem.W.Frag} {C : Addr} (c : Cls K C) (f : Str) : PySem.W.plainGet K C f = true := c.pg

section
variable {X : Cx} {pins : List (Addr × Obj)} {σ : St} {H : Hp} {s : Shared} {a C dx : Addr} {fs : List (Str × V)} {f : Str} {v : V} {A : Around} {E : Value → Shared → Prop}

end



section
variable {X : Cx} {o e value : Expr} {f : Str} {pos pos' tpos : Pos} {ta tv : TE}
end


section
variable {X : Cx} {pins : List (Addr × Obj)} {σ : St} {H : Hp} {s : Shared} {A : Around} {E : Value → Shared → Prop} {Q : Value → Shared → Prop} {c : Value} {b : Bool}

inductive TyOf (K : PySem.W.Frag) (H : Hp) : V → Value → Prop where
  | non : TyOf K H .non (.type "NoneType")
  | bl (x : Bool) : TyOf K H (.bl x) (.type "bool")
  | int (i : Int) : TyOf K H (.int i) (.type "int")
  | str (x : Str) : TyOf K H (.str x) (.type "str")
  | flt (x : UInt64) : TyOf K H (.flt x) (.type "float")
  | lst {a : Addr} {xs : List V} (e : H a = some (.lst xs)) : TyOf K H (.ref a) (.type "list")
  | frz {a : Addr} {o : Obj} {xs : List V} (e : H a = some (.frz o (.lst xs))) : TyOf K H (.ref a) (.type "list")
  | tup {a : Addr} {xs : List V} (e : H a = some (.tup xs)) : TyOf K H (.ref a) (.type "tuple")
  | dK {a : Addr} {kvs : List (Key × V)} (e : H a = some (.dK kvs)) : TyOf K H (.ref a) (.type "dict")
  | dT {a : Addr} {kvs : List (List Key × V)} (e : H a = some (.dT kvs)) : TyOf K H (.ref a) (.type "dict")
  | ins {a C dx : Addr} {fs : List (Str × V)} (e : H a = some (.ins C dx fs)) (cl : Cls K C) (ha : PySem.W.findIn K (.ref C) "__class__" = some (some (.builtin "object.__class__")))
      (hn : PySem.W.specialIn K (.builtin "object.__class__") "__get__" = some (some (.builtin "getset_descriptor.__get__"))) (htk : PySem.W.takesIn K (.builtin "object.__class__") = some true)
      (hm : PySem.W.mroIn K C (.type "object") = some true) : TyOf K H (.ref a) (.ref C)

theorem isinst_ok {x : V} {u t : Value} (I : Inv X pins σ H s) (rx : RelV x u) (ty : TyOf X.K H x t) (e : PySem.W.kitOne X.K t c = some b) (h : ∀ tk, Q (.bool b) { s with toks := tk }) :
    wpAny (model X.prog X.w) A (call (.builtin "isinstance") [u, c]) Q E s := by
  cases ty with
  | non => cases (show u = Value.none from rx); exact PySem.W.kia_one PySem.W.kitx_none I.kIn True.intro e (fun z => nomatch z) h
  | bl y => cases (show u = Value.bool y from rx); exact PySem.W.kia_one PySem.W.kitx_bool I.kIn True.intro e (fun z => nomatch z) h
  | int i => obtain ⟨t, q⟩ := (show ∃ t, u = Value.int i t from rx); cases q; exact PySem.W.kia_one PySem.W.kitx_int I.kIn True.intro e (fun z => nomatch z) h
  | str y => obtain ⟨t, q⟩ := (show ∃ t, u = Value.str y t from rx); cases q; exact PySem.W.kia_one PySem.W.kitx_str I.kIn True.intro e (fun z => nomatch z) h
  | flt y => obtain ⟨t, q⟩ := (show ∃ t, u = Value.float y t from rx); cases q; exact PySem.W.kia_one PySem.W.kitx_float I.kIn True.intro e (fun z => nomatch z) h
  | @lst a xs ea =>
    cases (show u = Value.ref a from rx)
    obtain ⟨_, _, n, _, h1⟩ := (show ObjOk X.prog X.w H s.heap a (.lst xs) from I.hok a _ ea)
    exact PySem.W.kia_one PySem.W.kitx_list I.kIn ⟨_, h1, rfl⟩ e (fun z => nomatch z) h
  | @frz a ob xs ea =>
    cases (show u = Value.ref a from rx)
    obtain ⟨_, _, _, n, _, h1⟩ := (show ObjOk X.prog X.w H s.heap a (.frz ob (.lst xs)) from I.hok a _ ea)
    exact PySem.W.kia_one PySem.W.kitx_list I.kIn ⟨_, h1, rfl⟩ e (fun z => nomatch z) h
  | @tup a xs ea =>
    cases (show u = Value.ref a from rx)
    obtain ⟨_, _, _, p⟩ := (show ObjOk X.prog X.w H s.heap a (.tup xs) from I.hok a _ ea)
    obtain ⟨o, h1, h2, _⟩ := p
    exact PySem.W.kia_one PySem.W.kitx_tuple I.kIn ⟨o, h1, h2⟩ e (fun z => nomatch z) h
  | @dK a kvs ea =>
    cases (show u = Value.ref a from rx)
    obtain ⟨_, _, vs, _, p⟩ := (show ObjOk X.prog X.w H s.heap a (.dK kvs) from I.hok a _ ea)
    obtain ⟨o, es, ep, h1, h2, _⟩ := p
    exact PySem.W.kia_one PySem.W.kitx_dict I.kIn ⟨o, h1, h2.1⟩ e (fun z => nomatch z) h
  | @dT a kvs ea =>
    cases (show u = Value.ref a from rx)
    obtain ⟨_, _, xs, _, o, es, ep, h1, h2, _⟩ := (show ObjOk X.prog X.w H s.heap a (.dT kvs) from I.hok a _ ea)
    exact PySem.W.kia_one PySem.W.kitx_dict I.kIn ⟨o, h1, h2.1⟩ e (fun z => nomatch z) h
  | @ins a C dx fs ea cl ha hn htk hm =>
    cases (show u = Value.ref a from rx)
    obtain ⟨mA, O, _⟩ := ins_get I.hok ea
    obtain ⟨od, J, _⟩ := O.look
    exact PySem.W.kia_one (PySem.W.kitx_own (cl.get _) cl.hd ha hn htk hm) I.kIn J e (fun z => nomatch z) h
end
end L2

namespace L2
open PySem PySem.Spec PyProof.Rows


structure Room (k : Nat) (A : Around) : Prop where
  hd : A.handled = none
  dp : A.depth + 3 * k + 5 < recursionLimit
  un : A.units + 16 * k + 200 < cLine
  gd : A.guards = some []
theorem Room.mono {j k : Nat} {A : Around} (r : Room k A) (h : j ≤ k) : Room j A := ⟨r.hd, by have := r.dp; omega, by have := r.un; omega, r.gd⟩
theorem Room.deeper {k : Nat} {A : Around} (r : Room (k + 1) A) (env : Env) : Room k (A.deeper env) :=
  ⟨r.hd, by have := r.dp; show A.depth + 1 + 3 * k + 5 < _; omega, by have := r.un; show A.units + 3 + 16 * k + 200 < _; omega, r.gd⟩
theorem Room.depth {k : Nat} {A : Around} (r : Room k A) : A.depth < recursionLimit := by have := r.dp; omega
noncomputable def tNil : TA := fun _ H Q => Q [] H
noncomputable def tCons (ta : TE) (tr : TA) : TA := fun σ H Q => ta σ H fun x H1 => tr σ H1 fun xs H2 => Q (x :: xs) H2
section
variable {X : Cx} {e : Expr} {es : List Expr} {te : TE} {t : TA} {pos : Pos}
theorem pa_nil : PA X [] tNil := fun _ _ _ _ H Q I h => Calls.spliced_nil ⟨[], H, I, .nil, h⟩
theorem pa_cons (ha : PE X e te) (hr : PA X es t) (hs : starEach (e :: es) X.env = (false, eval e X.env) :: starEach es X.env := by rfl) : PA X (e :: es) (tCons te t) := by
  intro pos pins s σ H Q I h
  rw [hs]
  show wpAny _ _ (spliced ((false, eval e X.env) :: backTo pos (starEach es X.env))) _ _ s
  refine Calls.spliced_cons (thn (ha pins s σ H _ I h) fun u s1 ⟨x, H1, I1, r1, q1⟩ => ?_)
  exact thn (hr pos pins s1 σ H1 _ I1 q1) fun us s2 ⟨xs, H2, I2, r2, q2⟩ => ⟨x :: xs, H2, I2, .cons r1 r2, q2⟩


noncomputable def tTup (t : TA) : TE := fun σ H Q => t σ H fun xs H1 => xs.length ≤ sizeLine ∧ ∀ p, H1 p = none → Q (.ref p) (upd H1 p (.tup xs))
noncomputable def tLst (t : TA) : TE := fun σ H Q => t σ H fun xs H1 => xs.length ≤ sizeLine ∧ ∀ p, H1 p = none → Q (.ref p) (upd H1 p (.lst xs))
theorem pe_tup {x1} (h : PA X es t) : PE X (.Tuple es x1 pos) (tTup t) := by
  intro pins s σ H Q I hq
  refine wpAny_Tuple_spliced (thn (h pos pins s σ H _ I hq) fun us s1 ⟨xs, H1, I1, r, z, q⟩ => ⟨by rw [← r.length]; exact z, ?_⟩)
  have hf : H1 s1.heap.objs.size = none := I1.hok.fresh (Nat.le_refl _)
  refine ⟨.ref s1.heap.objs.size, upd H1 s1.heap.objs.size (.tup xs), I1.laid (t' := s1.toks) (fun b u e => Heap.get?_push_of_some _ e) (Nat.le_refl _) ?_, rfl, q _ hf⟩
  exact ⟨z, us, r, ⟨_, Heap.get?_push_size _ rfl, rfl, _, rfl⟩⟩
theorem pe_lst (h : PA X es t) : PE X (.List es pos) (tLst t) := by
  intro pins s σ H Q I hq
  refine wpAny_List_spliced (thn (h pos pins s σ H _ I hq) fun us s1 ⟨xs, H1, I1, r, z, q⟩ => ⟨by rw [← r.length]; exact z, ?_⟩)
  have hf : H1 s1.heap.objs.size = none := I1.hok.fresh (Nat.le_refl _)
  refine ⟨.ref s1.heap.objs.size, upd H1 s1.heap.objs.size (.lst xs), I1.laid (t' := s1.toks) (fun b u e => Heap.get?_push_of_some _ e) (Nat.le_refl _) ?_, rfl, q _ hf⟩
  exact ⟨z, us, 0, r, Heap.get?_push_size _ rfl⟩
end



noncomputable abbrev Sp := List V → Hp → VK → XK → Prop

noncomputable abbrev CXT := List Env → Hp → Shared → XK → Value → Shared → Prop


structure Env0 (P : Program) (w : World) (K : PySem.W.Frag) (mg : Str → Option Value) (base : Heap) (A : Around) (outer : List Env) (s : Shared) (H : Hp) : Prop where
  frames : A.frames = some outer
  mod : Mod K mg base
  bs : ∀ b o, base.get? b = some o → s.heap.get? b = some o ∧ H b = none
  bsz : base.objs.size ≤ s.heap.objs.size
  funs : s.heap.FunFrames base outer
  frf : ∀ b ∈ frs outer, H b = none
  hok : HOk P w H s.heap
  bare : AllBare s.gens

noncomputable def CE (outer : List Env) (P : Program) (w : World) (H : Hp) (s : Shared) (Q : VK) (u : Value) (s' : Shared) : Prop :=
  ∃ v H', s'.os = s.os ∧ AllBare s'.gens ∧ Un (frs outer) [] H H' s.heap s'.heap ∧ HOk P w H' s'.heap ∧ RelV v u ∧ Q v H'
noncomputable def CR (CX : CXT) (outer : List Env) (P : Program) (w : World) (H : Hp) (s : Shared) (Q : VK) (E : XK) (r : Result) (s' : Shared) : Prop :=
  match r with
  | .ok (.ret u) => CE outer P w H s Q u s'
  | .ok _ => False
  | .error e => CX outer H s E e s'
structure FnOk (P : Program) (w : World) (K : PySem.W.Frag) (mg : Str → Option Value) (base : Heap) (CX : CXT) (k : Nat) (f : Addr) (fd : FuncData) (ps : List Str) (sp : Sp) : Prop where
  len : ∀ vs H Q E, sp vs H Q E → vs.length = ps.length
  run : ∀ (A : Around) (outer : List Env) (s : Shared) (H : Hp) (args : Args) (us : List Value) (vs : List V) (Q : VK) (E : XK), Room k A → Env0 P w K mg base A outer s H → BindsTo s fd args (ps.zip us) → Vals vs us → sp vs H Q E →
    codeAny (model P w) A (.call (.ref f) args) (CR CX outer P w H s Q E) s
section
variable {X : Cx} {pins : List (Addr × Obj)} {σ : St} {H : Hp} {s s' : Shared}

theorem Inv.env0 (I : Inv X pins σ H s) : Env0 X.prog X.w X.K X.mg X.base X.A X.stack s H :=
  ⟨I.ok.frames, I.ok.mod, I.bs, Nat.le_trans I.ok.bsz I.sz, I.stack, I.stkFree, I.hok, I.bare⟩

theorem Inv.after {Q : VK} {u : Value} (I : Inv X pins σ H s) (h : CE X.stack X.prog X.w H s Q u s') : EP X pins σ Q u s' := by
  obtain ⟨v, H', os, bare, un, hok, r, q⟩ := h
  obtain ⟨hh, g, d, t, os'⟩ := s'
  obtain rfl : os' = s.os := os
  exact ⟨v, H', I.call (h' := hh) (g' := g) (d' := d) (t' := t) (ch := []) un hok bare (fun b z => absurd z (by simp)), r, q⟩
end



noncomputable def tCall (sp : Sp) (dvs : List V) (E : XK) (t : TA) : TE := fun σ H Q => t σ H fun vs H1 => sp (vs ++ dvs) H1 Q E

noncomputable def Binds (K : PySem.W.Frag) (fd : FuncData) (ps : List Str) (ds : List Value) : Prop :=
  ∀ (s : Shared) (us : List Value), K.In s.heap → (us ++ ds).length = ps.length → BindsTo s fd ⟨us, []⟩ (ps.zip (us ++ ds))

theorem Binds.all {K : PySem.W.Frag} {fd : FuncData} {ps : List Str} (h : ∀ us : List Value, us.length = ps.length → bindArgs fd ⟨us, []⟩ = pure (ps.zip us)) : Binds K fd ps [] := fun s us _ hl => by
  rw [List.append_nil] at hl ⊢
  exact .of_eq (h us hl)


noncomputable def Passes (CX : CXT) (X : Cx) (E : XK) : Prop := ∀ (pins : List (Addr × Obj)) (σ : St) (H : Hp) (s : Shared) (e : Value) (s' : Shared), Inv X pins σ H s → CX X.stack H s E e s' → X.xe e s'

section
variable {X : Cx} {CX : CXT} {k : Nat} {f C : Addr} {fd : FuncData} {ps : List Str} {sp : Sp} {dvs : List V} {ds : List Value} {E : XK} {x m : Str} {p pos apos : Pos} {e o : Expr} {es : List Expr} {ta : TE} {t : TA}


theorem run_fn {pins : List (Addr × Obj)} {σ : St} {H : Hp} {s : Shared} {Q : VK} {us : List Value} {vs : List V} (F : FnOk X.prog X.w X.K X.mg X.base CX k f fd ps sp) (hr : Room k X.A) (hb : Binds X.K fd ps ds) (hd : Vals dvs ds) (hx : Passes CX X E)
    (I : Inv X pins σ H s) (r : Vals vs us) (h : sp (vs ++ dvs) H Q E) : wpAny (model X.prog X.w) X.A (call (.ref f) us) (EP X pins σ Q) X.xe s := by
  have r2 : Vals (vs ++ dvs) (us ++ ds) := r.append hd
  have hl : (us ++ ds).length = ps.length := by rw [← r2.length]; exact F.len _ _ _ _ h
  refine wpAny_call (codeAny_mono (F.run X.A X.stack s H ⟨us, []⟩ (us ++ ds) (vs ++ dvs) Q E hr I.env0 (hb s us I.kIn hl) r2 h) fun r s' hq => ?_)
  cases r with
  | error e => exact hx pins σ H s e s' I hq
  | ok fl =>
    cases fl with
    | ret u => exact I.after hq
    | next => exact False.elim hq
    | brk => exact False.elim hq
    | cont => exact False.elim hq

theorem pe_call (F : FnOk X.prog X.w X.K X.mg X.base CX k f fd ps sp) (hr : Room k X.A) (hg : Gl X x) (hm : X.mg x = some (.ref f)) (hk : PySem.W.keepIn X.K (.ref f) = true) (hb : Binds X.K fd ps ds) (hd : Vals dvs ds) (hx : Passes CX X E)
    (ha : PA X (e :: es) t) (hdb : (x == ("__debug__" : Str)) = false := by decide) (he : starEach (e :: es) X.env = (false, eval e X.env) :: starEach es X.env := by rfl) (hpl : (backTo pos (starEach es X.env)).any (·.1) = false := by rfl) :
    PE X (.Call (.Name x p) (e :: es) [] pos) (tCall sp dvs E t) := by
  intro pins s σ H Q I h
  refine wpAny_Call_Name_kw (ld_glob I hg hm ?_ hdb)
  refine PySem.W.callWith_K (h₀ := X.base) I.ok.mod.kin hk (thn (ha pos pins s σ H _ I h) fun us s1 ⟨vs, H1, I1, r, q⟩ => ⟨I1.kIn, ?_⟩) he hpl
  exact run_fn F hr hb hd hx I1 r q
theorem pe_call0 (F : FnOk X.prog X.w X.K X.mg X.base CX k f fd ps sp) (hr : Room k X.A) (hg : Gl X x) (hm : X.mg x = some (.ref f)) (hk : PySem.W.keepIn X.K (.ref f) = true) (hb : Binds X.K fd ps ds) (hd : Vals dvs ds) (hx : Passes CX X E)
    (hdb : (x == ("__debug__" : Str)) = false := by decide) : PE X (.Call (.Name x p) [] [] pos) (tCall sp dvs E tNil) := by
  intro pins s σ H Q I h
  refine wpAny_Call_Name_kw (ld_glob I hg hm ?_ hdb)
  exact PySem.W.callWith_K0 I.kIn hk (run_fn (us := []) F hr hb hd hx I .nil h)


structure Mk (K : PySem.W.Frag) (C f : Addr) : Prop where
  makes : PySem.W.makesIn K C = true
  init : PySem.W.findIn K (.ref C) "__init__" = some (some (.ref f))
  fn : PySem.W.isFn K (.ref f) = true
  kp : PySem.W.keepIn K (.ref C) = true

end



section
variable {X : Cx} {CX : CXT} {k : Nat} {f C : Addr} {fd : FuncData} {ps ks : List Str} {sp : Sp} {E : XK} {x m : Str} {p pos apos kpos : Pos} {e o : Expr} {es : List Expr} {kws : List Keyword} {te ta : TE} {t tk : TA} {nm : Option Str}
variable {g : List Value → List Value → List Value} {gV : List V → List V → List V}
end



structure FnScope (N P : List Str) (sc : Scope) : Prop where
  kind : sc.kind = .function
  co : sc.isCoroutine = false
  gen : sc.isGenerator = false
  nd : N.Nodup
  pre : N.take P.length = P
  par : ∀ x ∈ P, sc.names.lookup x = some .local ∨ sc.names.lookup x = some .cell
  nofree : ∀ y ∈ sc.names, y.2 ≠ .free

theorem bindL_out {kindOf : Str → Option NameKind} {x : Str} : ∀ {binds : List (Str × Value)} {m : Str → Option Value}, (∀ v, (x, v) ∉ binds) → bindL kindOf binds m x = m x
  | [], _, _ => rfl
  | (n, v) :: r, m, h => by
    unfold bindL
    rw [bindL_out fun w hw => h w (List.mem_cons_of_mem _ hw)]
    split
    · have : x ≠ n := by rintro rfl; exact h v List.mem_cons_self
      simp [this]
    · rfl
theorem bindC_out {kindOf : Str → Option NameKind} {x : Str} : ∀ {binds : List (Str × Value)} {m : Str → Option Value}, (∀ v, (x, v) ∉ binds) → bindC kindOf binds m x = m x
  | [], _, _ => rfl
  | (n, v) :: r, m, h => by
    unfold bindC
    rw [bindC_out fun w hw => h w (List.mem_cons_of_mem _ hw)]
    split
    · rfl
    · have : x ≠ n := by rintro rfl; exact h v List.mem_cons_self
      simp [this]
theorem bindL_get {kindOf : Str → Option NameKind} {x : Str} {v : Value} : ∀ {P : List Str} {vs : List Value} {i : Nat} {m : Str → Option Value}, P.Nodup → P[i]? = some x → vs[i]? = some v → kindOf x = some .local →
    bindL kindOf (P.zip vs) m x = some v
  | [], _, _, _, _, h, _, _ => by simp at h
  | _ :: _, [], _, _, _, _, h, _ => by simp at h
  | p :: P, w :: vs, 0, m, nd, h1, h2, hk => by
    simp at h1 h2; subst h1; subst h2
    show bindL kindOf ((p, w) :: P.zip vs) m p = _
    unfold bindL
    rw [bindL_out fun v hv => (List.nodup_cons.mp nd).1 (List.of_mem_zip hv).1, if_pos hk]
    simp
  | p :: P, w :: vs, i + 1, m, nd, h1, h2, hk => by
    show bindL kindOf ((p, w) :: P.zip vs) m x = _
    unfold bindL
    exact bindL_get (i := i) (List.nodup_cons.mp nd).2 (by simpa using h1) (by simpa using h2) hk
theorem bindC_get {kindOf : Str → Option NameKind} {x : Str} {v : Value} : ∀ {P : List Str} {vs : List Value} {i : Nat} {m : Str → Option Value}, P.Nodup → P[i]? = some x → vs[i]? = some v → kindOf x ≠ some .local →
    bindC kindOf (P.zip vs) m x = some v
  | [], _, _, _, _, h, _, _ => by simp at h
  | _ :: _, [], _, _, _, _, h, _ => by simp at h
  | p :: P, w :: vs, 0, m, nd, h1, h2, hk => by
    simp at h1 h2; subst h1; subst h2
    show bindC kindOf ((p, w) :: P.zip vs) m p = _
    unfold bindC
    rw [bindC_out fun v hv => (List.nodup_cons.mp nd).1 (List.of_mem_zip hv).1, if_neg hk]
    simp
  | p :: P, w :: vs, i + 1, m, nd, h1, h2, hk => by
    show bindC kindOf ((p, w) :: P.zip vs) m x = _
    unfold bindC
    exact bindC_get (i := i) (List.nodup_cons.mp nd).2 (by simpa using h1) (by simpa using h2) hk


noncomputable def start (N : List Str) (vs : List V) : St := vs.map some ++ List.replicate (N.length - vs.length) none


noncomputable def cxOf (CX : CXT) (P : Program) (w : World) (K : PySem.W.Frag) (mg : Str → Option Value) (base : Heap) (N : List Str) (qual : Str) (scope : Scope) (f : Addr) (cd : Value) (A : Around) (outer : List Env) (s : Shared) (H : Hp) (E : XK) : Cx where
  prog := P
  w := w
  K := K
  mg := mg
  base := base
  A := A.deeper (envOfC qual scope s.heap.objs.size f cd)
  N := N
  s₀ := s
  H₀ := H
  env := envOfC qual scope s.heap.objs.size f cd
  outer := outer
  stack := envOfC qual scope s.heap.objs.size f cd :: outer
  ex := []
  calm := true
  fn := fun _ => true
  pn := []
  xe := fun e s' => wpAny (model P w) (A.deeper (envOfC qual scope s.heap.objs.size f cd)) (leaving (envOfC qual scope s.heap.objs.size f cd) e) (fun _ s'' => CX outer H s E e s'') (fun e' s'' => CX outer H s E e' s'') s'

theorem cell_has {sc : Scope} {n : Nat} {x : Str} (h : sc.names.lookup x = some .cell) : ∃ c, (cellsFrom n sc.names []).lookup x = some c := by
  have q := PySem.W.cellsFrom_some sc.names n [] (.inl h)
  exact Option.isSome_iff_exists.mp q

theorem inv_start {CX : CXT} {P : Program} {w : World} {K : PySem.W.Frag} {mg : Str → Option Value} {base : Heap} {N ps : List Str} {qual : Str} {scope : Scope} {f : Addr} {cd : Value} {A : Around} {outer : List Env} {s s1 : Shared} {H : Hp} {E : XK} {us : List Value} {vs : List V}
    (S : FnScope N ps scope) (hd : A.handled = none) (e0 : Env0 P w K mg base A outer s H) (hl : vs.length = ps.length) (r : Vals vs us)
    (x : InCallC s s.heap.objs.size (bindL (envOfC qual scope s.heap.objs.size f cd).kindOf (ps.zip us) fun _ => none) (cellsFrom (s.heap.objs.size + 1) scope.names []) (bindC (envOfC qual scope s.heap.objs.size f cd).kindOf (ps.zip us) fun _ => none) s1) :
    Inv (cxOf CX P w K mg base N qual scope f cd A outer s H E) [] (start N vs) H s1 := by
  have hpl : ps.length ≤ N.length := by have := congrArg List.length S.pre; rw [List.length_take] at this; omega
  obtain ⟨h1, tk, rfl, hk⟩ := x.done
  have noA : ∀ b : Addr, b ∉ (cxOf CX P w K mg base N qual scope f cd A outer s H E).ex := fun b z => absurd (show b ∈ ([] : List Addr) from z) (by simp)
  refine ⟨⟨e0.mod, S.kind, rfl, rfl, Nat.le_refl _, fun y z c h1 h2 => ?_, fun y hy => ?_, fun y c _ h => ?_, fun _ => hd, Around.frames_deeper e0.frames, .inr ⟨rfl, rfl⟩, fun b z => absurd z (noA b), e0.bs, e0.bsz, fun b _ _ => noA b, fun b z => absurd z (noA b), e0.funs, e0.frf⟩,
    rfl, e0.bare, Un.kept hk, ⟨_, x.toInCall.ns, fun i y v h1 h2 h3 => ?_⟩, fun y c h => ⟨_, x.cell y c h⟩, e0.hok.fresh (Nat.le_refl _), fun y c h => ?_, fun p hp => absurd (show p ∈ ([] : List (Addr × Obj)) from hp) (by simp), e0.hok.kept hk, ?_⟩
  · exact name_of_addr x.apart (PySem.mem_of_lookup h1) (PySem.mem_of_lookup h2)
  · have hy : scope.names.lookup y = some .cell ∨ scope.names.lookup y = some .free := hy
    rcases hy with hy | hy
    · exact cell_has hy
    · exact absurd rfl (S.nofree _ (PySem.mem_of_lookup hy))
  · exact Nat.le_of_lt (x.above y c (PySem.mem_of_lookup h))
  · have hi : i < vs.length := by
      unfold start at h2
      by_cases hi : i < vs.length
      · exact hi
      · rw [List.getElem?_append_right (by simpa using hi)] at h2
        rw [List.getElem?_replicate] at h2
        split at h2 <;> cases h2
    have ha : vs[i]? = some v := by
      unfold start at h2
      rw [List.getElem?_append_left (by simpa using hi), List.getElem?_map] at h2
      cases e : vs[i]? with
      | none => rw [e] at h2; cases h2
      | some a => rw [e] at h2; cases h2; rfl
    obtain ⟨u, hu, rv⟩ := r.get ha
    have hp : ps[i]? = some y := by
      rw [← S.pre, List.getElem?_take_of_lt (by omega)]; exact h1
    have ndP : ps.Nodup := by rw [← S.pre]; exact S.nd.sublist (List.take_sublist _ _)
    refine ⟨u, rv, ?_⟩
    rcases S.par y (List.mem_of_getElem? hp) with k | k
    · exact .inl ⟨k, bindL_get ndP hp hu k⟩
    · obtain ⟨c, e⟩ := cell_has (n := s.heap.objs.size + 1) k
      refine .inr ⟨.inl k, c, e, ?_⟩
      have q := x.cell y c e
      rw [bindC_get ndP hp hu (by show scope.names.lookup y ≠ _; rw [k]; decide)] at q
      exact q
  · exact e0.hok.fresh (Nat.le_of_lt (x.above y c (PySem.mem_of_lookup h)))
  · unfold start
    show _ = N.length
    rw [List.length_append, List.length_map, List.length_replicate]
    omega


theorem fn_of {CX : CXT} {P : Program} {w : World} {K : PySem.W.Frag} {mg : Str → Option Value} {base : Heap} {k : Nat} {f : Addr} {name qual : Str} {params : Arguments} {body : List Stmt} {scope : Scope} {dV kV doc pm cdv ct oc : Value} {an od : Option Addr}
    {osl : Array (Option Value)} {N ps : List Str} {sp : Sp} (lk : K.lookup f = some ⟨oc, od, .func (PySem.W.fnOf name qual params body scope dV kV doc pm an cdv ct), osl⟩) (hcd : PySem.W.codeIn K cdv qual = true) (S : FnScope N ps scope)
    (len : ∀ vs H Q E, sp vs H Q E → vs.length = ps.length)
    (hbody : ∀ (A : Around) (outer : List Env) (s : Shared) (H : Hp) (vs : List V) (Q : VK) (E : XK), Room k (A.deeper (envOfC qual scope s.heap.objs.size f cdv)) → sp vs H Q E →
      ∃ t, PSs (cxOf CX P w K mg base N qual scope f cdv A outer s H E) body t ∧ t { nx := fun _ H' => Q .non H', rt := Q } (start N vs) H) :
    FnOk P w K mg base CX (k + 1) f (PySem.W.fnOf name qual params body scope dV kV doc pm an cdv ct) ps sp := by
  refine ⟨len, fun A outer s H args us vs Q E hr e0 hb r hsp => ?_⟩
  have hl := len _ _ _ _ hsp
  have KX : K.In s.heap := e0.mod.kin.keeps fun b o e => (e0.bs b o e).1
  have lim : s.heap.NoLimit := e0.mod.nolimit.keeps fun b o e => (e0.bs b o e).1
  have hkind : ∀ y ∈ ps.zip us, scope.names.lookup y.1 = some .local ∨ (scope.names.lookup y.1 = some .cell ∧ ((cellsFrom (s.heap.objs.size + 1) scope.names []).lookup y.1).isSome = true) := fun ⟨n, v⟩ hy => by
    rcases S.par n (List.of_mem_zip hy).1 with q | q
    · exact .inl q
    · exact .inr ⟨q, PySem.W.cellsFrom_some _ _ _ (.inl q)⟩
  refine codeAny_call_function hr.depth (KX _ _ lk) rfl S.co S.gen rfl (PySem.W.codeRec_of KX hcd) (hb _ _ _ _ ?_)
  refine wpAny_newFunctionEnv_cells S.kind hkind fun env he s1 x => ?_
  subst he
  refine ⟨lim.keeps x.toInCall.keep, codeAny_func ?_⟩
  obtain ⟨t, ht, hq⟩ := hbody A outer s H vs Q E (hr.deeper _) hsp
  have I : Inv (cxOf CX P w K mg base N qual scope f cdv A outer s H E) [] (start N vs) H s1 := inv_start S hr.hd e0 hl r x
  refine wpAny_mono (ht [] s1 (start N vs) H _ I hq) (fun fl s' hs => ?_) fun e s' hs => hs
  have fin : ∀ {σ' : St} {H' : Hp} {v : V} {u : Value}, Inv (cxOf CX P w K mg base N qual scope f cdv A outer s H E) [] σ' H' s' → RelV v u → Q v H' → CE outer P w H s Q u s' :=
    fun {σ' H' v u} J rv q => ⟨v, H', J.os, J.bare, J.base, J.hok, rv, q⟩
  cases fl with
  | ret u =>
    obtain ⟨v, σ', H', J, rv, q⟩ := hs
    exact fin J rv q
  | next =>
    obtain ⟨σ', H', J, q⟩ := hs
    exact fin (v := V.non) (u := Value.none) J rfl q
  | brk =>
    obtain ⟨_, _, _, q⟩ := hs
    exact False.elim q
  | cont =>
    obtain ⟨_, _, _, q⟩ := hs
    exact False.elim q
end L2

namespace L2
open PySem PySem.Spec PyProof.Rows
section
variable {X : Cx} {x : Str} {p pos : Pos} {e : Expr} {es : List Expr} {t : TA} {id T : String} {r : List V → Hp → VK → Prop}

noncomputable def tCB (r : List V → Hp → VK → Prop) (t : TA) : TE := fun σ H Q => t σ H fun vs H1 => r vs H1 Q

theorem pe_callB (hc : CallR X (.builtin id) r) (hg : Gl X x) (hm : X.mg x = none) (hv : bootBuiltins x = some (.builtin id)) (ha : PA X (e :: es) t) (hn : x ≠ "__name__" := by decide) (hdb : (x == ("__debug__" : Str)) = false := by decide)
    (he : starEach (e :: es) X.env = (false, eval e X.env) :: starEach es X.env := by rfl) (hpl : (backTo pos (starEach es X.env)).any (·.1) = false := by rfl) : PE X (.Call (.Name x p) (e :: es) [] pos) (tCB r t) := by
  intro pins s σ H Q I h
  refine wpAny_Call_Name_kw (ld_blt I hg hm hv ?_ hn hdb)
  exact PyProof.Rows.callWith_builtin1 (thn (ha pos pins s σ H _ I h) fun us s1 ⟨vs, H1, I1, r1, q1⟩ => hc pins s1 σ H1 vs us Q I1 r1 q1) he hpl

theorem pe_callTy (hc : CallR X (.type T) r) (hg : Gl X x) (hm : X.mg x = none) (hv : bootBuiltins x = some (.type T)) (ha : PA X (e :: es) t) (hn : x ≠ "__name__" := by decide) (hdb : (x == ("__debug__" : Str)) = false := by decide)
    (he : starEach (e :: es) X.env = (false, eval e X.env) :: starEach es X.env := by rfl) (hpl : (backTo pos (starEach es X.env)).any (·.1) = false := by rfl) : PE X (.Call (.Name x p) (e :: es) [] pos) (tCB r t) := by
  intro pins s σ H Q I h
  refine wpAny_Call_Name_kw (ld_blt I hg hm hv ?_ hn hdb)
  exact PyProof.Rows.callWith_type1 (thn (ha pos pins s σ H _ I h) fun us s1 ⟨vs, H1, I1, r1, q1⟩ => hc pins s1 σ H1 vs us Q I1 r1 q1) he hpl

end
end L2

namespace HT
open PySem PyProof.Rows


section
open PySem.SeqAt
open PySem.AutoSeq1 (wpAny_loadPart')
open PySem.MeetsSeq PySem.MeetsSeq2 PySem.MeetsSeq3

end

section
variable {prog : Program} {w : World} {A : Around} {E : Value → Shared → Prop} {s : Shared}

theorem cat_tup {t b : Addr} {vs ws : List Value} {Q : Value → Shared → Prop} (ht : IsTup s.heap t vs.toArray) (hb : IsTup s.heap b ws.toArray) (hv : vs ≠ [])
    (h1 : ws = [] → Q (.ref t) s) (h2 : ws ≠ [] → Q (.ref s.heap.objs.size) { s with heap := s.heap.push { cls := .type "tuple", data := .seq (vs ++ ws).toArray } })
    (hsz : vs.length + ws.length ≤ sizeLine) : wpAny (model prog w) A (binaryOp .Add (.ref t) (.ref b)) Q E s := by
  obtain ⟨⟨cls, dd, data, sl⟩, ho, hc, n, hd⟩ := id ht
  obtain ⟨⟨cls2, dd2, data2, sl2⟩, ho2, hc2, n2, hd2⟩ := id hb
  simp only at hc hd hc2 hd2
  subst hc hd hc2 hd2
  have e : vs.toArray ++ ws.toArray = (vs ++ ws).toArray := by simp
  by_cases hw : ws = []
  · exact concat_meets ⟨_, ho, rfl⟩ ⟨_, ho2, rfl⟩ noFill_tuple_add seq_tuple_add PySem.F.slot_tuple_add PySem.F.entry_tuple_add (PySem.F.args_tuple_add_2 _ _)
      (tuple_addW1 t b vs.toArray ws.toArray n n2 dd dd2 sl sl2 (by simpa using hv) (by simp [hw])) ⟨ho, ho2, h1 hw⟩
  · refine concat_meets ⟨_, ho, rfl⟩ ⟨_, ho2, rfl⟩ noFill_tuple_add seq_tuple_add PySem.F.slot_tuple_add PySem.F.entry_tuple_add (PySem.F.args_tuple_add_2 _ _)
      (tuple_addW2 t b vs.toArray ws.toArray n n2 dd dd2 sl sl2 (by simpa using hv) (by simpa using hw) (by rw [List.size_toArray, List.size_toArray]; exact hsz)) ⟨ho, ho2, ?_⟩
    rw [e]
    exact h2 hw



noncomputable def sIx (n d : Nat) : Option Int → Nat
  | none => d
  | some v => if v < 0 then (v + (n : Int)).toNat else min v.toNat n
theorem sIx_none (n d : Nat) : sIx n d none = d := rfl
theorem sIx_nat (n d k : Nat) : sIx n d (some (k : Int)) = min k n := by
  show (if (k : Int) < 0 then ((k : Int) + (n : Int)).toNat else min (k : Int).toNat n) = min k n
  rw [if_neg (by omega), Int.toNat_natCast]
theorem sIx_le (n d : Nat) (hd : d ≤ n) (o : Option Int) : sIx n d o ≤ n := by
  cases o with
  | none => exact hd
  | some v =>
    show (if v < 0 then (v + (n : Int)).toNat else min v.toNat n) ≤ n
    by_cases hv : v < 0
    · rw [if_pos hv]; omega
    · rw [if_neg hv]; exact Nat.min_le_right _ _
theorem clip_eq (v : Int) (n d : Nat) : (if v < 0 then max (v + (n : Int)) 0 else min v (n : Int)) = ((sIx n d (some v) : Nat) : Int) := by
  show (if v < 0 then max (v + (n : Int)) 0 else min v (n : Int)) = (((if v < 0 then (v + (n : Int)).toNat else min v.toNat n) : Nat) : Int)
  by_cases hv : v < 0
  · simp only [if_pos hv]; omega
  · simp only [if_neg hv]; omega
theorem adjust_gen (lo hi : Option Int) (n : Nat) : Builtin.Slice.sliceAdjust lo hi 1 (n : Int) = (((sIx n 0 lo : Nat) : Int), ((sIx n n hi : Nat) : Int)) := by
  have h1 : ¬ ((1 : Int) < 0) := by omega
  unfold Builtin.Slice.sliceAdjust
  simp only [h1, if_false]
  refine Prod.ext ?_ ?_
  · cases lo with
    | none => rfl
    | some v => exact clip_eq v n 0
  · cases hi with
    | none => rfl
    | some v => exact clip_eq v n n
theorem places_gen (i j : Nat) : Builtin.Slice.slicePlaces (i : Int) (j : Int) 1 = j - i := by
  unfold Builtin.Slice.slicePlaces
  have h1 : (1 : Int) > 0 := by omega
  simp only [h1, if_true, Int.ediv_one]
  split <;> omega
theorem slicePart_ {v : Value} {o : Option Int} {Q : Option Int → Shared → Prop} (p : IsPart v o) (h : Q o s) : wpAny (model prog w) A (Builtin.Slice.slicePartIndex v) Q E s := by
  cases p with
  | none => exact slicePart_none h
  | int i t => exact slicePart_int h
theorem sliceApplied_gen {sl : Addr} {vl vu : Value} {lo hi : Option Int} {n : Nat} {Q : Int × Int × Nat → Shared → Prop} (hs : s.heap.IsSliceOf sl vl vu .none) (pl : IsPart vl lo) (pu : IsPart vu hi)
    (h : Q (((sIx n 0 lo : Nat) : Int), 1, sIx n n hi - sIx n 0 lo) s) : wpAny (model prog w) A (Builtin.Slice.sliceApplied (.ref sl) (pure (n : Int))) Q E s := by
  obtain ⟨os, hos, hcs, hds⟩ := id hs
  unfold Builtin.Slice.sliceApplied Builtin.Slice.sliceFields
  refine wpAny_bind (wpAny_bind (wpAny_field hos hds (x := vl) rfl (wpAny_bind (wpAny_field hos hds (x := vu) rfl (wpAny_bind (wpAny_field hos hds (x := .none) rfl (wpAny_pure ?_)))))))
  refine wpAny_bind (slicePart_none ?_)
  show wpAny _ _ (if ((1 : Int) == 0) = true then _ else _) _ _ s
  rw [if_neg (by decide)]
  refine wpAny_bind (slicePart_ pl (wpAny_bind (slicePart_ pu (wpAny_bind (wpAny_pure ?_)))))
  show wpAny _ _ (match Builtin.Slice.sliceAdjust lo hi 1 (n : Int) with | (lo, hi) => pure (lo, (1 : Int), Builtin.Slice.slicePlaces lo hi 1)) _ _ s
  rw [adjust_gen lo hi n]
  show wpAny _ _ (pure (((sIx n 0 lo : Nat) : Int), (1 : Int), Builtin.Slice.slicePlaces ((sIx n 0 lo : Nat) : Int) ((sIx n n hi : Nat) : Int) 1)) _ _ s
  rw [places_gen]
  exact wpAny_pure h
theorem pick_gen (xs : Array Value) (i k : Nat) : ((List.range k).filterMap fun (m : Nat) => xs[((i : Int) + (m : Int) * 1).toNat]?).toArray = ((xs.toList.drop i).take k).toArray := by
  have e : (fun (m : Nat) => xs[((i : Int) + (m : Int) * 1).toNat]?) = fun m => xs[i + m]? := by
    funext m
    have : ((i : Int) + (m : Int) * 1).toNat = i + m := by omega
    rw [this]
  rw [e]
  have := pick_run xs i k
  rw [List.filterMap_map] at this
  have e2 : ((fun x => xs[x]?) ∘ fun x => i + x) = fun m => xs[i + m]? := rfl
  rw [e2] at this
  rw [this]

theorem getItem_tuple_cut {t sl : Addr} {items : Array Value} {vl vu : Value} {lo hi : Option Int} {Q : Value → Shared → Prop} (ht : IsTup s.heap t items) (hs : s.heap.IsSliceOf sl vl vu .none) (pl : IsPart vl lo) (pu : IsPart vu hi)
    (hw : ¬ (sIx items.size 0 lo = 0 ∧ sIx items.size items.size hi = items.size))
    (h : Q (.ref s.heap.objs.size) { s with heap := s.heap.push { cls := .type "tuple", data := .seq ((items.toList.drop (sIx items.size 0 lo)).take (sIx items.size items.size hi - sIx items.size 0 lo)).toArray } })
    (hsz : items.size ≤ sizeLine) : wpAny (model prog w) A (getItem (.ref t) (.ref sl)) Q E s := by
  have htake : sizeOk (.seq ((items.toList.drop (sIx items.size 0 lo)).take (sIx items.size items.size hi - sIx items.size 0 lo)).toArray) := by
    show ((items.toList.drop (sIx items.size 0 lo)).take (sIx items.size items.size hi - sIx items.size 0 lo)).toArray.size ≤ sizeLine
    rw [List.size_toArray, List.length_take, List.length_drop, Array.length_toList]
    omega
  have hj : sIx items.size items.size hi ≤ items.size := sIx_le _ _ (Nat.le_refl _) hi
  obtain ⟨os, hos, hcs, hds⟩ := id hs
  have hTs : s.TypeIs (.ref sl) "slice" := ⟨os, hos, hcs⟩
  unfold getItem
  try with_reducible refine wpAny_holding ?_
  first | refine wpAny_bind (wpAny_pure ?_) | skip
  refine wpAny_bind (wpAny_sequenceKey ht.typeIs (by decide) ?_)
  refine wpAny_bind (wpAny_callSpecial?_slot (name := Str.ofString "__getitem__") ht.typeIs PyProof.Rows.slot_tuple_getitem
    (wpAny_call_entry PyProof.Rows.slot_tuple_getitem ht.typeIs entry_tuple_getitem ?_ (args_tuple_getitem _ _)))
  show wpAny _ _ (Builtin.Tuple.tupleItemsOf (.ref t) >>= _) _ _ s
  refine wpAny_bind (tupleItemsOf_ ht ?_)
  refine wpAny_bind (wpAny_typeOf hTs ?_)
  rw [if_pos (by decide)]
  refine wpAny_bind (sliceApplied_gen hs pl pu ?_)
  have hno : ¬ ((((sIx items.size 0 lo : Nat) : Int) == 0 && (1 : Int) == 1 && (sIx items.size items.size hi - sIx items.size 0 lo) == items.size) = true) := by
    intro q
    rw [Bool.and_eq_true, Bool.and_eq_true] at q
    have q1 : ((sIx items.size 0 lo : Nat) : Int) = 0 := eq_of_beq q.1.1
    have q2 : sIx items.size items.size hi - sIx items.size 0 lo = items.size := eq_of_beq q.2
    exact hw ⟨by omega, by omega⟩
  show wpAny _ _ (if (((sIx items.size 0 lo : Nat) : Int) == 0 && (1 : Int) == 1 && (sIx items.size items.size hi - sIx items.size 0 lo) == items.size) = true then _ else _) _ _ s
  rw [if_neg hno, pick_gen]
  first
    | exact wpAny_bind (m := Builtin.Tuple.tupleExact _) (wpAny_newObj_type (wpAny_pure ⟨_, rfl, wpAny_pure h⟩) htake)
    | exact wpAny_bind (m := Builtin.Tuple.tupleExact _) (wpAny_newObj_type (wpAny_bind (wpAny_pure (wpAny_pure ⟨_, rfl, wpAny_pure h⟩))) htake)
    | exact wpAny_bind (wpAny_bind (m := Builtin.Tuple.tupleExact _) (wpAny_newObj_type (wpAny_pure (wpAny_pure ⟨_, rfl, wpAny_pure h⟩)) htake))
    | exact wpAny_bind (wpAny_bind (m := Builtin.Tuple.tupleExact _) (wpAny_newObj_type (wpAny_pure ⟨_, rfl, wpAny_pure h⟩) htake))
end
end HT

namespace L2
open PySem PySem.Spec PyProof.Rows


noncomputable abbrev TO := St → Hp → (Option Int → Hp → Prop) → Prop

noncomputable def PO (X : Cx) (e : Option Expr) (t : TO) : Prop :=
  ∀ (pins : List (Addr × Obj)) (s : Shared) (σ : St) (H : Hp) (Q : Option Int → Hp → Prop), Inv X pins σ H s → t σ H Q →
    wpAny (model X.prog X.w) X.A (evalPart e X.env) (fun u s' => ∃ o H', Inv X pins σ H' s' ∧ IsPart u o ∧ Q o H') X.xe s
noncomputable def tNoPart : TO := fun _ H Q => Q none H
noncomputable def tPart (t : TE) : TO := fun σ H Q => t σ H fun x H1 => ∃ i, x = .int i ∧ Q (some i) H1

section
variable {X : Cx} {e : Expr} {te : TE} {lo hi : Option Expr} {tl th : TO} {pos p2 : Pos}

theorem po_none : PO X none tNoPart := by
  intro pins s σ H Q I h
  rw [evalPart_none]
  exact wpAny_pure ⟨none, H, I, .none, h⟩
theorem po_some (h : PE X e te) : PO X (some e) (tPart te) := by
  intro pins s σ H Q I hw
  rw [evalPart_some]
  refine thn (h pins s σ H _ I hw) fun u s1 ⟨x, H1, I1, r1, q1⟩ => ?_
  obtain ⟨i, rfl, q⟩ := q1
  obtain ⟨t, rfl⟩ := r1
  exact ⟨some i, H1, I1, .int i t, q⟩


noncomputable def SlR (X : Cx) (r : V → Option Int → Option Int → Hp → VK → Prop) : Prop :=
  ∀ (pins : List (Addr × Obj)) (s : Shared) (σ : St) (H : Hp) (x : V) (v vl vu : Value) (lo hi : Option Int) (sl : Addr) (Q : VK), Inv X pins σ H s → RelV x v → s.heap.IsSliceOf sl vl vu .none → IsPart vl lo → IsPart vu hi → r x lo hi H Q →
    ∃ T id, typeLookup (.type T) "__getitem__" = pure (some (.builtin id)) ∧ s.TypeIs v T ∧ wpAny (model X.prog X.w) X.A (getItem v (.ref sl)) (EP X pins σ Q) X.xe s
noncomputable def tSl (r : V → Option Int → Option Int → Hp → VK → Prop) (te : TE) (tl th : TO) : TE := fun σ H Q => te σ H fun x H1 => tl σ H1 fun l H2 => th σ H2 fun u H3 => r x l u H3 Q

theorem pe_slice {r : V → Option Int → Option Int → Hp → VK → Prop} (hr : SlR X r) (he : PE X e te) (hl : PO X lo tl) (hu : PO X hi th) : PE X (.Subscript e (.Slice lo hi none p2) pos) (tSl r te tl th) := by
  intro pins s σ H Q I h
  refine Subscript_ (thn (he pins s σ H _ I h) fun v s1 ⟨x, H1, I1, r1, q1⟩ => ?_)
  refine wpAny_Slice (thn (hl pins s1 σ H1 _ I1 q1) fun vl s2 ⟨l, H2, I2, pl, q2⟩ => thn (hu pins s2 σ H2 _ I2 q2) fun vu s3 ⟨u, H3, I3, pu, q3⟩ => ?_)
  rw [evalPart_none]
  refine wpAny_pure ?_
  have I4 : Inv X pins σ H3 { s3 with heap := s3.heap.push { cls := .type "slice", data := .fields #[vl, vu, .none] } } := I3.kept (t' := s3.toks) fun b ob q => Heap.get?_push_of_some _ q
  obtain ⟨T, id, hT, ht, hg⟩ := hr pins { s3 with heap := s3.heap.push { cls := .type "slice", data := .fields #[vl, vu, .none] } } σ H3 x v vl vu l u s3.heap.objs.size Q I4 r1 (Heap.IsSliceOf.new ..) pl pu q3
  show wpAny (model X.prog X.w) X.A (subscriptTail e (.Slice lo hi none p2) v (.ref s3.heap.objs.size)) (EP X pins σ Q) X.xe { s3 with heap := s3.heap.push { cls := .type "slice", data := .fields #[vl, vu, .none] } }
  exact tail_any (ops := [.ref s3.heap.objs.size, v]) ht hT hg (by with_unfolding_all rfl)


noncomputable def cutV (xs : List V) (lo hi : Option Int) : List V := (xs.drop (HT.sIx xs.length 0 lo)).take (HT.sIx xs.length xs.length hi - HT.sIx xs.length 0 lo)
theorem cutV_length (xs : List V) (lo hi : Option Int) : (cutV xs lo hi).length ≤ xs.length := by
  unfold cutV
  rw [List.length_take, List.length_drop]
  omega

noncomputable def rSlT (K : PySem.W.Frag) : V → Option Int → Option Int → Hp → VK → Prop := fun x lo hi H Q => ∃ a xs, x = .ref a ∧ SqT K H a xs ∧
  ¬ (HT.sIx xs.length 0 lo = 0 ∧ HT.sIx xs.length xs.length hi = xs.length) ∧ ∀ p, H p = none → Q (.ref p) (upd H p (.tup (cutV xs lo hi)))
theorem sl_tup : SlR X (rSlT X.K) := by
  intro pins s σ H x v vl vu lo hi sl Q I rx hs pl pu h
  obtain ⟨a, xs, rfl, hx, hw, q⟩ := h
  cases rx
  obtain ⟨its, r, ht, hz⟩ := I.tuple hx
  have hlen : its.toArray.size = xs.length := by rw [List.size_toArray]; exact r.length.symm
  refine ⟨"tuple", _, PyProof.Rows.slot_tuple_getitem.lookup, ht.typeIs, ?_⟩
  refine HT.getItem_tuple_cut ht hs pl pu (by rw [hlen]; exact hw) ?_ (by rw [hlen]; exact hz)
  rw [hlen]
  refine ⟨.ref s.heap.objs.size, _, I.laid (t' := s.toks) (o := .tup (cutV xs lo hi)) (fun b ob q => Heap.get?_push_of_some _ q) (Nat.le_refl _) ?_, rfl, q _ (I.hok.fresh (Nat.le_refl _))⟩
  exact ⟨Nat.le_trans (cutV_length xs lo hi) hz, _, (r.drop (HT.sIx xs.length 0 lo)).take (HT.sIx xs.length xs.length hi - HT.sIx xs.length 0 lo), IsTup.new _ _⟩


noncomputable def rCatT (K : PySem.W.Frag) : R2 := fun x y H Q => ∃ a b xs ys, x = .ref a ∧ y = .ref b ∧ SqT K H a xs ∧ SqT K H b ys ∧ xs ≠ [] ∧ xs.length + ys.length ≤ sizeLine ∧
  (ys = [] → Q (.ref a) H) ∧ (ys ≠ [] → ∀ p, H p = none → Q (.ref p) (upd H p (.tup (xs ++ ys))))
theorem Vals.nil_iff {xs : List V} {us : List Value} (r : Vals xs us) : us = [] ↔ xs = [] := by
  cases r with
  | nil => simp
  | cons _ _ => simp
theorem op_catT : OpR X (binaryOp .Add) (rCatT X.K) := by
  intro pins s σ H x y v u Q I rx ry h
  obtain ⟨a, b, xs, ys, rfl, rfl, ha, hb, hx, hz, q1, q2⟩ := h
  cases rx
  cases ry
  obtain ⟨its, r1, p1, _⟩ := I.tuple ha
  obtain ⟨its2, r2, p2, _⟩ := I.tuple hb
  refine HT.cat_tup p1 p2 (fun z => hx (r1.nil_iff.mp z)) (fun z => ⟨.ref a, H, I, rfl, q1 (r2.nil_iff.mp z)⟩) (fun z => ?_) (by rw [← r1.length, ← r2.length]; exact hz)
  refine ⟨.ref s.heap.objs.size, _, I.laid (t' := s.toks) (o := .tup (xs ++ ys)) (fun b ob q => Heap.get?_push_of_some _ q) (Nat.le_refl _) ?_, rfl, q2 (fun w => z (r2.nil_iff.mpr w)) _ (I.hok.fresh (Nat.le_refl _))⟩
  exact ⟨by rw [List.length_append]; exact hz, _, r1.append r2, IsTup.new _ _⟩

end
end L2

namespace L2
open PySem PySem.Spec PyProof.Rows



noncomputable def ixN (n : Nat) (i : Int) : Option Nat := if 0 ≤ i then (if i < n then some i.toNat else none) else if -(n : Int) ≤ i then some (i + n).toNat else none
noncomputable def atI {α : Type} (xs : List α) (i : Int) : Option α := (ixN xs.length i).bind fun j => xs[j]?
theorem ixN_seq {n : Nat} {i : Int} {j : Nat} (h : ixN n i = some j) : seqIndex? i n = some j ∧ j < n ∧ -(n : Int) ≤ i ∧ i < n := by
  unfold ixN at h
  by_cases h0 : 0 ≤ i
  · rw [if_pos h0] at h
    by_cases h1 : i < n
    · rw [if_pos h1] at h
      have e : i.toNat = j := Option.some.inj h
      exact ⟨by rw [seqIndex_of h0 h1, e], by omega, by omega, h1⟩
    · rw [if_neg h1] at h; cases h
  · rw [if_neg h0] at h
    by_cases h1 : -(n : Int) ≤ i
    · rw [if_pos h1] at h
      have e : (i + n).toNat = j := Option.some.inj h
      exact ⟨by rw [seqIndex_neg (by omega) h1, e], by omega, h1, by omega⟩
    · rw [if_neg h1] at h; cases h
theorem atI_get {α : Type} {xs : List α} {i : Int} {v : α} (h : atI xs i = some v) : ∃ j, seqIndex? i xs.length = some j ∧ xs[j]? = some v ∧ j < xs.length ∧ -(xs.length : Int) ≤ i ∧ i < xs.length := by
  unfold atI at h
  cases e : ixN xs.length i with
  | none => rw [e] at h; cases h
  | some j =>
    rw [e] at h
    obtain ⟨h1, h2, h3, h4⟩ := ixN_seq e
    exact ⟨j, h1, h, h2, h3, h4⟩
theorem atI_nat {α : Type} {xs : List α} {j : Nat} {v : α} (h : xs[j]? = some v) : atI xs (j : Int) = some v := by
  have hj : j < xs.length := (List.getElem?_eq_some_iff.mp h).1
  have e : ixN xs.length (j : Int) = some j := by
    unfold ixN
    rw [if_pos (by omega), if_pos (by omega)]; simp
  unfold atI; rw [e]; exact h
noncomputable def PlainIx (b : Expr) : Prop := ∀ o i, subscripted b false o i = operate [o, i] (getItem o i)

noncomputable def IxR (X : Cx) (r : R2) : Prop :=
  ∀ (value slice : Expr) (pins : List (Addr × Obj)) (s : Shared) (σ : St) (H : Hp) (x y : V) (v u : Value) (Q : VK), Inv X pins σ H s → RelV x v → RelV y u → r x y H Q →
    subscripted slice false v u = operate [v, u] (getItem v u) → wpAny (model X.prog X.w) X.A (subscriptTail value slice v u) (EP X pins σ Q) X.xe s

noncomputable def MtR (X : Cx) (id : String) (r : V → List V → Hp → VK → Prop) : Prop :=
  ∀ (pins : List (Addr × Obj)) (s : Shared) (σ : St) (H : Hp) (x : V) (xs : List V) (v : Value) (us : List Value) (Q : VK), Inv X pins σ H s → RelV x v → Vals xs us → r x xs H Q →
    wpAny (model X.prog X.w) X.A (call (.builtin id) (v :: us)) (EP X pins σ Q) X.xe s
section
variable {X : Cx} {a b : Expr} {ta tb : TE} {pos : Pos}
theorem pe_ix {r : R2} (hr : IxR X r) (ha : PE X a ta) (hb : PE X b tb) (hs : PlainIx b) : PE X (.Subscript a b pos) (tOp r ta tb) := by
  intro pins s σ H Q I h
  exact Subscript_ (binT ha hb I h fun v u s2 x y H2 I2 rx ry q => hr a b pins s2 σ H2 x y v u Q I2 rx ry q (hs _ _))

noncomputable def rIxL (K : PySem.W.Frag) : R2 := fun x y H Q => ∃ p xs i v, x = .ref p ∧ y = .int i ∧ SqL K H p xs ∧ atI xs i = some v ∧ Q v H
noncomputable def rIxT (K : PySem.W.Frag) : R2 := fun x y H Q => ∃ p xs i v, x = .ref p ∧ y = .int i ∧ SqT K H p xs ∧ atI xs i = some v ∧ Q v H
noncomputable def rIxS : R2 := fun x y H Q => ∃ z i c, x = .str z ∧ y = .int i ∧ z.length ≤ sizeLine ∧ atI z.cps.toList i = some c ∧ Q (.str ⟨#[c]⟩) H
theorem ix_list : IxR X (rIxL X.K) := by
  intro value slice pins s σ H x y v u Q I rx ry h hs
  obtain ⟨p, xs, i, z, rfl, rfl, hq, he, q⟩ := h
  cases rx
  obtain ⟨t, rfl⟩ := ry
  obtain ⟨its, r, pl, hz⟩ := I.list hq
  obtain ⟨j, h1, h2, h3, h4, h5⟩ := atI_get he
  obtain ⟨w, ew, rw'⟩ := r.get h2
  have hl := r.length
  have hn := line63
  have fin : EP X pins σ Q w s := ⟨z, H, I, rw', q⟩
  by_cases h0 : 0 ≤ i
  · have hj : i.toNat = j := by
      rw [seqIndex_of h0 h5] at h1
      exact Option.some.inj h1
    exact item_listR pl.isList h0 (by omega) (by rw [hj]; simpa using ew) fin hs
  · have hj : (i + (its.toArray.size : Int)).toNat = j := by
      rw [seqIndex_neg (by omega) h4] at h1
      rw [List.size_toArray, ← hl]
      exact Option.some.inj h1
    exact subscriptTail_builtinR (x := w) pl.isList.typeIs slot_list_getitem.lookup
      (wpAny_getItem_list_neg (Q := fun r s' => r = w ∧ EP X pins σ Q r s') pl.isList (by omega) (by rw [List.size_toArray] <;> omega) (by omega) (by rw [hj]; simpa using ew) ⟨rfl, fin⟩) hs
theorem ix_tup : IxR X (rIxT X.K) := by
  intro value slice pins s σ H x y v u Q I rx ry h hs
  obtain ⟨p, xs, i, z, rfl, rfl, hq, he, q⟩ := h
  cases rx
  obtain ⟨t, rfl⟩ := ry
  obtain ⟨its, r, pl, hz⟩ := I.tuple hq
  obtain ⟨j, h1, h2, h3, h4, h5⟩ := atI_get he
  obtain ⟨w, ew, rw'⟩ := r.get h2
  have hl := r.length
  have hn := line63
  have fin : EP X pins σ Q w s := ⟨z, H, I, rw', q⟩
  exact subscriptTail_builtinR (x := w) pl.typeIs slot_tuple_getitem.lookup
    (getItem_tuple (j := j) (Q := fun r s' => r = w ∧ EP X pins σ Q r s') pl (by omega) (by omega) (by rw [List.size_toArray, ← hl]; exact h1) (by simpa using ew) ⟨rfl, fin⟩) hs
theorem ix_str : IxR X rIxS := by
  intro value slice pins s σ H x y v u Q I rx ry h hs
  obtain ⟨z, i, c, rfl, rfl, hz, he, q⟩ := h
  obtain ⟨t, rfl⟩ := rx
  obtain ⟨t', rfl⟩ := ry
  obtain ⟨j, h1, h2, h3, h4, h5⟩ := atI_get he
  have hl : z.cps.toList.length = z.length := by simp [Str.length]
  rw [hl] at h1 h4 h5
  have hn := line63
  exact tail_any (typeIs_str s z t) slot_str_getitem.lookup (getItem_str (c := c) (by
    have e1 : decide (i < -(2 ^ 63 : Int)) = false := decide_eq_false (by omega)
    have e2 : decide (i ≥ 2 ^ 63) = false := decide_eq_false (by omega)
    rw [e1, e2, Bool.or_false]) (by rw [h1]; simpa using h2) ⟨.str ⟨#[c]⟩, H, I.tok _, ⟨_, rfl⟩, q⟩) hs

theorem mapSeq_set (its : List Value) (n j : Nat) (u : Value) : Obj.mapSeq (·.setIfInBounds j u) { cls := .type "list", data := .seq its.toArray n } = { cls := .type "list", data := .seq (its.set j u).toArray n } := by
  simp [Obj.mapSeq]
theorem Inv.lst {pins : List (Addr × Obj)} {σ : St} {H : Hp} {s : Shared} {p : Addr} {xs : List V} (I : Inv X pins σ H s) (h : H p = some (.lst xs)) :
    ∃ (its : List Value) (n : Nat), Vals xs its ∧ s.heap.get? p = some { cls := .type "list", data := .seq its.toArray n } ∧ xs.length ≤ sizeLine := by
  obtain ⟨z, its, n, r, e⟩ := I.hok p _ h
  exact ⟨its, n, r, e, z⟩

theorem Inv.lstUpd {pins : List (Addr × Obj)} {σ : St} {H : Hp} {s : Shared} {p : Addr} {xs ys : List V} {its its' : List Value} {n n' : Nat} {f : Obj → Obj} (I : Inv X pins σ H s) (h : H p = some (.lst xs))
    (ho : s.heap.get? p = some { cls := .type "list", data := .seq its.toArray n }) (hf : f { cls := .type "list", data := .seq its.toArray n } = { cls := .type "list", data := .seq its'.toArray n' }) (r : Vals ys its') (hz : ys.length ≤ sizeLine) (t : Nat) :
    Inv X pins σ (upd H p (.lst ys)) { s with heap := s.heap.update p f, toks := t } := by
  have e : (s.heap.update p f).get? p = some { cls := .type "list", data := .seq its'.toArray n' } := by
    rw [Heap.get?_update_self f ho (by rw [hf] <;> rfl), hf]
  refine I.write (x := p) (e := p) (by rw [h]; trivial) (.inl rfl) (fun b u hb q => (Heap.get?_update_other _ _ (Ne.symm hb)).trans q) ⟨_, e⟩ ?_
  exact ⟨hz, its', n', r, e⟩
noncomputable def rSetL : V → V → V → Hp → (Hp → Prop) → Prop := fun o i v H Q => ∃ p xs k j, o = .ref p ∧ i = .int k ∧ H p = some (.lst xs) ∧ ixN xs.length k = some j ∧ Q (upd H p (.lst (xs.set j v)))
theorem set_list : PSet X rSetL := by
  intro pins s σ H o i v ov iv u Q I ro ri rv h
  obtain ⟨p, xs, k, j, rfl, rfl, hp, hj, q⟩ := h
  cases ro
  obtain ⟨t, rfl⟩ := ri
  obtain ⟨its, n, r, ho, hz⟩ := I.lst hp
  obtain ⟨h1, h2, h3, h4⟩ := ixN_seq hj
  have hl := r.length
  have hn := line63
  have I' : Inv X pins σ (upd H p (.lst (xs.set j v))) { s with heap := s.heap.update p (Obj.mapSeq (·.setIfInBounds j u)) } :=
    I.lstUpd hp ho (mapSeq_set its n j u) (r.set rv j) (by rw [List.length_set]; exact hz) s.toks
  by_cases h0 : 0 ≤ k
  · have hk : k.toNat = j := by
      rw [seqIndex_of h0 h4] at h1
      exact Option.some.inj h1
    exact PySem.W.ki_setAt ho h0 (by omega) (by rw [List.size_toArray, ← hl]; exact h4) (by rw [hk]; exact ⟨_, I', q⟩)
  · have hk : (k + (its.toArray.size : Int)).toNat = j := by
      rw [seqIndex_neg (by omega) h3] at h1
      rw [List.size_toArray, ← hl]
      exact Option.some.inj h1
    exact PySem.W.ki_setBack ho (by omega) (by rw [List.size_toArray, ← hl]; exact h3) (by omega) (by rw [hk]; exact ⟨_, I', q⟩)


theorem slice_bounds (lo hi : Option Int) (n : Nat) : (sliceBounds lo hi none n).1 = ((HT.sIx n 0 lo : Nat) : Int) ∧ (sliceBounds lo hi none n).2.1 = ((HT.sIx n n hi : Nat) : Int) ∧ (sliceBounds lo hi none n).2.2 = 1 := by
  refine ⟨?_, ?_, rfl⟩
  · cases lo with
    | none => simp [sliceBounds, HT.sIx]
    | some i =>
      simp only [sliceBounds, HT.sIx, Option.getD_none, show (1 : Int) > 0 by decide, if_true]
      by_cases h : i < 0
      · simp only [h, if_true] <;> omega
      · simp only [h, if_false] <;> omega
  · cases hi with
    | none => simp [sliceBounds, HT.sIx]
    | some i =>
      simp only [sliceBounds, HT.sIx, Option.getD_none, show (1 : Int) > 0 by decide, if_true]
      by_cases h : i < 0
      · simp only [h, if_true] <;> omega
      · simp only [h, if_false] <;> omega
theorem slicePick_cut (its : List Value) (lo hi : Option Int) : slicePick its.toArray lo hi none = ((its.drop (HT.sIx its.length 0 lo)).take (HT.sIx its.length its.length hi - HT.sIx its.length 0 lo)).toArray := by
  obtain ⟨h1, h2, h3⟩ := slice_bounds lo hi its.toArray.size
  unfold slicePick
  rw [h1, h2, h3]
  simp only [sliceRange_one, pick_run, List.size_toArray] <;> rfl

noncomputable def rSlL (K : PySem.W.Frag) : V → Option Int → Option Int → Hp → VK → Prop := fun x lo hi H Q => ∃ a xs, x = .ref a ∧ SqL K H a xs ∧ ∀ p, H p = none → Q (.ref p) (upd H p (.lst (cutV xs lo hi)))
theorem sl_list : SlR X (rSlL X.K) := by
  intro pins s σ H x v vl vu lo hi sl Q I rx hs pl pu h
  obtain ⟨a, xs, rfl, hx, q⟩ := h
  cases rx
  obtain ⟨its, r, ht, hz⟩ := I.list hx
  have hlen := r.length
  refine ⟨"list", _, slot_list_getitem.lookup, ht.isList.typeIs, ?_⟩
  refine wpAny_getItem_list_slice ht.isList hs pl pu .none (by simp) ?_ (by rw [List.size_toArray] <;> omega)
  rw [slicePick_cut, ← hlen]
  refine ⟨.ref s.heap.objs.size, _, I.laid (t' := s.toks) (o := .lst (cutV xs lo hi)) (fun b ob q => Heap.get?_push_of_some _ q) (Nat.le_refl _) ?_, rfl, q _ (I.hok.fresh (Nat.le_refl _))⟩
  exact ⟨Nat.le_trans (cutV_length xs lo hi) hz, _, 0, (r.drop (HT.sIx xs.length 0 lo)).take (HT.sIx xs.length xs.length hi - HT.sIx xs.length 0 lo), Heap.get?_push_size _ rfl⟩


noncomputable def flatV : V → Bool
  | .non => true
  | .bl _ => true
  | .int _ => true
  | .str _ => true
  | _ => false

noncomputable def eqV : V → V → Bool
  | .non, .non => true
  | .bl a, .bl b => a == b
  | .bl a, .int b => (if a then 1 else 0) == b
  | .int a, .bl b => a == (if b then 1 else 0)
  | .int a, .int b => a == b
  | .str a, .str b => a == b
  | _, _ => false
theorem eqAt_V {A : Around} {s : Shared} {y x : V} {u v : Value} (ry : RelV y u) (rx : RelV x v) (fy : flatV y = true) (fx : flatV x = true) : SeqAt.EqAt A s u v (eqV y x) := by
  cases y with
  | non =>
    cases ry
    cases x with
    | non => cases rx; exact SeqAt.EqAt.same _
    | bl b => cases rx; exact SeqAt.EqAt.none_bool b
    | int b => obtain ⟨t, rfl⟩ := rx; exact SeqAt.EqAt.none_int b t
    | str b => obtain ⟨t, rfl⟩ := rx; exact SeqAt.EqAt.none_str b t
    | _ => exact absurd (show false = true from fx) Bool.false_ne_true
  | bl a =>
    cases ry
    cases x with
    | non => cases rx; exact SeqAt.EqAt.bool_none a
    | bl b => cases rx; exact SeqAt.EqAt.bool_bool a b
    | int b => obtain ⟨t, rfl⟩ := rx; exact SeqAt.EqAt.bool_int a b t
    | str b => obtain ⟨t, rfl⟩ := rx; exact SeqAt.EqAt.bool_str a b t
    | _ => exact absurd (show false = true from fx) Bool.false_ne_true
  | int a =>
    obtain ⟨t', rfl⟩ := ry
    cases x with
    | non => cases rx; exact SeqAt.EqAt.int_none a t'
    | bl b => cases rx; exact SeqAt.EqAt.int_bool a t' b
    | int b => obtain ⟨t, rfl⟩ := rx; exact SeqAt.EqAt.int_int a t' b t
    | str b => obtain ⟨t, rfl⟩ := rx; exact SeqAt.EqAt.int_str a t' b t
    | _ => exact absurd (show false = true from fx) Bool.false_ne_true
  | str a =>
    obtain ⟨t', rfl⟩ := ry
    cases x with
    | non => cases rx; exact SeqAt.EqAt.str_none a t'
    | bl b => cases rx; exact SeqAt.EqAt.str_bool a t' b
    | int b => obtain ⟨t, rfl⟩ := rx; exact SeqAt.EqAt.str_int a t' b t
    | str b => obtain ⟨t, rfl⟩ := rx; exact SeqAt.EqAt.str_str a t' b t
    | _ => exact absurd (show false = true from fx) Bool.false_ne_true
  | _ => exact absurd (show false = true from fy) Bool.false_ne_true

noncomputable def eqU (x : V) (u : Value) : Bool := match u with
  | .none => eqV .non x
  | .bool b => eqV (.bl b) x
  | .int i _ => eqV (.int i) x
  | .str z _ => eqV (.str z) x
  | _ => false
theorem eqU_of {x y : V} {u : Value} (r : RelV y u) (f : flatV y = true) : eqU x u = eqV y x := by
  cases y with
  | non => cases r; rfl
  | bl b => cases r; rfl
  | int i => obtain ⟨t, rfl⟩ := r; rfl
  | str z => obtain ⟨t, rfl⟩ := r; rfl
  | _ => exact absurd (show false = true from f) Bool.false_ne_true
theorem any_eqU {x : V} : ∀ {xs : List V} {us : List Value}, Vals xs us → xs.all flatV = true → us.any (eqU x) = xs.any fun y => eqV y x
  | _, _, .nil, _ => rfl
  | y :: xs, u :: us, .cons r t, f => by
    rw [List.all_cons, Bool.and_eq_true] at f
    rw [List.any_cons, List.any_cons, eqU_of r f.1, any_eqU t f.2]
theorem mem_eqAt {A : Around} {s : Shared} {x : V} {v : Value} (rx : RelV x v) (fx : flatV x = true) : ∀ {xs : List V} {us : List Value}, Vals xs us → xs.all flatV = true → ∀ u ∈ us, SeqAt.EqAt A s u v (eqU x u)
  | _, _, .nil, _ => fun u hu => by cases hu
  | y :: xs, u :: us, .cons r t, f => fun u' hu => by
    rw [List.all_cons, Bool.and_eq_true] at f
    rcases List.mem_cons.mp hu with rfl | hu
    · rw [eqU_of r f.1]; exact eqAt_V r rx f.1 fx
    · exact mem_eqAt rx fx t f.2 u' hu
noncomputable def inV (x : V) (xs : List V) : Bool := xs.any fun y => eqV y x

noncomputable def rIn (K : PySem.W.Frag) (neg : Bool) : R2 := fun x y H Q => ∃ p xs, y = .ref p ∧ (SqL K H p xs ∨ SqT K H p xs) ∧ flatV x = true ∧ xs.all flatV = true ∧ Q (.bl (if neg then !inV x xs else inV x xs)) H
theorem op_in_seq : OpR X (compareOp .In) (rIn X.K false) := by
  intro pins s σ H x y v u Q I rx ry h
  obtain ⟨p, xs, rfl, hq, fx, fs, q⟩ := h
  cases ry
  rcases hq with hq | hq
  · obtain ⟨its, r, pl, hz⟩ := I.list hq
    refine SeqAt.in_listAt (eqU x) pl.isList (fun w hw => mem_eqAt rx fx r fs w (by simpa using hw)) ⟨.bl _, H, I, rfl, ?_⟩
    rw [show its.toArray.any (eqU x) = its.any (eqU x) by simp, any_eqU r fs]
    exact q
  · obtain ⟨its, r, pl, hz⟩ := I.tuple hq
    refine SeqAt.in_tupleAt (eqU x) pl (fun w hw => mem_eqAt rx fx r fs w (by simpa using hw)) ⟨.bl _, H, I, rfl, ?_⟩
    rw [show its.toArray.any (eqU x) = its.any (eqU x) by simp, any_eqU r fs]
    exact q
theorem op_notIn_seq : OpR X (compareOp .NotIn) (rIn X.K true) := by
  intro pins s σ H x y v u Q I rx ry h
  obtain ⟨p, xs, rfl, hq, fx, fs, q⟩ := h
  cases ry
  rcases hq with hq | hq
  · obtain ⟨its, r, pl, hz⟩ := I.list hq
    refine SeqAt.notIn_listAt (eqU x) pl.isList (fun w hw => mem_eqAt rx fx r fs w (by simpa using hw)) ⟨.bl _, H, I, rfl, ?_⟩
    rw [show its.toArray.any (eqU x) = its.any (eqU x) by simp, any_eqU r fs]
    exact q
  · obtain ⟨its, r, pl, hz⟩ := I.tuple hq
    refine SeqAt.notIn_tupleAt (eqU x) pl (fun w hw => mem_eqAt rx fx r fs w (by simpa using hw)) ⟨.bl _, H, I, rfl, ?_⟩
    rw [show its.toArray.any (eqU x) = its.any (eqU x) by simp, any_eqU r fs]
    exact q
theorem call_len_seq : CallR X (.builtin "len") (fun xs H Q => ∃ p ys, xs = [.ref p] ∧ (SqL X.K H p ys ∨ SqT X.K H p ys) ∧ Q (.int ys.length) H) := by
  intro pins s σ H xs us Q I r h
  obtain ⟨p, ys, rfl, hq, q⟩ := h
  obtain ⟨u, rfl, rx⟩ := vals1 r
  cases rx
  have hn := line63
  rcases hq with hq | hq
  · obtain ⟨its, r', pl, hz⟩ := I.list hq
    have hlen := r'.length
    exact Calls.call_len_list pl.isList (by simp only [List.size_toArray] <;> omega) ⟨.int ys.length, H, I.tok _, ⟨s.toks + 1, by rw [List.size_toArray, hlen]⟩, q⟩
  · obtain ⟨its, r', pl, hz⟩ := I.tuple hq
    have hlen := r'.length
    exact len_tuple pl (by simp only [List.size_toArray] <;> omega) ⟨.int ys.length, H, I.tok _, ⟨s.toks + 1, by rw [List.size_toArray, hlen]⟩, q⟩
theorem call_len_str : CallR X (.builtin "len") (fun xs H Q => ∃ z, xs = [.str z] ∧ z.length ≤ sizeLine ∧ Q (.int z.length) H) := by
  intro pins s σ H xs us Q I r h
  obtain ⟨z, rfl, hz, q⟩ := h
  obtain ⟨u, rfl, t, rfl⟩ := vals1 r
  have hn := line63
  exact len_str (by omega) ⟨.int z.length, H, I.tok _, ⟨_, rfl⟩, q⟩
theorem call_list_of : CallR X (.type "list") (fun xs H Q => ∃ p ys, xs = [.ref p] ∧ (SqL X.K H p ys ∨ SqT X.K H p ys) ∧ ∀ l, H l = none → Q (.ref l) (upd H l (.lst ys))) := by
  intro pins s σ H xs us Q I r h
  obtain ⟨p, ys, rfl, hq, q⟩ := h
  obtain ⟨u, rfl, rx⟩ := vals1 r
  cases rx
  have fin : ∀ (its : List Value), Vals ys its → ys.length ≤ sizeLine → ∀ (h' : Heap) (c' : Nat), (∀ b o', s.heap.get? b = some o' → h'.get? b = some o') →
      h'.get? s.heap.objs.size = some { cls := .type "list", dict := none, data := .seq its.toArray c', slots := #[] } → EP X pins σ Q (.ref s.heap.objs.size) { s with heap := h' } := fun its r' hz h' c' kp e =>
    ⟨.ref s.heap.objs.size, _, I.laid (t' := s.toks) kp (Nat.le_refl _) (show ObjOk X.prog X.w _ h' _ (.lst ys) from ⟨hz, its, c', r', e⟩), rfl, q _ (I.hok.fresh (Nat.le_refl _))⟩
  rcases hq with hq | hq
  · obtain ⟨its, r', pl, hz⟩ := I.list hq
    have hlen := r'.length
    obtain ⟨o, ho, hc, n, hd⟩ := pl.isList
    exact call_list_seq p (.inl rfl) ho hc hd (fun h' c' kp e => fin its r' hz h' c' kp e) (by simp only [List.size_toArray] <;> omega)
  · obtain ⟨its, r', pl, hz⟩ := I.tuple hq
    have hlen := r'.length
    obtain ⟨o, ho, hc, n, hd⟩ := pl
    exact call_list_seq p (.inr rfl) ho hc hd (fun h' c' kp e => fin its r' hz h' c' kp e) (by simp only [List.size_toArray] <;> omega)
theorem call_tuple_of : CallR X (.type "tuple") (fun xs H Q => ∃ p ys, xs = [.ref p] ∧ ((SqL X.K H p ys ∧ ∀ l, H l = none → Q (.ref l) (upd H l (.tup ys))) ∨ (SqT X.K H p ys ∧ Q (.ref p) H))) := by
  intro pins s σ H xs us Q I r h
  obtain ⟨p, ys, rfl, h⟩ := h
  obtain ⟨u, rfl, rx⟩ := vals1 r
  cases rx
  rcases h with ⟨hq, q⟩ | ⟨hq, q⟩
  · obtain ⟨its, r', pl, hz⟩ := I.list hq
    have hlen := r'.length
    refine call_tuple_list pl.isList (fun h' kp => ?_) (by simp only [List.size_toArray] <;> omega)
    have I1 : Inv X pins σ H { s with heap := h' } := I.kept (t' := s.toks) kp
    have I2 : Inv X pins σ (upd H h'.objs.size (.tup ys)) { s with heap := h'.push { cls := .type "tuple", data := .seq its.toArray } } :=
      I1.laid (t' := s.toks) (fun b o e => Heap.get?_push_of_some _ e) (Nat.le_refl _) (show ObjOk X.prog X.w _ _ _ (.tup ys) from ⟨hz, its, r', IsTup.new _ _⟩)
    exact ⟨.ref h'.objs.size, _, I2, rfl, q _ (I1.hok.fresh (Nat.le_refl _))⟩
  · obtain ⟨its, r', pl, hz⟩ := I.tuple hq
    exact call_tuple_same pl ⟨.ref p, H, I, rfl, q⟩



noncomputable def tyV (K : PySem.W.Frag) (T : String) (x : V) (H : Hp) : Prop := match x with
  | .str _ => T = "str"
  | .int _ => T = "int"
  | .ref p => (T = "list" ∧ ∃ xs, SqL K H p xs) ∨ (T = "tuple" ∧ ∃ o, K.lookup p = some o ∧ o.cls = .type "tuple" ∧ o.dict = none) ∨
      (T = "dict" ∧ ((∃ kvs, H p = some (.dK kvs)) ∨ ∃ kvs, H p = some (.dT kvs))) ∨ (T = "set" ∧ ∃ S n, H p = some (.set S n))
  | _ => False
theorem tyV_is {pins : List (Addr × Obj)} {σ : St} {H : Hp} {s : Shared} {T : String} {x : V} {v : Value} (I : Inv X pins σ H s) (r : RelV x v) (ty : tyV X.K T x H) :
    s.TypeIs v T ∧ ∀ a, v = .ref a → ∃ ob, s.heap.get? a = some ob ∧ ob.dict = none := by
  cases x with
  | str z =>
    obtain ⟨t, rfl⟩ := r
    cases (show T = "str" from ty)
    exact ⟨typeIs_str s z t, fun _ e => nomatch e⟩
  | int i =>
    obtain ⟨t, rfl⟩ := r
    cases (show T = "int" from ty)
    exact ⟨typeIs_int s i t, fun _ e => nomatch e⟩
  | ref p =>
    cases r
    rcases ty with ⟨rfl, xs, hq⟩ | ⟨rfl, o, hk, hc, hd⟩ | ⟨rfl, hk⟩ | ⟨rfl, S, n, hk⟩
    · obtain ⟨its, _, pl, _⟩ := I.list hq
      refine ⟨pl.isList.typeIs, fun a e => ?_⟩
      cases e
      obtain ⟨o, n, e, c, hd, _⟩ := pl
      exact ⟨o, e, hd⟩
    · refine ⟨⟨o, I.kIn p o hk, hc⟩, fun a e => ?_⟩
      cases e
      exact ⟨o, I.kIn _ o hk, hd⟩
    · have z : ∃ o, s.heap.get? p = some o ∧ o.ExactDict := by
        rcases hk with ⟨kvs, hk⟩ | ⟨kvs, hk⟩
        · obtain ⟨_, _, _, _, o, _, _, e, ex, _⟩ := I.hok p _ hk
          exact ⟨o, e, ex⟩
        · obtain ⟨_, _, _, _, o, _, _, e, ex, _⟩ := I.hok p _ hk
          exact ⟨o, e, ex⟩
      obtain ⟨o, e, ex⟩ := z
      refine ⟨⟨o, e, ex.1⟩, fun a e2 => ?_⟩
      cases e2
      exact ⟨o, e, ex.2.1⟩
    · obtain ⟨o, _, _, _, e, ex, _⟩ := I.hok p _ hk
      refine ⟨⟨o, e, ex.1⟩, fun a e2 => ?_⟩
      cases e2
      exact ⟨o, e, ex.2.1⟩
  | _ => exact False.elim ty
noncomputable def tBM0 (K : PySem.W.Frag) (T : String) (r : V → List V → Hp → VK → Prop) (to : TE) : TE := fun σ H Q => to σ H fun x H1 => tyV K T x H1 ∧ r x [] H1 Q
noncomputable def tBM (K : PySem.W.Frag) (T : String) (r : V → List V → Hp → VK → Prop) (to : TE) (t : TA) : TE := fun σ H Q => to σ H fun x H1 => tyV K T x H1 ∧ t σ H1 fun xs H2 => r x xs H2 Q
variable {o e : Expr} {es : List Expr} {to : TE} {t : TA} {name : Str} {apos cpos : Pos} {T id : String} {r : V → List V → Hp → VK → Prop}
theorem pe_bm0 (pa : PlainAttrs T) (slot : Slot T name id) (hty : typeOf (.builtin id) = pure (.type "method_descriptor")) (hm : MtR X id r) (ho : PE X o to)
    (hbase : attributeBase o name X.env (eval o X.env) = eval o X.env := by rfl) (hline : (apos.endLine == cpos.line) = true := by rfl) : PE X (.Call (.Attribute o name apos) [] [] cpos) (tBM0 X.K T r to) := by
  intro pins s σ H Q I h
  refine wpAny_Call_method0_late hbase hline (thn (ho pins s σ H _ I h) fun v s1 ⟨x, H1, I1, r1, ty, q1⟩ => ?_)
  obtain ⟨h1, h2⟩ := tyV_is I1 r1 ty
  exact ⟨T, id, pa, slot, hty, h1, h2, Calls.callWith_builtin rfl (PySem.evalArgs_none (hm pins s1 σ H1 x [] v [] Q I1 r1 .nil q1))⟩
theorem pe_bm (pa : PlainAttrs T) (slot : Slot T name id) (hty : typeOf (.builtin id) = pure (.type "method_descriptor")) (hm : MtR X id r) (ho : PE X o to) (ha : PA X (e :: es) t)
    (hbase : attributeBase o name X.env (eval o X.env) = eval o X.env := by rfl)
    (hfew : ((backTo cpos (starEach (e :: es) X.env)).all (fun x => !x.1) && (backToKw cpos (keywordEach [] X.env)).all (fun x => x.1.isSome)
      && decide ((e :: es).length + ([] : List Keyword).length + (if ([] : List Keyword).isEmpty then 0 else 1) < 30)) = true := by rfl)
    (hline : (apos.endLine == cpos.line) = true := by rfl) (hs : starEach (e :: es) X.env = (false, eval e X.env) :: starEach es X.env := by rfl) (hplain : (backTo cpos (starEach es X.env)).any (·.1) = false := by rfl) :
    PE X (.Call (.Attribute o name apos) (e :: es) [] cpos) (tBM X.K T r to t) := by
  intro pins s σ H Q I h
  refine wpAny_Call_method_late hbase hfew hline rfl (thn (ho pins s σ H _ I h) fun v s1 ⟨x, H1, I1, r1, ty, q1⟩ => ?_)
  obtain ⟨h1, h2⟩ := tyV_is I1 r1 ty
  refine ⟨T, id, pa, slot, hty, h1, h2, ?_⟩
  have hA := ha cpos pins s1 σ H1 _ I1 q1
  rw [hs] at hA ⊢
  refine Calls.callWith_builtin (by show (false || (backTo cpos (starEach es X.env)).any (·.1)) = false; rw [hplain] <;> rfl) (Calls.evalArgs_plain ?_)
  exact thn hA fun us s2 ⟨vs, H2, I2, r2, q2⟩ => hm pins s2 σ H2 x vs v us Q I2 r1 r2 q2

end
end L2

namespace L2
open PySem PySem.Spec PyProof.Rows

noncomputable def MtM (X : Cx) (id : String) (r : V → List V → Hp → VK → Prop) : Prop :=
  ∀ (pins : List (Addr × Obj)) (s : Shared) (σ : St) (H : Hp) (x : V) (xs : List V) (v : Value) (us : List Value) (Q : VK), Inv X pins σ H s → RelV x v → Vals xs us → r x xs H Q →
    wpAny (model X.prog X.w) X.A (call (.builtin id) (v :: us)) (EP X pins σ Q) X.xe s


theorem Vals.one : ∀ {x : V} {us : List Value}, Vals [x] us → ∃ u, us = [u] ∧ RelV x u
  | _, _, .cons r .nil => ⟨_, rfl, r⟩
theorem Vals.zero : ∀ {us : List Value}, Vals [] us → us = []
  | _, .nil => rfl
theorem Vals.dropLast {xs : List V} {us : List Value} (h : Vals xs us) : Vals xs.dropLast us.dropLast := by
  induction h with
  | nil => exact .nil
  | cons r t ih =>
    cases t with
    | nil => exact .nil
    | cons q t' => exact .cons r ih
theorem erase_last {α : Type} (l : List α) : l.eraseIdx (l.length - 1) = l.dropLast := by
  induction l with
  | nil => rfl
  | cons a r ih =>
    cases r with
    | nil => rfl
    | cons b r =>
      have e : (a :: b :: r).length - 1 = ((b :: r).length - 1) + 1 := by
        have h1 : (a :: b :: r).length = r.length + 2 := rfl
        have h2 : (b :: r).length = r.length + 1 := rfl
        omega
      rw [e, List.eraseIdx_cons_succ, ih]
      all_goals rfl
section
variable {X : Cx} {pins : List (Addr × Obj)} {σ : St} {H : Hp} {s : Shared} {l b : Addr} {xs ys zs : List V}


theorem Inv.lset {its its' : List Value} {n : Nat} {f : Array Value → Array Value} {t' : Nat} (I : Inv X pins σ H s) (hH : H l = some (.lst xs))
    (e : s.heap.get? l = some { cls := .type "list", data := .seq its.toArray n }) (hf : f its.toArray = its'.toArray) (hv : Vals ys its') (hz : ys.length ≤ sizeLine) :
    Inv X pins σ (upd H l (.lst ys)) { s with heap := s.heap.update l (Obj.mapSeq f), toks := t' } := by
  have q := PySem.IsL.update e f
  rw [hf] at q
  refine I.write (x := l) (e := l) (by rw [hH]; exact trivial) (.inl rfl) (fun b' u hb hu => (Heap.get?_update_other s.heap (Obj.mapSeq f) (Ne.symm hb)).trans hu) ⟨_, q⟩ ?_
  exact ⟨hz, its', _, hv, q⟩
theorem Inv.lnew {its : List Value} {t' : Nat} (I : Inv X pins σ H s) (hv : Vals ys its) (hz : ys.length ≤ sizeLine) :
    Inv X pins σ (upd H s.heap.objs.size (.lst ys)) { s with heap := s.heap.push { cls := .type "list", data := .seq its.toArray }, toks := t' } :=
  I.laid (fun _ _ q => Heap.get?_push_of_some _ q) (Nat.le_refl _) ⟨hz, its, 0, hv, Heap.get?_push_size _ rfl⟩
theorem Inv.fresh (I : Inv X pins σ H s) : H s.heap.objs.size = none := I.hok.fresh (Nat.le_refl _)
theorem Inv.lstM (I : Inv X pins σ H s) (hH : H l = some (.lst xs)) : xs.length ≤ sizeLine ∧ ∃ (its : List Value) (n : Nat), Vals xs its ∧ xs.length = its.length ∧ s.heap.get? l = some { cls := .type "list", data := .seq its.toArray n } := by
  obtain ⟨z, its, n, r, e⟩ := I.hok l _ hH
  exact ⟨z, its, n, r, r.length, e⟩

theorem notLongL {n : Nat} (h : n ≤ sizeLine) : Builtin.List.listTooLong n = false := by
  unfold Builtin.List.listTooLong
  exact decide_eq_false (by omega)
end

section
variable {X : Cx}


noncomputable def rAppend : V → List V → Hp → VK → Prop := fun x vs H Q => ∃ l xs y, x = .ref l ∧ vs = [y] ∧ H l = some (.lst xs) ∧ xs.length < sizeLine ∧ Q .non (upd H l (.lst (xs ++ [y])))
theorem mt_append : MtM X "list.append" rAppend := by
  intro pins s σ H x vs v us Q I rx rv h
  obtain ⟨l, xs, y, rfl, rfl, hH, hz, q⟩ := h
  cases rx
  obtain ⟨u, rfl, ru⟩ := rv.one
  obtain ⟨z, its, n, r, hl, e⟩ := I.lstM hH
  refine call_meets F.slot_list_append ⟨_, e, rfl⟩ F.entry_list_append (F.args_list_append_2 _ _) (PySem.list_append l its.toArray n u (by rw [List.size_toArray]; omega)) ⟨e, ?_⟩
  refine ⟨.non, _, I.lset (its' := its ++ [u]) hH e (by simp) (r.append (.cons ru .nil)) ?_, rfl, q⟩
  rw [List.length_append, List.length_singleton]
  omega

noncomputable def rExtend : V → List V → Hp → VK → Prop := fun x vs H Q => ∃ l b xs zs, x = .ref l ∧ vs = [.ref b] ∧ H l = some (.lst xs) ∧ H b = some (.lst zs) ∧ xs.length + zs.length ≤ sizeLine ∧ Q .non (upd H l (.lst (xs ++ zs)))
theorem mt_extend : MtM X "list.extend" rExtend := by
  intro pins s σ H x vs v us Q I rx rv h
  obtain ⟨l, b, xs, zs, rfl, rfl, hH, hB, hz, q⟩ := h
  cases rx
  obtain ⟨u, rfl, ru⟩ := rv.one
  cases ru
  obtain ⟨z, its, n, r, hl, e⟩ := I.lstM hH
  obtain ⟨z2, its2, n2, r2, hl2, e2⟩ := I.lstM hB
  have hsz : its.toArray.size + its2.toArray.size ≤ sizeLine := by rw [List.size_toArray, List.size_toArray]; omega
  have hlong : ¬ (!its.toArray.isEmpty && Builtin.List.listTooLong (its.toArray.size + its2.toArray.size)) = true := by
    rw [notLongL hsz, Bool.and_false]
    exact Bool.false_ne_true
  refine call_meets F.slot_list_extend ⟨_, e, rfl⟩ F.entry_list_extend (F.args_list_extend_2 _ _)
    (AutoSeq1.list_extend_list_list_0 l its.toArray n b its2.toArray n2 hlong (by rw [List.size_toArray]; omega) (by omega)) ⟨e, e2, ?_⟩
  refine ⟨.non, _, I.lset (its' := its ++ its2) hH e (by simp) (r.append r2) ?_, rfl, q⟩
  rw [List.length_append]
  omega

noncomputable def rPop : V → List V → Hp → VK → Prop := fun x vs H Q => ∃ l xs y, x = .ref l ∧ vs = [] ∧ H l = some (.lst xs) ∧ xs[xs.length - 1]? = some y ∧ Q y (upd H l (.lst xs.dropLast))
theorem mt_pop : MtM X "list.pop" rPop := by
  intro pins s σ H x vs v us Q I rx rv h
  obtain ⟨l, xs, y, rfl, rfl, hH, hy, q⟩ := h
  cases rx
  have hus := rv.zero
  subst hus
  obtain ⟨z, its, n, r, hl, e⟩ := I.lstM hH
  obtain ⟨u, hu, ru⟩ := r.get hy
  have hy' : its.toArray[its.toArray.size - 1]? = some u := by
    show its.toArray[its.length - 1]? = some u
    rw [← Array.getElem?_toList, ← hl]
    exact hu
  refine call_meets F.slot_list_pop ⟨_, e, rfl⟩ F.entry_list_pop (F.args_list_pop_1 _) (MeetsSeq.list_pop_last l its.toArray n u hy' (by rw [List.size_toArray]; omega)) ⟨e, ?_⟩
  refine ⟨y, _, I.lset (its' := its.dropLast) hH e ?_ r.dropLast ?_, ru, q⟩
  · show its.toArray.eraseIdxIfInBounds (its.toArray.size - 1) = its.dropLast.toArray
    rw [List.size_toArray, List.eraseIdxIfInBounds_toArray, erase_last]
  · rw [List.length_dropLast]
    omega

noncomputable def rClear : V → List V → Hp → VK → Prop := fun x vs H Q => ∃ l xs, x = .ref l ∧ vs = [] ∧ H l = some (.lst xs) ∧ Q .non (upd H l (.lst []))
theorem mt_clear : MtM X "list.clear" rClear := by
  intro pins s σ H x vs v us Q I rx rv h
  obtain ⟨l, xs, rfl, rfl, hH, q⟩ := h
  cases rx
  have hus := rv.zero
  subst hus
  obtain ⟨z, its, n, r, hl, e⟩ := I.lstM hH
  refine call_meets F.slot_list_clear ⟨_, e, rfl⟩ F.entry_list_clear (F.args_list_clear_1 _) (AutoSeq1.list_clear_list_0 l its.toArray n (by rw [List.size_toArray]; omega)) ⟨e, ?_⟩
  exact ⟨.non, _, I.lset (its' := []) (ys := []) hH e rfl .nil (Nat.zero_le _), rfl, q⟩


noncomputable def rCat : R2 := fun x y H Q => ∃ l b xs zs, x = .ref l ∧ y = .ref b ∧ H l = some (.lst xs) ∧ H b = some (.lst zs) ∧ xs.length + zs.length ≤ sizeLine ∧ ∀ p, H p = none → Q (.ref p) (upd H p (.lst (xs ++ zs)))
theorem op_cat : OpR X (binaryOp .Add) rCat := by
  intro pins s σ H x y v u Q I rx ry h
  obtain ⟨l, b, xs, zs, rfl, rfl, hH, hB, hz, q⟩ := h
  cases rx
  cases ry
  obtain ⟨z, its, n, r, hl, e⟩ := I.lstM hH
  obtain ⟨z2, its2, n2, r2, hl2, e2⟩ := I.lstM hB
  refine PySem.P.add_list e e2 ?_ (by rw [List.size_toArray, List.size_toArray]; omega)
  have ea : its.toArray ++ its2.toArray = (its ++ its2).toArray := by simp
  rw [ea]
  exact ⟨.ref _, _, I.lnew (t' := s.toks) (r.append r2) (by rw [List.length_append]; omega), rfl, q _ I.fresh⟩

end


section
variable {prog : Program} {w : World} {A : Around} {E : Value → Shared → Prop} {s : Shared}
set_option maxRecDepth 100000 in

end

section
variable {X : Cx}

end
end L2

namespace Att
open PySem PySem.W PySem.Calls PyProof.Rows


theorem ints_of_wellAll {P : Params} {h : Heap} : ∀ (ns : List Int) (vs : List Value), WellAll P h vs (ns.map WData.int) → IntsAre vs ns := by
  intro ns
  induction ns with
  | nil =>
    intro vs w
    rw [List.map_nil] at w
    cases w
    exact .nil
  | cons n ns ih =>
    intro vs w
    rw [List.map_cons] at w
    cases w with
    | cons a b =>
      cases a
      exact .cons _ _ (ih _ b)

theorem script_of {l : OpenLaw} {n : Nat} (hn : l.most = some n) {P : Params} {h : Heap} {args : List WData} {vals : List Value}
    (hpre : l.row.toRowW.claim.pre args = true) (hwl : WellAll P h vals args) :
    ∃ a vs ns, vals = [Value.ref a] ∧ args = [WData.list (ns.map WData.int)] ∧ h.get? a = some { cls := .type "list", data := .seq vs.toArray } ∧ IntsAre vs ns ∧ ns.length ≤ n := by
  have hsh : WShape.hasAll [] args [.list .int] = true := (pre_splitW hpre).1
  have hc : l.pre.holds [] { args := args } = true := (pre_splitW hpre).2
  obtain ⟨d, r, rfl, h1, h2⟩ := hasAllW_cons hsh
  obtain rfl := hasAllW_nil h2
  obtain ⟨xs, rfl, h3⟩ := hasW_list h1
  obtain ⟨ns, rfl⟩ := items_int h3
  have hlen : ns.length ≤ n := by
    unfold OpenLaw.pre at hc
    have h4 : (WTm.not (.lt (.lit (.int (n : Int))) (.len (.arg 0)))).holds [] { args := [.list (ns.map .int)] } = true := by
      have h4 := (holds_andW hc).1
      rw [hn] at h4
      exact h4
    have h5 := condW_of h4 (w_not (w_lt w_lit (w_len_list (w_arg rfl))))
    rw [List.length_map] at h5
    refine Nat.le_of_not_lt fun q => ?_
    have q' : (n : Int) < ((ns.length : Nat) : Int) := by omega
    first
      | (rw [decide_eq_true q'] at h5; exact absurd h5 (by decide))
      | (simp at h5; omega)
  cases hwl with
  | cons w1 w2 =>
    cases w2
    cases w1 with
    | list ho hall => exact ⟨_, _, ns, rfl, rfl, ho, ints_of_wellAll ns _ hall, hlen⟩

theorem post_true (l : OpenLaw) (args : List WData) : l.row.toRowW.claim.post args (.bool true) args = true :=
  postW_of (r := l.row.toRowW) (X := (true == true))
    (show WShape.has [] (.bool true) .bool = true by first | rfl | decide | simp [WShape.has, WShape.arms, WShape.armsAll])
    (show (WTm.eq .res (.lit (.bool true))).value [] { args := args, res := some (.bool true), after := args } = some (.bool (true == true)) from w_eq_bool (w_res rfl) w_lit) rfl


theorem attach_call {l : OpenLaw} {n : Nat} {q : Program} {loose : List Str} {XP : (Str → Option Value) → Heap → Prop} {YP : World → Heap → Prop} {d : DefRec}
    (hn : l.most = some n) (hdf : d.params.defaults = [])
    (call : ∀ (w : World) (s₀ s₁ : Shared) (mg mb : Str → Option Value) (fa : Addr) (o : Obj) (pm cd doc : Value) (a : Addr) (vs : List Value) (ns : List Int),
      Ground q loose [] XP w s₀ mg mb s₁.heap → YP w s₁.heap →
      s₁.heap.get? fa = some o → o.data = .func (docDef d.name d.params d.body d.scope pm cd doc) → s₁.heap.CodeRec cd d.name → mg d.name = some (.ref fa) →
      s₁.heap.get? a = some { cls := .type "list", data := .seq vs.toArray } → IntsAre vs ns → ns.length ≤ n → s₁.gens = #[] →
      codeAny (model l.prog w) callerA (.call (.ref fa) ⟨[.ref a], []⟩) (fun r s' => r = .ok (.ret (.bool true)) ∧ OldK s₁.heap s'.heap ∧ s'.os = s₁.os ∧ AllBare s'.gens) s₁) :
    WalkO q loose XP YP l.row.toRowW d [] (fun f vs => PySem.call f vs) := by
  intro w s₀ s₁ mg mb G Y fa o pm cd doc dV kV ho hd hcd hD hmg hg args vals as hpre hlay hrd hwl hlo
  obtain rfl : dV = .none := Dflts.none hD hdf
  obtain rfl : kV = .none := Dflts.noKw hD
  obtain ⟨a, vs, ns, rfl, rfl, hobj, hints, hlen⟩ := script_of hn hpre hwl
  refine enter_call (codeAny_mono (call w s₀ s₁ mg mb fa o pm cd doc a vs ns G Y ho (fd_plain hd) hcd hmg hobj hints hlen hg) fun r s' hq => ?_)
  obtain ⟨rfl, h2, h3, h4⟩ := hq
  exact ⟨.inl ⟨.bool true, .bool true, [], rfl, fun _ => rfl, .bool true, post_true l _, fun _ => ⟨List.Pairwise.nil, fun _ hm => (nomatch hm)⟩⟩, h2, h3, h4⟩


section
variable {prog : Program} {w : World} {A : Around} {E : Value → Shared → Prop} {s : Shared} {K : Frag}


end
end Att

namespace L2
open PySem PySem.Spec PyProof.Rows

theorem vals_ints : ∀ {vs : List Value} {ns : List Int}, IntsAre vs ns → Vals (ns.map V.int) vs
  | _, _, .nil => .nil
  | _, _, .cons n t h => .cons ⟨t, rfl⟩ (vals_ints h)


noncomputable def Only (H : Hp) : Prop := ∀ b, H b = none ∨ ∃ o xs, H b = some (.frz o (.lst xs))


theorem law_call {P : Program} {w : World} {K : PySem.W.Frag} {mg mb : Str → Option Value} {CX : CXT} {k : Nat} {fa a : Addr} {fd : FuncData} {x : Str} {sp : Sp} {s₁ : Shared} {vs : List Value} {ns : List Int}
    (KX : K.In s₁.heap) (hns : s₁.heap.Ns mainGlobals mg) (hb : s₁.heap.Ns builtinsNs mb) (hbb : ∀ x : Str, x ≠ "__name__" → mb x = bootBuiltins x) (hlim : s₁.heap.NoLimit) (hg : s₁.gens = #[])
    (ha : s₁.heap.get? a = some { cls := .type "list", data := .seq vs.toArray }) (hi : IntsAre vs ns) (hl : ns.length ≤ sizeLine) (hr : Room k callerA)
    (F : ∀ base : Heap, K.In base → base.Ns mainGlobals mg → FnOk P w K mg base CX k fa fd [x] sp) (hbind : ∀ (s : Shared) (u : Value), BindsTo s fd ⟨[u], []⟩ [(x, u)])
    (hsp : ∀ H : Hp, Only H → SqL K H a (ns.map V.int) → sp [.ref a] H (fun v _ => v = .bl true) fun _ _ _ => False)
    (hCX : ∀ H e s', CX [] H s₁ (fun _ _ _ => False) e s' → False) :
    codeAny (model P w) callerA (.call (.ref fa) ⟨[.ref a], []⟩) (fun r s' => r = .ok (.ret (.bool true)) ∧ OldK s₁.heap s'.heap ∧ s'.os = s₁.os ∧ AllBare s'.gens) s₁ := by
  have rv := vals_ints hi
  have lenV := hi.length
  -- from an abstract heap in which nothing but the script may be tracked
  have core : ∀ H : Hp, Only H → SqL K H a (ns.map V.int) → HOk P w H s₁.heap → (∀ b, H b ≠ none → b = a) → (H a ≠ none → K.lookup a = none) →
      codeAny (model P w) callerA (.call (.ref fa) ⟨[.ref a], []⟩) (fun r s' => r = .ok (.ret (.bool true)) ∧ OldK s₁.heap s'.heap ∧ s'.os = s₁.os ∧ AllBare s'.gens) s₁ := by
    intro H hO hS hok hA hK
    have base_of : ∀ {b : Addr} {o : Obj}, s₁.heap.get? b = some o → H b = none → (hidT s₁.heap H).get? b = some o := fun e n => hidT_get e n
    have noA : ∀ {b : Addr} {o : Obj} {es : Array DictEntry} {ep : Nat}, s₁.heap.get? b = some o → o.data = .dict es ep → H b = none := fun {b o es ep} e d => by
      cases q : H b with
      | none => rfl
      | some u =>
        have e' : b = a := hA b (by rw [q]; simp)
        subst e'
        rw [ha] at e; cases e
        have d' : Data.seq vs.toArray _ = Data.dict es ep := d
        cases d'
    have nsK : ∀ {b : Addr} {m : Str → Option Value}, s₁.heap.Ns b m → (hidT s₁.heap H).Ns b m := fun {b m} ⟨o, es, ep, e, d, r⟩ => ⟨o, es, ep, base_of e (noA e d), d, r⟩
    have hKb : K.In (hidT s₁.heap H) := fun b o e => base_of (KX b o e) (by
      cases q : H b with
      | none => rfl
      | some u =>
        have e' : b = a := hA b (by rw [q]; simp)
        subst e'
        rw [hK (by rw [q]; simp)] at e; cases e)
    have hM : Mod K mg (hidT s₁.heap H) := ⟨hKb, nsK hns, ⟨mb, nsK hb, hbb⟩, let ⟨mc, h1, h2⟩ := hlim; ⟨mc, nsK h1, h2⟩⟩
    have e0 : Env0 P w K mg (hidT s₁.heap H) callerA [] s₁ H := ⟨rfl, hM, fun b o e => of_hidT e, Nat.le_of_eq (hidT_size _ _), trivial, fun b hb => absurd (show b ∈ ([] : List Addr) from hb) (by simp), hok, .of_eq hg⟩
    refine codeAny_mono ((F _ hKb (nsK hns)).run callerA [] s₁ H ⟨[.ref a], []⟩ [.ref a] [.ref a] _ _ hr e0 (hbind s₁ (.ref a)) (.cons rfl .nil) (hsp H hO hS)) fun r s' h => ?_
    cases r with
    | error e => exact (hCX H e s' h).elim
    | ok fl =>
      cases fl with
      | next => exact False.elim h
      | brk => exact False.elim h
      | cont => exact False.elim h
      | ret u =>
        obtain ⟨v, H', os, bare, un, hok', r', q⟩ := h
        have q' : v = .bl true := q
        subst q'
        obtain rfl : u = Value.bool true := r'
        refine ⟨rfl, OldK.of_keep fun b o e => ?_, os, bare⟩
        cases q : H b with
        | none => exact un.keep b o e q (by intro z; exact absurd (show b ∈ ([] : List Addr) from z) (by simp)) (by simp)
        | some u =>
          rcases hO b with z | ⟨ob, xs, z⟩
          · rw [q] at z; cases z
          · have z2 := un.frzs b ob _ z
            obtain ⟨e1, _⟩ := hok b _ z
            obtain ⟨e2, _⟩ := hok' b _ z2
            rw [e] at e1; cases e1
            exact e2
  cases hk : K.lookup a with
  | some o =>
    -- the script is one of the module's own objects
    have e := KX a o hk
    rw [ha] at e
    cases e
    refine core (fun _ => none) (fun _ => .inl rfl) (.inr ⟨_, vs.toArray, _, hk, rfl, rfl, rfl, by rw [List.size_toArray, lenV]; exact hl, by simpa using rv⟩) (fun b u z => by have z' : (none : Option HO) = some u := z; cases z') (fun b z => absurd rfl z) fun z => absurd rfl z
  | none =>
    refine core (fun b => if b = a then some (.frz { cls := .type "list", data := .seq vs.toArray } (.lst (ns.map V.int))) else none) (fun b => ?_) (.inl (.inr ⟨{ cls := .type "list", data := .seq vs.toArray }, if_pos rfl⟩)) (fun b u z => ?_) (fun b z => ?_) fun _ => hk
    · by_cases hb : b = a
      · exact .inr ⟨_, _, if_pos hb⟩
      · exact .inl (if_neg hb)
    · by_cases hb : b = a
      · have z' := (if_pos hb).symm.trans z
        cases z'
        subst hb
        exact ⟨ha, by rw [List.length_map]; exact hl, vs, _, rv, ha⟩
      · have z' := (if_neg hb).symm.trans z
        cases z'
    · by_cases hb : b = a
      · exact hb
      · exact absurd (if_neg hb) z
end L2

namespace L2
open PySem PySem.Spec PyProof.Rows

theorem walk_of {l : PySem.W.OpenLaw} {n k : Nat} {q : Program} {loose : List Str} {XP : (Str → Option Value) → Heap → Prop} {YP : World → Heap → Prop} {d : DefRec} {K : Params → PySem.W.Frag} {CX : World → CXT} {sp : World → Sp} {x : Str}
    (hn : l.most = some n) (hn2 : n ≤ sizeLine) (hdf : d.params.defaults = []) (hr : Room k callerA)
    (hY : ∀ (w : World) (h : Heap), YP w h → (K w.params).In h)
    (F : ∀ (w : World) (mg : Str → Option Value) (fa : Addr) (h : Heap), (K w.params).In h → h.Ns mainGlobals mg → mg d.name = some (.ref fa) →
      ∃ fd : FuncData, (∀ (s : Shared) (u : Value), BindsTo s fd ⟨[u], []⟩ [(x, u)]) ∧
        ∀ base : Heap, (K w.params).In base → base.Ns mainGlobals mg → FnOk l.prog w (K w.params) mg base (CX w) k fa fd [x] (sp w))
    (hsp : ∀ (w : World) (H : Hp) (a : Addr) (ns : List Int), ns.length ≤ n → Only H → SqL (K w.params) H a (ns.map V.int) → sp w [.ref a] H (fun v _ => v = .bl true) fun _ _ _ => False)
    (hCX : ∀ (w : World) (H : Hp) (s : Shared) (e : Value) (s' : Shared), CX w [] H s (fun _ _ _ => False) e s' → False) :
    PySem.W.WalkO q loose XP YP l.row.toRowW d [] (fun f vs => PySem.call f vs) := by
  refine Att.attach_call hn hdf fun w s₀ s₁ mg mb fa o pm cd doc a vs ns G Y ho hd hcd hmg hobj hints hlen hg => ?_
  have KX := hY w _ Y
  obtain ⟨fd, hb, hF⟩ := F w mg fa _ KX G.T.g hmg
  exact law_call KX G.T.g G.T.b G.T.builtins G.T.nolimit hg hobj hints (Nat.le_trans hlen hn2) hr hF hb (fun H hO hS => hsp w H a ns hlen hO hS) fun H e s' => hCX w H s₁ e s'

end L2




namespace L2
open PySem PySem.Spec PyProof.Rows



noncomputable def defArgs (s : Stmt) : Arguments := match s with
  | .FunctionDef _ a _ _ _ _ _ _ _ _ => a
  | _ => { posonlyargs := [], args := [], vararg := none, kwonlyargs := [], kw_defaults := [], kwarg := none, defaults := [] }
noncomputable def defBody (s : Stmt) : List Stmt := match s with
  | .FunctionDef _ _ b _ _ _ _ _ _ _ => b
  | _ => []
noncomputable def defScope (s : Stmt) : Scope := match s with
  | .FunctionDef _ _ _ _ _ _ sc _ _ _ => sc
  | _ => { kind := .function, names := [], isGenerator := false, isCoroutine := false }


noncomputable abbrev CX0 : CXT := fun _ _ _ _ _ _ => False
noncomputable abbrev E0 : XK := fun _ _ _ => False
structure Fun (K : PySem.W.Frag) (x qual : Str) (st : Stmt) (f : Addr) (fd : FuncData) : Prop where
  ex : ∃ (oc : Value) (od : Option Addr) (kV doc pm : Value) (an : Option Addr) (cdv ct : Value) (osl : Array (Option Value)),
    fd = PySem.W.fnOf x qual (defArgs st) (defBody st) (defScope st) .none kV doc pm an cdv ct ∧ K.lookup f = some ⟨oc, od, .func fd, osl⟩ ∧ PySem.W.codeIn K cdv qual = true
  kp : PySem.W.keepIn K (.ref f) = true
section
variable {P : Program} {w : World} {K : PySem.W.Frag} {mg : Str → Option Value} {base : Heap}

theorem Fun.ok {x qual : Str} {st : Stmt} {f : Addr} {fd : FuncData} {N ps : List Str} {k : Nat} {sp : Sp} (F : Fun K x qual st f fd) (S : FnScope N ps (defScope st)) (len : ∀ vs H Q E, sp vs H Q E → vs.length = ps.length)
    (hbody : ∀ (cdv : Value) (A : Around) (outer : List Env) (s : Shared) (H : Hp) (vs : List V) (Q : VK) (E : XK), Room k (A.deeper (envOfC qual (defScope st) s.heap.objs.size f cdv)) → sp vs H Q E →
      ∃ t, PSs (cxOf CX0 P w K mg base N qual (defScope st) f cdv A outer s H E).nox (defBody st) t ∧ t { nx := fun _ H' => Q .non H', rt := Q } (start N vs) H) : FnOk P w K mg base CX0 (k + 1) f fd ps sp := by
  obtain ⟨oc, od, kV, doc, pm, an, cdv, ct, osl, rfl, lk, hcd⟩ := F.ex
  refine fn_of lk hcd S len fun A outer s H vs Q E hr hsp => ?_
  obtain ⟨t, h, q⟩ := hbody cdv A outer s H vs Q E hr hsp
  exact ⟨t, h.nox, q⟩

theorem Fun.binds {x qual : Str} {st : Stmt} {f : Addr} {fd : FuncData} {ps : List Str} (F : Fun K x qual st f fd)
    (h : ∀ (kV doc pm : Value) (an : Option Addr) (cdv ct : Value) (us : List Value), us.length = ps.length → bindArgs (PySem.W.fnOf x qual (defArgs st) (defBody st) (defScope st) .none kV doc pm an cdv ct) ⟨us, []⟩ = pure (ps.zip us)) : Binds K fd ps [] := by
  obtain ⟨oc, od, kV, doc, pm, an, cdv, ct, osl, rfl, lk, hcd⟩ := F.ex
  exact .all (h kV doc pm an cdv ct)
theorem fun_mk {x qual : Str} {st : Stmt} {f : Addr} {oc : Value} {od an : Option Addr} {osl : Array (Option Value)} {kV doc pm cdv ct : Value} (l : K.lookup f = some ⟨oc, od, .func (PySem.W.fnOf x qual (defArgs st) (defBody st) (defScope st) .none kV doc pm an cdv ct), osl⟩)
    (c : PySem.W.codeIn K cdv qual = true) (k : PySem.W.keepIn K (.ref f) = true) : Fun K x qual st f (PySem.W.fnOf x qual (defArgs st) (defBody st) (defScope st) .none kV doc pm an cdv ct) := ⟨⟨oc, od, kV, doc, pm, an, cdv, ct, osl, rfl, l, c⟩, k⟩
end
section
variable {X : Cx}
theorem pv (i : Nat) {x : Str} {pos : Pos} (hN : X.N[i]? = some x := by rfl) (hv : Vis X.env.scope x := by first | exact Or.inl rfl | exact Or.inr (Or.inl rfl) | exact Or.inr (Or.inr rfl)) (hd : (x == ("__debug__" : Str)) = false := by decide)
    (hcd : (x == ("__classdict__" : Str)) = false := by decide) : PE X (.Name x pos) (tVar i) := pe_var hN hv hd hcd
end


noncomputable def Same (H H' : Hp) : Prop := ∀ b o, H b = some o → H' b = some o
theorem Same.trans {H H1 H2 : Hp} (a : Same H H1) (b : Same H1 H2) : Same H H2 := fun c o h => b c o (a c o h)
end L2

set_option Elab.async false
set_option linter.all false
set_option maxRecDepth 100000
set_option maxHeartbeats 1000000
namespace L2
open PySem PySem.Spec PyProof.Rows


noncomputable def Its (x : Str) : It := ⟨fun i _ => i < x.cps.size, fun i H v H' => H' = H ∧ ∃ c, x.cps[i]? = some c ∧ v = .str ⟨#[c]⟩, fun i _ => x.cps.size ≤ i⟩

section
variable {X : Cx} {tg : Expr}
theorem turn_of_str {P : Program} {w : World} {K : PySem.W.Frag} {tg : Expr} {x : Str} {t : Tok} {ty : String} {it : Addr}
    (hty : ["enumerate", "zip", "dict_itemiterator", "dict_reverseitemiterator", "odict_iterator", "itertools.zip_longest", "itertools.pairwise"].contains ty = false)
    (W : ∀ A' : Around, A'.handled = none → Walks P w A' it [it] [it] x.cps.size (SignAt x) (fun i h => h.IsStrIter it ty x t i))
    (hend : ∀ (A' : Around) (s : Shared) (i : Nat) (E : Value → Shared → Prop) (Q : Option Value → Shared → Prop), A'.handled = none → s.heap.IsStrIter it ty x t i → x.cps[i]? = none →
      (∀ h', (∀ b o, b ≠ it → s.heap.get? b = some o → h'.get? b = some o) → Q none { s with heap := h' }) → wpAny (model P w) A' (pyNext (.ref it)) Q E s)
    (hself : ∀ (A' : Around) (s : Shared) (i : Nat) (E : Value → Shared → Prop) (Q : Value → Shared → Prop), s.heap.IsStrIter it ty x t i → Q (.ref it) s → wpAny (model P w) A' (pyIter (.ref it)) Q E s) :
    Turn P w K tg (Its x) [it] it (fun i h => h.IsStrIter it ty x t i) where
  mem := by simp
  obj := fun i h st b hb => by
    have e : b = it := by simpa using hb
    subst e
    obtain ⟨o, e, c, d⟩ := st
    exact ⟨o, e, fun v z => by rw [d] at z; cases z⟩
  keep := fun i h h' st k => let ⟨o, ho, r⟩ := st; ⟨o, k it (by simp) o ho, r⟩
  item := by
    intro X hP hw hK hc i pins s σ H E I hf st hg
    subst hP hw hK
    obtain ⟨f0, f1, f2, f3, f4, f5⟩ := hf it (by simp)
    refine (W X.A (I.ok.hd hc)).item i s _ _ hg st fun v h' tk hv st' kk => ?_
    obtain ⟨c, u, hcu, rfl⟩ := hv
    have I1 : Inv X pins σ H { s with heap := h', toks := tk } := I.turned (fun b o hb e => kk b o (by simpa using hb) e) f0 f1 f3 f4 f5
    obtain ⟨o, e, hcl, d⟩ := id st'
    exact ⟨_, rfl, go_of (s := { s with heap := h', toks := tk }) e hcl d hty ⟨.str ⟨#[c]⟩, H, I1, ⟨u, rfl⟩, ⟨rfl, c, hcu, rfl⟩, st', fun b hb => (hf b hb).1⟩⟩
  done := by
    intro X hP hw hK hc i pins s σ H E I hf st hg
    subst hP hw hK
    obtain ⟨f0, f1, f2, f3, f4, f5⟩ := hf it (by simp)
    have hg' : x.cps.size ≤ i := hg
    exact hend X.A s i E _ (I.ok.hd hc) st (by simp [hg']) fun h' eb => ⟨rfl, I.turned (t' := s.toks) (fun b o hb e => eb b o hb e) f0 f1 f3 f4 f5⟩
  self := fun A i s Q E st h => hself A s i E Q st h

end
end L2

set_option Elab.async false
set_option linter.all false
set_option maxRecDepth 100000
set_option maxHeartbeats 1000000
namespace L2
open PySem PySem.Spec PyProof.Rows


theorem relabel_lookup {env : Env} (y : Str) : ∀ (names : List (Str × NameKind)),
    (names.map fun (n, k) => if (k == NameKind.free && env.scope.kind == .function && env.kindOf n == some .cell) then (n, NameKind.cell) else (n, k)).lookup y =
      (names.lookup y).map fun k => if (k == NameKind.free && env.scope.kind == .function && env.kindOf y == some .cell) then NameKind.cell else k
  | [] => rfl
  | (n, k) :: r => by
    have ih := relabel_lookup y r (env := env)
    rw [List.map_cons]
    by_cases hy : y = n
    · subst hy
      show List.lookup y ((if (k == NameKind.free && env.scope.kind == .function && env.kindOf y == some .cell) = true then (y, NameKind.cell) else (y, k)) :: _) = _
      by_cases hc : (k == NameKind.free && env.scope.kind == .function && env.kindOf y == some .cell) = true
      · rw [if_pos hc]
        simp only [List.lookup_cons, beq_self_eq_true, Option.map_some, hc, if_true]
      · rw [if_neg hc]
        simp only [List.lookup_cons, beq_self_eq_true, Option.map_some, hc, if_false]
        rfl
    · have hb : (y == n) = false := by simpa using hy
      show List.lookup y ((if (k == NameKind.free && env.scope.kind == .function && env.kindOf n == some .cell) = true then (n, NameKind.cell) else (n, k)) :: _) = _
      by_cases hc : (k == NameKind.free && env.scope.kind == .function && env.kindOf n == some .cell) = true
      · rw [if_pos hc]
        simp only [List.lookup_cons, hb]
        exact ih
      · rw [if_neg hc]
        simp only [List.lookup_cons, hb]
        exact ih

theorem closure_go {env : Env} : ∀ (names : List (Str × NameKind)) (cs : List (Str × Addr)), (∀ y ∈ names, y.2 = .free → ∃ c, env.cells.lookup y.1 = some c) → (∀ y c, cs.lookup y = some c → env.cells.lookup y = some c) →
    ∃ cl, (forIn (m := Sem) names cs fun (x : Str × NameKind) (r : List (Str × Addr)) => (if (x.2 == .free) = true then (do let c ← cellOf env x.1; pure (ForInStep.yield ((x.1, c) :: r))) else pure (ForInStep.yield r))) = pure cl ∧
      (∀ y c, cl.lookup y = some c → env.cells.lookup y = some c) ∧ (∀ y ∈ names, y.2 = .free → ∃ c, cl.lookup y.1 = some c) ∧ ∀ y, (∃ c, cs.lookup y = some c) → ∃ c, cl.lookup y = some c
  | [], cs, _, hcs => ⟨cs, rfl, hcs, (fun _ h => nomatch h), (fun _ h => h)⟩
  | (n, k) :: r, cs, h, hcs => by
    by_cases hk : k = .free
    · subst hk
      obtain ⟨c, hc⟩ := h (n, .free) List.mem_cons_self rfl
      have hc : env.cells.lookup n = some c := hc
      have hcs' : ∀ y c', ((n, c) :: cs).lookup y = some c' → env.cells.lookup y = some c' := fun y c' e => by
        by_cases hy : y = n
        · subst hy
          simp only [List.lookup_cons, beq_self_eq_true] at e
          cases e
          exact hc
        · have hb : (y == n) = false := by simpa using hy
          simp only [List.lookup_cons, hb] at e
          exact hcs y c' e
      obtain ⟨cl, e1, e2, e3, e4⟩ := closure_go r ((n, c) :: cs) (fun y hy => h y (List.mem_cons_of_mem _ hy)) hcs'
      refine ⟨cl, ?_, e2, fun y hy hf => ?_, fun y hy => e4 y ?_⟩
      · rw [List.forIn_cons]
        simp only [beq_self_eq_true, if_true, cellOf, hc]
        exact e1
      · rcases List.mem_cons.mp hy with rfl | hy
        · exact e4 n ⟨c, by simp only [List.lookup_cons, beq_self_eq_true]⟩
        · exact e3 y hy hf
      · obtain ⟨c', hc'⟩ := hy
        by_cases hy : y = n
        · subst hy
          exact ⟨c, by simp only [List.lookup_cons, beq_self_eq_true]⟩
        · have hb : (y == n) = false := by simpa using hy
          exact ⟨c', by simp only [List.lookup_cons, hb]; exact hc'⟩
    · obtain ⟨cl, e1, e2, e3, e4⟩ := closure_go r cs (fun y hy => h y (List.mem_cons_of_mem _ hy)) hcs
      refine ⟨cl, ?_, e2, fun y hy hf => ?_, e4⟩
      · have hb : (k == NameKind.free) = false := by simpa using hk
        rw [List.forIn_cons]
        simp only [hb, Bool.false_eq_true, if_false]
        exact e1
      · rcases List.mem_cons.mp hy with rfl | hy
        · exact absurd hf hk
        · exact e3 y hy hf
theorem closure_of {env : Env} {scope : Scope} (h : ∀ y ∈ scope.names, y.2 = .free → ∃ c, env.cells.lookup y.1 = some c) :
    ∃ cl, closureFor scope env = pure cl ∧ (∀ y c, cl.lookup y = some c → env.cells.lookup y = some c) ∧ (∀ y ∈ scope.names, y.2 = .free → ∃ c, cl.lookup y.1 = some c) := by
  obtain ⟨cl, e1, e2, e3, _⟩ := closure_go scope.names [] h (fun y c e => by simp at e)
  refine ⟨cl, ?_, e2, e3⟩
  have e : closureFor scope env = (forIn (m := Sem) scope.names [] fun (x : Str × NameKind) (r : List (Str × Addr)) => (if (x.2 == .free) = true then (do let c ← cellOf env x.1; pure (ForInStep.yield ((x.1, c) :: r))) else pure (ForInStep.yield r))) >>= fun cs => pure cs := rfl
  rw [e, e1]
  rfl

theorem compLoop_go {prog : Program} {w : World} {A : Around} {R : Result → Shared → Prop} {s : Shared} {elt target iter : Expr} {ifs : List Expr} {scope : Scope} {pos : Pos} {it acc : Value} {env : Env} (I : Nat → Shared → Prop)
    (turn : ∀ n s, I n s → wpAny (model prog w) A (pyNext it) (fun r s₁ => match r with
      | none => R (.ok .next) s₁
      | some v => wpAny (model prog w) A (letOwnedTupleGo target it v) (fun _ s₁ => wpAny (model prog w) A (assign target env v) (fun _ s₂ =>
          wpAny (model prog w) A (forIn ifs true fun c r => if r = true then do let ok ← isTrue c env (eval c env); pure (ForInStep.yield ok) else pure (ForInStep.yield r)) (fun ok s₃ =>
            if ok = true then wpAny (model prog w) A (eval elt env) (fun x s₄ =>
              wpAny (model prog w) A (call (.builtin "list.append") [acc, x]) (fun _ s₅ => ∃ m, m < n ∧ I m s₅) (fun _ _ => False) s₄) (fun _ _ => False) s₃
            else ∃ m, m < n ∧ I m s₃) (fun _ _ => False) s₂) (fun _ _ => False) s₁) (fun _ _ => False) s₁) (fun _ _ => False) s)
    (n : Nat) (h : I n s) :
    codeAny (model prog w) A (.compLoop (.ListComp elt [⟨target, iter, ifs, 0⟩] scope pos) 0 it acc env) R s := by
  refine codeAny_loop rfl I (fun n s hI => ?_) n h
  show wpAny _ A ((compTurn (.ListComp elt [⟨target, iter, ifs, 0⟩] scope pos) 0 it acc env).onRaise (fun x => do noteFrame x env; theTreesLotGoes x)) _ _ s
  refine wpAny_noted ?_
  rw [compTurn_list]
  refine wpAny_bind (wpAny_standAt (wpAny_bind (wpAny_mono (turn n s hI) (fun r s₁ h₁ => ?_) fun _ _ h' => h'.elim)))
  cases r with
  | none => exact wpAny_pure h₁
  | some v =>
    refine wpAny_bind (wpAny_mono h₁ (fun _ s₁ h₁ => ?_) fun _ _ h' => h'.elim)
    refine wpAny_bind (wpAny_mono h₁ (fun _ s₂ h₂ => wpAny_bind (wpAny_mono h₂ (fun ok s₃ h₃ => ?_) fun _ _ h' => h'.elim)) fun _ _ h' => h'.elim)
    cases ok with
    | false => exact wpAny_pure ⟨rfl, h₃⟩
    | true =>
      exact wpAny_bind (wpAny_bind (wpAny_mono h₃ (fun x s₄ h₄ => wpAny_bind (wpAny_mono h₄ (fun _ s₅ h₅ => wpAny_pure (wpAny_pure ⟨rfl, h₅⟩)) fun _ _ h' => h'.elim)) fun _ _ h' => h'.elim))


noncomputable def blk (X : Cx) (x : Str) (scope : Scope) (cl : List (Str × Addr)) (C : Addr) (s3 : Shared) (H3 : Hp) (fp : List Addr) : Cx :=
  { X with N := x :: X.N, s₀ := s3, H₀ := H3, env := compEnvC scope cl C X.env, outer := X.stack, ex := fp, fn := fun _ => false, pn := [], xe := fun _ _ => False }

noncomputable def PTs (X : Cx) (ifs : List Expr) (t : TT) : Prop :=
  ∀ (pins : List (Addr × Obj)) (s : Shared) (σ : St) (H : Hp) (Q : Bool → Hp → Prop), Inv X pins σ H s → t σ H Q →
    wpAny (model X.prog X.w) X.A (forIn ifs true fun c r => if r = true then do let ok ← isTrue c X.env (eval c X.env); pure (ForInStep.yield ok) else pure (ForInStep.yield r)) (TP X pins σ Q) X.xe s
noncomputable def tTrue : TT := fun _ H Q => Q true H
theorem pts_nil {X : Cx} : PTs X [] tTrue := fun _ _ _ H _ I h => wpAny_tests_nil ⟨H, I, h⟩
theorem pts_one {X : Cx} {c : Expr} {t : TT} (h : PT X c t) : PTs X [c] t := fun pins s σ H Q I hw => wpAny_tests_one (h pins s σ H Q I hw)

noncomputable def lcBody (J : It) (tt : TT) (te : TE) (σ : St) (H1 : Hp) (Q : VK) : Prop := ∀ D, H1 D = none → ∃ W : Nat → Nat → List V → Hp → Prop, (∃ m, W 0 m [] (upd H1 D (.lst []))) ∧ ∀ i m ys H', W i m ys H' → H' D = some (.lst ys) ∧
  ((J.stop i H' ∧ Q (.ref D) H') ∨ (J.go i H' ∧ ∀ v H2, J.yld i H' v H2 → tt (some v :: σ) H2 fun b H3 =>
    if b = true then te (some v :: σ) H3 fun y H4 => H4 D = some (.lst ys) ∧ ys.length < sizeLine ∧ ∃ m', m' < m ∧ W (i + 1) m' (ys ++ [y]) (upd H4 D (.lst (ys ++ [y]))) else ∃ m', m' < m ∧ W (i + 1) m' ys H3))
noncomputable def tLC (wi : TI) (tt : TT) (te : TE) : TE := fun σ H Q => wi σ H fun J H1 => lcBody J tt te σ H1 Q


structure LcScope (X : Cx) (x : Str) (scope : Scope) : Prop where
  xN : x ∉ X.N
  nd : X.N.Nodup
  kind : scope.kind = .function
  cell : ∀ y ∈ scope.names, y.2 ≠ .cell
  names : ∀ y ∈ scope.names, y.2 = .local → scope.names.lookup y.1 = some .local
  var : scope.names.lookup x = some .local
  free : ∀ y ∈ scope.names, y.2 = .free → X.env.kindOf y.1 = some .cell
  out : ∀ y ∈ X.N, scope.names.lookup y ≠ some .local
  calm : X.calm = true

section
variable {X : Cx} {elt iter : Expr} {x : Str} {px pos : Pos} {ifs : List Expr} {scope : Scope} {wi : TI} {tt : TT} {te : TE}

theorem lc_core {pins : List (Addr × Obj)} {σ : St} {H : Hp} {s : Shared} {E : Value → Shared → Prop} {Q : Value → Shared → Prop} {use : Option (Value → Sem Unit)} {QV : VK} (L : LcScope X x scope) (I : Inv X pins σ H s)
    (hi : wpAny (model X.prog X.w) X.A (eval iter X.env) (fun v s1 => wpAny (model X.prog X.w) X.A (pyIter v) (PIE X pins σ (.Name x px) (fun J H1 => ∀ D, H1 D = none → ∃ W : Nat → Nat → List V → Hp → Prop, (∃ m, W 0 m [] (upd H1 D (.lst []))) ∧ ∀ i m ys H', W i m ys H' → H' D = some (.lst ys) ∧
  ((J.stop i H' ∧ QV (.ref D) H') ∨ (J.go i H' ∧ ∀ v H2, J.yld i H' v H2 → tt (some v :: σ) H2 fun b H3 =>
    if b = true then te (some v :: σ) H3 fun y H4 => H4 D = some (.lst ys) ∧ ys.length < sizeLine ∧ ∃ m', m' < m ∧ W (i + 1) m' (ys ++ [y]) (upd H4 D (.lst (ys ++ [y]))) else ∃ m', m' < m ∧ W (i + 1) m' ys H3)))) E s1) E s)
    (ht : ∀ cl C s3 H3 fp, PTs (blk X x scope cl C s3 H3 fp) ifs tt) (he : ∀ cl C s3 H3 fp, PE (blk X x scope cl C s3 H3 fp) elt te)
    (hs : ∀ x, foldedSetIterable iter X.env x = pure x)
    (fin : ∀ (D C : Addr) (H' : Hp) (s' : Shared) (m : Str → Option Value), Inv X pins σ H' s' → FpOk X pins H' C → s'.heap.Ns C m → QV (.ref D) H' → compPost (model X.prog X.w) X.A E use Q (.ref D) C (.ok .next) s') :
    wpAny (model X.prog X.w) X.A (comprehension (.ListComp elt [⟨.Name x px, iter, ifs, 0⟩] scope pos) scope X.env (firstIterPos [⟨.Name x px, iter, ifs, 0⟩] pos) (newList []) false (eval iter X.env) use) Q E s := by
  obtain ⟨cl, hcl, cl1, cl2⟩ := closure_of (env := X.env) (scope := scope) (fun y hy hf => I.ok.has y.1 (.inl (L.free y hy hf)))
  refine wpAny_comprehension_free (use := use) rfl hs hcl L.kind L.names (wpAny_mono hi (fun xv s₁ h₁ => wpAny_mono h₁ (fun it s2 h₂ => ?_) fun _ _ e => e) fun _ _ e => e)
  obtain ⟨it, fp, tn, J, H2, rfl, I2, T, st2, f2, hW⟩ := h₂
  have fr2 : H2 s2.heap.objs.size = none := I2.hok.fresh (Nat.le_refl _)
  obtain ⟨W, ⟨m0, w0⟩, turn⟩ := hW _ fr2
  refine wpAny_newObj_type ?_
  have I3 : Inv X pins σ (upd H2 s2.heap.objs.size (.lst [])) { s2 with heap := s2.heap.push { cls := .type "list", dict := none, data := .seq ([] : List Value).toArray } } :=
    I2.laid (t' := s2.toks) (o := .lst []) (fun b ob q => Heap.get?_push_of_some _ q) (Nat.le_refl _) ⟨Nat.zero_le _, [], 0, .nil, Heap.get?_push_size _ rfl⟩
  generalize hD : s2.heap.objs.size = D at I3 turn w0 fr2 ⊢
  generalize hH3 : upd H2 D (.lst []) = H3 at I3 w0
  generalize hs3 : ({ s2 with heap := s2.heap.push { cls := .type "list", dict := none, data := .seq ([] : List Value).toArray } } : Shared) = s3 at I3 ⊢
  have k23 : ∀ b o, s2.heap.get? b = some o → s3.heap.get? b = some o := fun b o e => by rw [← hs3]; exact Heap.get?_push_of_some _ e
  have os3 : s3.os = s2.os := by rw [← hs3]
  have fpD : ∀ b ∈ fp, b ≠ D := fun b hb z => by
    obtain ⟨o, e, _⟩ := T.obj _ _ st2 b hb
    exact absurd (Heap.lt_size e) (by rw [z, ← hD]; exact Nat.lt_irrefl _)
  have f3 : ∀ b ∈ fp, FpOk X pins H3 b := fun b hb => ⟨by rw [← hH3, upd_ne (fpD b hb)]; exact (f2 b hb).1, (f2 b hb).2⟩
  have st3 : tn 0 s3.heap := T.keep _ _ _ st2 fun b hb o e => k23 b o e
  refine wpAny_newFunctionEnv L.cell (fun y hy => by simp at hy) (fun h₁ hns₁ hsb₁ => ?_) L.kind
  generalize hC : s3.heap.objs.size = C at hns₁ hsb₁ ⊢
  have k34 : ∀ b o, s3.heap.get? b = some o → h₁.get? b = some o := fun b o e => hsb₁.extBut b o (by rintro rfl; exact absurd (Heap.lt_size e) (by rw [hC]; exact Nat.lt_irrefl _)) (Heap.get?_push_of_some _ e)
  -- the block's context
  let X' : Cx := blk X x scope cl C s3 H3 fp
  have relab : ∀ y, X'.env.scope.names.lookup y = (scope.names.lookup y).map fun k => if (k == NameKind.free && X.env.scope.kind == .function && X.env.kindOf y == some .cell) then NameKind.cell else k := fun y => relabel_lookup y scope.names
  have visC : ∀ y, (X'.env.kindOf y = some .cell ∨ X'.env.kindOf y = some .free) → scope.names.lookup y = some .free := fun y hy => by
    have e := relab y
    have hy : X'.env.scope.names.lookup y = some .cell ∨ X'.env.scope.names.lookup y = some .free := hy
    rw [e] at hy
    cases q : scope.names.lookup y with
    | none => rw [q] at hy; simp at hy
    | some k =>
      rw [q] at hy
      simp only [Option.map_some, Option.some.injEq] at hy
      by_cases hf : k = .free
      · rw [hf]
      · have hb : (k == NameKind.free) = false := by simpa using hf
        simp only [hb, Bool.false_and, Bool.false_eq_true, if_false] at hy
        rcases hy with rfl | rfl
        · exact absurd rfl (L.cell _ (PySem.mem_of_lookup q))
        · exact absurd rfl hf
  have okX' : X'.Ok := by
    refine ⟨I3.ok.mod, ?_, I3.ok.glob, I3.ok.blt, ?_, ?_, ?_, ?_, I3.ok.hd, I3.ok.frames, .inl rfl, ?_, ?_, ?_, ?_, ?_, ?_, ?_⟩
    · show (relabel scope X.env).kind = .function
      exact L.kind
    · show s3.heap.objs.size ≤ C
      exact Nat.le_of_eq hC
    · exact fun a b c h1 h2 => I3.ok.inj a b c (cl1 a c h1) (cl1 b c h2)
    · exact fun y hy => cl2 (y, .free) (PySem.mem_of_lookup (visC y hy)) rfl
    · exact fun y c hf => by cases hf
    · refine fun b hb => ⟨?_, fun y c e z => (f3 b hb).2.2.2.2.1 y c (cl1 y c e) z⟩
      show b ≠ C
      intro z
      obtain ⟨o, e, _⟩ := T.obj _ _ st3 b hb
      exact absurd (Heap.lt_size e) (by rw [z, ← hC]; exact Nat.lt_irrefl _)
    · exact fun b o e => I3.bs b o e
    · exact Nat.le_trans I3.ok.bsz I3.sz
    · intro b o e hb
      rcases (f3 b hb).2.2.2.1 with z | z
      · exact I3.ok.noex b o e z
      · exact absurd (Nat.lt_of_lt_of_le (Heap.lt_size e) (Nat.le_trans I3.ok.bsz z)) (Nat.lt_irrefl _)
    · intro b hb z
      rcases List.mem_cons.mp (I3.stkSub b z) with e | e
      · exact (f3 b hb).2.1 e
      · exact (f3 b hb).2.2.1 e
    · exact I3.stack
    · exact I3.stkFree
  have hfreeC : H3 C = none := I3.hok.fresh (Nat.le_of_eq hC)
  have I4 : Inv X' [] (none :: σ) H3 { s3 with heap := h₁, toks := s3.toks + ([] : List (Str × Value)).length } := by
    refine ⟨okX', rfl, I3.bare, Un.kept k34, ⟨_, hns₁, ?_⟩, ?_, hfreeC, ?_, fun p hp => absurd (show p ∈ ([] : List (Addr × Obj)) from hp) (by simp), I3.hok.kept k34, ?_⟩
    · intro i y v e1 e2 e3
      cases i with
      | zero => simp at e2
      | succ j =>
        have e1 : X.N[j]? = some y := by simpa using (show (x :: X.N)[j + 1]? = some y from e1)
        have e2 : σ[j]? = some (some v) := by simpa using e2
        have hyN : y ∈ X.N := List.mem_of_getElem? e1
        have hfr : scope.names.lookup y = some .free := by
          rcases e3 with e3 | e3 | e3
          · rw [relab y] at e3
            cases q : scope.names.lookup y with
            | none => rw [q] at e3; simp at e3
            | some k =>
              rw [q] at e3
              simp only [Option.map_some, Option.some.injEq] at e3
              by_cases hf : k = .free
              · rw [hf]
              · have hb : (k == NameKind.free) = false := by simpa using hf
                simp only [hb, Bool.false_and, Bool.false_eq_true, if_false] at e3
                exact absurd (by rw [q, e3]) (L.out y hyN)
          · exact visC y (.inl e3)
          · exact visC y (.inr e3)
        have hkc := L.free (y, .free) (PySem.mem_of_lookup hfr) rfl
        have hkc : X.env.kindOf y = some .cell := hkc
        obtain ⟨mX, _, hlX⟩ := I3.loc
        obtain ⟨u, r, l⟩ := hlX j y v e1 e2 (.inr (.inl hkc))
        refine ⟨u, r, ?_⟩
        rcases l with ⟨l, _⟩ | ⟨_, c, hc, hcell⟩
        · rw [hkc] at l; cases l
        · obtain ⟨c', hc'⟩ := cl2 (y, .free) (PySem.mem_of_lookup hfr) rfl
          have hc' : cl.lookup y = some c' := hc'
          have := cl1 y c' hc'
          rw [hc] at this
          cases this
          refine .inr ⟨?_, c, hc', ?_⟩
          · rcases e3 with e3 | e3 | e3
            · rw [relab y, hfr] at e3
              simp only [Option.map_some, Option.some.injEq] at e3
              split at e3 <;> cases e3
            · exact .inl e3
            · exact .inr e3
          · obtain ⟨o, ho, hd⟩ := hcell
            exact ⟨o, k34 _ _ ho, hd⟩
    · intro y c e
      obtain ⟨v, o, ho, hd⟩ := I3.cell y c (cl1 y c e)
      exact ⟨v, o, k34 _ _ ho, hd⟩
    · exact fun y c e => I3.freeC y c (cl1 y c e)
    · show (none :: σ).length = (x :: X.N).length
      rw [List.length_cons, List.length_cons, I3.len]
  have st4 : tn 0 h₁ := T.keep _ _ _ st3 fun b hb o e => k34 b o e
  have stat : ∀ {H' : Hp}, (∀ b ∈ fp, H' b = none) → ∀ b ∈ fp, FpOk X' [] H' b := fun hn b hb => by
    refine ⟨hn b hb, (okX'.exf b hb).1, okX'.exfs b hb, .inl hb, (okX'.exf b hb).2, fun p hp => absurd (show p ∈ ([] : List (Addr × Obj)) from hp) (by simp)⟩
  have hNd : X'.N.Nodup := List.nodup_cons.mpr ⟨L.xN, L.nd⟩
  have hvar : X'.env.scope.names.lookup x = some .local := by
    rw [relab x, L.var]
    rfl
  have loop : ∀ s4 : Shared, s4 = { s3 with heap := h₁, toks := s3.toks + ([] : List (Str × Value)).length } →
      codeAny (model X.prog X.w) X.A (.compLoop (.ListComp elt [⟨.Name x px, iter, ifs, 0⟩] scope pos) 0 (.ref it) (.ref D) X'.env) (compPost (model X.prog X.w) X.A E use Q (.ref D) C) s4 := by
    rintro s4 rfl
    refine compLoop_go (fun n s' => ∃ i ys o H', Inv X' [] (o :: σ) H' s' ∧ tn i s'.heap ∧ (∀ b ∈ fp, H' b = none) ∧ W i n ys H') ?_ m0 ⟨0, [], none, H3, I4, st4, fun b hb => (f3 b hb).1, w0⟩
    rintro n s5 ⟨i, ys, o, H5, I5, st5, fr5, w5⟩
    obtain ⟨hD5, turn5⟩ := turn i n ys H5 w5
    rcases turn5 with ⟨stop, qn⟩ | ⟨go, step⟩
    · refine wpAny_mono (T.done X' rfl rfl rfl L.calm i [] s5 (o :: σ) H5 (fun _ _ => False) I5 (stat fr5) st5 stop) (fun r s6 h6 => ?_) fun _ _ z => z
      obtain ⟨rfl, I6⟩ := h6
      have un6 : Un (frs X.stack) fp H3 H5 s3.heap s6.heap := I6.base
      have IX : Inv X pins σ H5 s6 := I3.call' I6.os un6 I6.hok I6.bare fun b hb => ⟨(f3 b hb).2.2.2.1, (f3 b hb).2.1, (f3 b hb).2.2.2.2.1, (f3 b hb).2.2.2.2.2⟩
      obtain ⟨mC, hnC, _⟩ := I6.loc
      exact fin D C H5 s6 mC IX (I3.fpOk (H' := H5) (Nat.le_of_eq hC) I6.free) hnC qn
    · refine wpAny_mono (T.item X' rfl rfl rfl L.calm i [] s5 (o :: σ) H5 (fun _ _ => False) I5 (stat fr5) st5 go) (fun r s6 h6 => ?_) fun _ _ z => z.elim
      obtain ⟨u, rfl, h6⟩ := h6
      refine wpAny_mono h6 (fun _ s6 h6 => ?_) fun _ _ z => z
      obtain ⟨v, H6, I6, r6, y6, st6, fr6⟩ := h6
      have I6' := I6.pinned (stat fr6) (T.obj _ _ st6)
      have hv6 := step v H6 y6
      show wpAny (model X'.prog X'.w) X'.A (assign (.Name x px) X'.env u) _ _ s6
      refine wpAny_mono (Q := fun _ s7 => Inv X' ([] ++ pinsAt fp s6.heap) (some v :: σ) H6 s7) (E := fun _ _ => False) (wpAny_assign_Name (store_ok I6' hNd (i := 0) rfl (.inl hvar) r6 (fun s7 I7 => (show Inv X' ([] ++ pinsAt fp s6.heap) (some v :: σ) H6 s7 from I7)) (.inr hvar))) (fun _ s7 I7 => ?_) fun _ _ z => z.elim
      refine wpAny_mono ((ht cl C s3 H3 fp) _ s7 _ H6 _ I7 hv6) (fun b s8 h8 => ?_) fun _ _ z => z.elim
      obtain ⟨H8, I8, q8⟩ := h8
      have done : ∀ {ys' : List V} {H9 : Hp} {s9 : Shared} {n' : Nat}, Inv X' ([] ++ pinsAt fp s6.heap) (some v :: σ) H9 s9 → W (i + 1) n' ys' H9 → ∃ i ys o H', Inv X' [] (o :: σ) H' s9 ∧ tn i s9.heap ∧ (∀ b ∈ fp, H' b = none) ∧ W i n' ys H' := fun {ys' H9 s9 n'} I9 w9 => by
        refine ⟨i + 1, ys', some v, H9, I9.unpinned, T.keep _ _ _ st6 fun b hb o e => (I9.pin (b, o) (List.mem_append_right _ (List.mem_append_right _ (mem_pinsAt hb e)))).1, fun b hb => ?_, w9⟩
        obtain ⟨o, e, d⟩ := T.obj _ _ st6 b hb
        exact (I9.pin (b, o) (List.mem_append_right _ (List.mem_append_right _ (mem_pinsAt hb e)))).2.1
      cases b with
      | false =>
        have q8 : ∃ m', m' < n ∧ W (i + 1) m' ys H8 := q8
        obtain ⟨m', hm, w8⟩ := q8
        exact ⟨m', hm, done I8 w8⟩
      | true =>
        have q8 : te (some v :: σ) H8 _ := q8
        refine wpAny_mono ((he cl C s3 H3 fp) _ s8 _ H8 _ I8 q8) (fun yv s9 h9 => ?_) fun _ _ z => z.elim
        obtain ⟨y, H9, I9, r9, hD9, hz9, m', hm, w9⟩ := h9
        refine wpAny_mono (mt_append (X := X') _ s9 _ H9 (.ref D) [y] (.ref D) [yv] (fun v' H' => v' = .non ∧ H' = upd H9 D (.lst (ys ++ [y]))) I9 rfl (.cons r9 .nil) ⟨D, ys, y, rfl, rfl, hD9, hz9, rfl, rfl⟩) (fun _ s10 h10 => ?_) fun _ _ z => z.elim
        obtain ⟨_, H10, I10, _, _, rfl⟩ := h10
        exact ⟨m', hm, done I10 w9⟩
  exact codeAny_compStart_list (loop _ rfl) (T.self _ 0 _ _ _ st4 (loop _ rfl))


theorem ps_setLC {i : Nat} {z : Str} {pz spos : Pos} (hN : X.N.Nodup) (hi' : X.N[i]? = some z) (hz : Loc X.env.scope z) (L : LcScope X x scope) (hi : PI X (.Name x px) iter wi) (ht : ∀ cl C s3 H3 fp, PTs (blk X x scope cl C s3 H3 fp) ifs tt) (he : ∀ cl C s3 H3 fp, PE (blk X x scope cl C s3 H3 fp) elt te)
    (hs : ∀ x, foldedSetIterable iter X.env x = pure x := by intro _; rfl) (hsw : swapsWith (.ListComp elt [⟨.Name x px, iter, ifs, 0⟩] scope pos) (some (.Name z pz)) spos.line X.env = pure true := by rfl)
    (hf : X.fn z = true ∨ X.env.scope.names.lookup z = some .local := by first | exact .inl rfl | exact .inr rfl | assumption) : PS X (.Assign [.Name z pz] (.ListComp elt [⟨.Name x px, iter, ifs, 0⟩] scope pos) spos) (tAsg (tLC wi tt te) (gName i)) := by
  intro pins s σ H D I h
  rw [exec_Assign_Name_used _ _ _ _ hsw]
  refine wpAny_bind (wpAny_standAt (wpAny_bind ?_))
  show wpAny _ X.A (do let _ ← comprehension (.ListComp elt [⟨.Name x px, iter, ifs, 0⟩] scope pos) scope X.env _ (newList []) false (eval iter X.env) (some (assign (.Name z pz) X.env))) _ _ s
  refine wpAny_bind (wpAny_mono (lc_core (use := some (assign (.Name z pz) X.env)) (Q := fun _ s' => SP X pins D .next s') (QV := fun v H' => D.nx (σ.set i (some v)) H') L I (hi pins s σ H _ I h) ht he hs fun D' C H' s' m IX fC hn q => ?_) (fun _ s' hq => wpAny_pure (wpAny_pure hq)) fun _ _ e => e)
  show wpAny _ X.A (assign (.Name z pz) X.env (.ref D')) _ _ s'
  refine wpAny_assign_Name (store_ok2 IX hN hi' hz (show RelV (.ref D') (.ref D') from rfl) (fun s2 I2 hch => ?_) hf)
  obtain ⟨a, sb, ha⟩ := hch
  have hCa : C ≠ a := by
    rcases ha with e | e
    · rw [e]; exact fC.2.1
    · intro z'; exact fC.2.2.2.2.1 _ _ e z'.symm
  refine ⟨m, hn.sameBut sb hCa, fun h' hs' => ?_⟩
  exact ⟨_, H', I2.turned (t' := s2.toks) (fun b o hb e => hs'.extBut b o hb e) fC.1 fC.2.1 fC.2.2.2.1 fC.2.2.2.2.1 fC.2.2.2.2.2, q⟩

theorem pe_lc (L : LcScope X x scope) (hi : PI X (.Name x px) iter wi) (ht : ∀ cl C s3 H3 fp, PTs (blk X x scope cl C s3 H3 fp) ifs tt) (he : ∀ cl C s3 H3 fp, PE (blk X x scope cl C s3 H3 fp) elt te)
    (hs : ∀ x, foldedSetIterable iter X.env x = pure x := by intro _; rfl) : PE X (.ListComp elt [⟨.Name x px, iter, ifs, 0⟩] scope pos) (tLC wi tt te) := by
  intro pins s σ H Q I h
  rw [eval_ListComp]
  refine lc_core (use := none) (QV := Q) L I (hi pins s σ H _ I h) ht he hs fun D C H' s' m IX fC hn q => ?_
  refine ⟨m, hn, fun h' hs' => ⟨.ref D, H', IX.turned (t' := s'.toks) (fun b o hb e => hs'.extBut b o hb e) fC.1 fC.2.1 fC.2.2.2.1 fC.2.2.2.2.1 fC.2.2.2.2.2, rfl, q⟩⟩
end
end L2

set_option Elab.async false
set_option linter.all false
set_option maxRecDepth 100000
set_option maxHeartbeats 1000000
namespace L2
open PySem PySem.Spec PyProof.Rows


noncomputable def S (l : List Nat) : Str := ⟨l.toArray⟩
theorem S_list (l : List Nat) : (S l).cps.toList = l := rfl
theorem S_len (l : List Nat) : (S l).length = l.length := by simp [S, Str.length]
theorem S_size (l : List Nat) : (S l).cps.size = l.length := by simp [S]
theorem S_get (l : List Nat) (i : Nat) : (S l).cps[i]? = l[i]? := by simp [S]
theorem S_of (x : Str) : S x.cps.toList = x := by simp [S]
theorem S_inj {a b : List Nat} : S a = S b ↔ a = b := ⟨fun h => by have := congrArg (fun x => x.cps.toList) h; simpa [S] using this, fun h => by rw [h]⟩
theorem S_app (a b : List Nat) : S a ++ S b = S (a ++ b) := by
  show Str.append (S a) (S b) = _
  simp [S, Str.append]
section
variable {X : Cx} {a b e : Expr} {ta tb te : TE} {pos : Pos}

theorem pe_S {x : Str} {l : List Nat} {j pos} (h : x = S l) : PE X (.Constant (.str x) j pos) (tC (.str (S l))) := by
  subst h; exact pe_str

theorem op_addS : OpR X (binaryOp .Add) (fun x y H Q => ∃ i j, x = .str (S i) ∧ y = .str (S j) ∧ i.length + j.length ≤ sizeLine ∧ Q (.str (S (i ++ j))) H) := by
  intro pins s σ H x y v u Q I rx ry h
  obtain ⟨i, j, rfl, rfl, hz, q⟩ := h
  exact op_add_str pins s σ H _ _ v u Q I rx ry ⟨S i, S j, rfl, rfl, by rw [S_len, S_len]; exact hz, by rw [S_app]; exact q⟩
theorem op_mulI : OpR X (binaryOp .Mult) (rI IntMulOk fun i j => .int (i * j)) := opI fun _ _ _ _ _ _ _ hc q => mul_int q hc
noncomputable def rIxSS : R2 := fun x y H Q => ∃ l i c, x = .str (S l) ∧ y = .int i ∧ l.length ≤ sizeLine ∧ atI l i = some c ∧ Q (.str (S [c])) H
theorem ix_S : IxR X rIxSS := by
  intro value slice pins s σ H x y v u Q I rx ry h hs
  obtain ⟨l, i, c, rfl, rfl, hz, he, q⟩ := h
  exact ix_str value slice pins s σ H _ _ v u Q I rx ry ⟨S l, i, c, rfl, rfl, by rw [S_len]; exact hz, he, q⟩ hs

theorem call_lenS : CallR X (.builtin "len") (fun xs H Q => ∃ l, xs = [.str (S l)] ∧ l.length ≤ sizeLine ∧ Q (.int l.length) H) := by
  intro pins s σ H xs us Q I r h
  obtain ⟨l, rfl, hz, q⟩ := h
  exact call_len_str pins s σ H _ us Q I r ⟨S l, rfl, by rw [S_len]; exact hz, by rw [S_len]; exact q⟩


noncomputable def cutN (xs : List Nat) (lo hi : Option Int) : List Nat := (xs.drop (HT.sIx xs.length 0 lo)).take (HT.sIx xs.length xs.length hi - HT.sIx xs.length 0 lo)

end
end L2

set_option Elab.async false
set_option linter.all false
set_option maxRecDepth 100000
set_option maxHeartbeats 1000000
namespace L2
open PySem PySem.Spec PyProof.Rows

section
variable {X : Cx} {a b e : Expr} {ta tb te : TE} {pos : Pos}

theorem strIdx (lo hi : Option Int) (n : Nat) : Builtin.Str.strSliceIndices lo hi 1 n = (List.range (HT.sIx n n hi - HT.sIx n 0 lo)).map (HT.sIx n 0 lo + ·) := by
  have h1 : (match lo with | none => (0 : Int) | some i => max 0 (min (if i < 0 then i + (n : Int) else i) (n : Int))) = ((HT.sIx n 0 lo : Nat) : Int) := by
    cases lo with
    | none => simp [HT.sIx]
    | some i =>
      simp only [HT.sIx]
      by_cases h : i < 0
      · simp only [h, if_true]; omega
      · simp only [h, if_false]; omega
  have h2 : (match hi with | none => (n : Int) | some i => max 0 (min (if i < 0 then i + (n : Int) else i) (n : Int))) = ((HT.sIx n n hi : Nat) : Int) := by
    cases hi with
    | none => simp [HT.sIx]
    | some i =>
      simp only [HT.sIx]
      by_cases h : i < 0
      · simp only [h, if_true]; omega
      · simp only [h, if_false]; omega
  rw [← sliceRange_one, ← h1, ← h2]
  cases lo <;> cases hi <;> rfl

theorem sIx_hi_le (n : Nat) (hi : Option Int) : HT.sIx n n hi ≤ n := HT.sIx_le n n (Nat.le_refl _) hi
theorem sl_S : SlR X (fun x lo hi H Q => ∃ l, x = .str (S l) ∧ l.length ≤ sizeLine ∧ Q (.str (S (cutN l lo hi))) H) := by
  intro pins s σ H x v vl vu lo hi sl Q I rx hs pl pu h
  obtain ⟨l, rfl, hz, q⟩ := h
  obtain ⟨t, rfl⟩ := rx
  refine ⟨"str", _, F.slot_str_getitem.lookup, typeIs_str s _ t, ?_⟩
  obtain ⟨pl', el⟩ : ∃ p, vl = partValue p ∧ p.map (·.1) = lo := by
    cases pl with
    | none => exact ⟨none, rfl, rfl⟩
    | int i t => exact ⟨some (i, t), rfl, rfl⟩
  obtain ⟨pu', eu⟩ : ∃ p, vu = partValue p ∧ p.map (·.1) = hi := by
    cases pu with
    | none => exact ⟨none, rfl, rfl⟩
    | int i t => exact ⟨some (i, t), rfl, rfl⟩
  have hsl : s.heap.IsSlice sl pl' pu' none := by
    obtain ⟨o, h1, h2, h3⟩ := hs
    exact ⟨o, h1, h2, by rw [h3, el.1, eu.1]; rfl⟩
  refine wpAny_getItem_str_slice hsl rfl ?_
  unfold sliceMade slicePicked
  refine post_val_or_made (fun _ => ?_) fun t' k => ?_
  · rw [el.2, eu.2, Option.map_none, Option.getD_none, strIdx, S_len]
    have e : ((List.range (HT.sIx l.length l.length hi - HT.sIx l.length 0 lo)).map (HT.sIx l.length 0 lo + ·)).filterMap ((S l).cps[·]?) = cutN l lo hi := by
      rw [pick_run]; rfl
    rw [e]
    show (S (cutN l lo hi)).length ≤ sizeLine
    rw [S_len]
    unfold cutN
    rw [List.length_take, List.length_drop]
    omega
  · refine ⟨.str _, H, I.tok _, ⟨_, rfl⟩, ?_⟩
    rw [el.2, eu.2, Option.map_none, Option.getD_none, strIdx, S_len]
    have e : ((List.range (HT.sIx l.length l.length hi - HT.sIx l.length 0 lo)).map (HT.sIx l.length 0 lo + ·)).filterMap ((S l).cps[·]?) = cutN l lo hi := by
      rw [pick_run]; rfl
    rw [e]
    split
    · rename_i hc
      have hc' : HT.sIx l.length l.length hi - HT.sIx l.length 0 lo = l.length := by
        simpa using hc
      have h2 := sIx_hi_le l.length hi
      have e2 : cutN l lo hi = l := by
        unfold cutN
        have h3 : HT.sIx l.length 0 lo = 0 := by
          by_cases hl : l.length = 0
          · have := HT.sIx_le l.length 0 (Nat.zero_le _) lo; omega
          · omega
        rw [hc', h3, List.drop_zero, List.take_length]
      rw [e2] at q
      exact q
    · exact q


noncomputable def dg (n : Nat) : List Nat := if n < 10 then [48 + n] else [48 + n / 10, 48 + n % 10]
theorem dg_char : ∀ d : Nat, d < 10 → (Nat.digitChar d).toNat = 48 + d := by decide
theorem str_dg {n : Nat} (h : n < 100) : (PySem.Str.ofString (toString ((n : Nat) : Int))) = S (dg n) := by
  have e := PySem.W.KIN.signs_num n
  have e2 : (Nat.toDigits 10 n).map Char.toNat = dg n := by
    unfold dg
    by_cases h1 : n < 10
    · rw [Nat.toDigits_of_lt_base h1, if_pos h1, List.map_singleton, dg_char n h1]
    · have t : Nat.toDigits 10 (n / 10) ++ Nat.toDigits 10 (n % 10) = Nat.toDigits 10 (10 * (n / 10) + n % 10) := Nat.toDigits_append_toDigits (by decide) (by omega) (by omega)
      rw [Nat.div_add_mod] at t
      rw [← t, Nat.toDigits_of_lt_base (by omega : n / 10 < 10), Nat.toDigits_of_lt_base (by omega : n % 10 < 10), if_neg h1, List.map_append, List.map_singleton, List.map_singleton, dg_char _ (by omega), dg_char _ (by omega)]
      rfl
  rw [← S_of (PySem.Str.ofString _), e, e2]
theorem log_small {i : Int} (h0 : 0 ≤ i) (h1 : i < 1000000) : i.natAbs.log2 < 1920 := by
  have : i.natAbs < 2 ^ 20 := by omega
  by_cases hz : i.natAbs = 0
  · rw [hz]; decide
  · have := (Nat.log2_lt hz).mpr this
    omega
theorem call_strS : CallR X (.type "str") (fun xs H Q => ∃ n : Nat, xs = [.int n] ∧ n < 100 ∧ Q (.str (S (dg n))) H) := by
  intro pins s σ H xs us Q I r h
  obtain ⟨n, rfl, hn, q⟩ := h
  refine call_str_int pins s σ H _ us Q I r ⟨n, rfl, log_small (by omega) (by omega), ?_⟩
  have e : (↑(toString (n : Int)) : Str) = S (dg n) := str_dg hn
  rw [e]
  exact q
noncomputable def isFig (c : Nat) : Bool := 48 ≤ c && c ≤ 57
theorem call_intS : CallR X (.type "int") (fun xs H Q => ∃ c d : Nat, xs = [.str (S [c, d])] ∧ isFig c = true ∧ isFig d = true ∧ Q (.int (((c - 48) * 10 + (d - 48) : Nat) : Int)) H) := by
  intro pins s σ H xs us Q I r h
  obtain ⟨c, d, rfl, hc, hd, q⟩ := h
  obtain ⟨u, rfl, t, rfl⟩ := vals1 r
  unfold isFig at hc hd
  simp only [Bool.and_eq_true, decide_eq_true_eq] at hc hd
  have hn : PySem.intText? (S [c, d]) = some (((c - 48) * 10 + (d - 48) : Nat) : Int) := by
    rw [intText_digits (x := S [c, d]) (fun z hz => ?_) (by simp [S]) (by rw [S_len]; show 2 ≤ 4300; decide)]
    · rw [S_list]
      simp [NumText.digitsVal]
    · rw [S_list] at hz
      simp at hz
      rcases hz with rfl | rfl
      · exact hc
      · exact hd
  exact PySem.W.KIN.call_text hn (by rw [S_len]; show 2 ≤ 640; decide) ⟨.int _, H, I.tok _, ⟨_, rfl⟩, q⟩
end
end L2

set_option Elab.async false
set_option linter.all false
set_option maxRecDepth 100000
set_option maxHeartbeats 1000000
namespace L2
open PySem PySem.Spec PyProof.Rows


structure OkF (P : Program) (w : World) (K : PySem.W.Frag) (mg : Str → Option Value) (base : Heap) (k : Nat) (x : Str) (ps : List Str) (sp : Sp) : Prop where
  ex : ∃ (f : Addr) (fd : FuncData), PySem.W.keepIn K (.ref f) = true ∧ Binds K fd ps [] ∧ (mg x = some (.ref f) ∧ ∃ oc od osl, K.lookup f = some ⟨oc, od, .func fd, osl⟩) ∧ FnOk P w K mg base CX0 k f fd ps sp

structure Df (K : PySem.W.Frag) (mg : Str → Option Value) (x : Str) (st : Stmt) (ps : List Str) : Prop where
  ex : ∃ (f : Addr) (fd : FuncData), Fun K x x st f fd ∧ Binds K fd ps [] ∧ mg x = some (.ref f)

section
variable {P : Program} {w : World} {K : PySem.W.Frag} {mg : Str → Option Value} {base : Heap}
theorem Df.ok {x : Str} {st : Stmt} {ps N : List Str} {k : Nat} {sp : Sp} (D : Df K mg x st ps) (Sc : FnScope N ps (defScope st)) (len : ∀ vs H Q E, sp vs H Q E → vs.length = ps.length)
    (hbody : ∀ (f : Addr) (cdv : Value) (A : Around) (outer : List Env) (s : Shared) (H : Hp) (vs : List V) (Q : VK) (E : XK), Room k (A.deeper (envOfC x (defScope st) s.heap.objs.size f cdv)) → sp vs H Q E →
      ∃ t, PSs (cxOf CX0 P w K mg base N x (defScope st) f cdv A outer s H E).nox (defBody st) t ∧ t { nx := fun _ H' => Q .non H', rt := Q } (start N vs) H) : OkF P w K mg base (k + 1) x ps sp := by
  obtain ⟨f, fd, F, b, m⟩ := D.ex
  refine ⟨f, fd, F.kp, b, ⟨m, ?_⟩, F.ok Sc len (fun cdv A outer s H vs Q E hr h => hbody f cdv A outer s H vs Q E hr h)⟩
  obtain ⟨oc, od, kV, doc, pm, an, cdv, ct, osl, rfl, lk, hcd⟩ := F.ex
  exact ⟨oc, od, osl, lk⟩
end
section
variable {P : Program} {w : World} {K : PySem.W.Frag} {mg : Str → Option Value} {base : Heap}

theorem df_mk {h : Heap} {x : Str} {st : Stmt} {ps : List Str} {f : Addr} {oc : Value} {od an : Option Addr} {osl : Array (Option Value)} {kV doc pm cdv ct : Value} (X : K.In h) (G : h.Ns mainGlobals mg)
    (b : ∀ (kV doc pm : Value) (an : Option Addr) (cdv ct : Value) (us : List Value), us.length = ps.length → bindArgs (PySem.W.fnOf x x (defArgs st) (defBody st) (defScope st) .none kV doc pm an cdv ct) ⟨us, []⟩ = pure (ps.zip us))
    (a : PySem.W.nsIn K mainGlobals x = some (some (.ref f))) (l : K.lookup f = some ⟨oc, od, .func (PySem.W.fnOf x x (defArgs st) (defBody st) (defScope st) .none kV doc pm an cdv ct), osl⟩)
    (c : PySem.W.codeIn K cdv x = true) (k : PySem.W.keepIn K (.ref f) = true) : Df K mg x st ps :=
  ⟨f, _, fun_mk l c k, (fun_mk l c k).binds b, PySem.W.mg_of X G a⟩

theorem law_of {st : Stmt} {x : Str} {k : Nat} {fa : Addr} {sp : Sp} (D : Df K mg "law" st [x]) (hfa : mg "law" = some (.ref fa))
    (hb : ∀ (kV doc pm : Value) (an : Option Addr) (cdv ct : Value) (s : Shared) (u : Value), BindsTo s (PySem.W.fnOf "law" "law" (defArgs st) (defBody st) (defScope st) .none kV doc pm an cdv ct) ⟨[u], []⟩ [(x, u)])
    (F : ∀ base : Heap, OkF P w K mg base k "law" [x] sp) :
    ∃ fd : FuncData, (∀ (s : Shared) (v : Value), BindsTo s fd ⟨[v], []⟩ [(x, v)]) ∧ ∀ base : Heap, K.In base → base.Ns mainGlobals mg → FnOk P w K mg base CX0 k fa fd [x] sp := by
  obtain ⟨f, fd, G, b, m⟩ := D.ex
  have e : f = fa := by rw [hfa] at m; cases m; rfl
  subst e
  obtain ⟨oc, od, kV, doc, pm, an, cdv, ct, osl, rfl, lk, hcd⟩ := G.ex
  refine ⟨_, fun s v => hb kV doc pm an cdv ct s v, fun base _ _ => ?_⟩
  obtain ⟨f', fd', _, _, ⟨m', oc', od', osl', lk'⟩, ok⟩ := (F base).ex
  have e : f' = f := by rw [hfa] at m'; cases m'; rfl
  subst e
  rw [lk] at lk'
  cases lk'
  exact ok
end
section
variable {X : Cx} {k j : Nat} {x : Str} {ps : List Str} {sp : Sp} {p pos : Pos} {e : Expr} {es : List Expr} {t : TA}
theorem pe_gl {v : V} {pos : Pos} (h : ∃ u, X.mg x = some u ∧ RelV v u) (hg : Gl X x := by rfl) (hd : (x == ("__debug__" : Str)) = false := by decide) : PE X (.Name x pos) (tC v) := by
  obtain ⟨u, m, r⟩ := h
  exact pe_glob hg m r hd
theorem pe_blt {v : V} {u : Value} {pos : Pos} (hm : X.mg x = none) (hv : bootBuiltins x = some u) (r : RelV v u) (hg : Gl X x := by rfl) (hn : x ≠ "__name__" := by decide) (hd : (x == ("__debug__" : Str)) = false := by decide) : PE X (.Name x pos) (tC v) :=
  pe_bltn hg hm hv r hn hd

theorem lcs {N : List Str} {sc scope : Scope} (e1 : X.N = N) (e2 : X.env.scope = sc) (c : X.calm = true)
    (h : x ∉ N ∧ N.Nodup ∧ scope.kind = .function ∧ (∀ y ∈ scope.names, y.2 ≠ .cell) ∧ (∀ y ∈ scope.names, y.2 = .local → scope.names.lookup y.1 = some .local) ∧ scope.names.lookup x = some .local ∧
      (∀ y ∈ scope.names, y.2 = .free → sc.names.lookup y.1 = some .cell) ∧ (∀ y ∈ N, scope.names.lookup y ≠ some .local)) : LcScope X x scope := by
  subst e1 e2
  obtain ⟨h1, h2, h3, h4, h5, h6, h7, h8⟩ := h
  exact ⟨h1, h2, h3, h4, h5, h6, h7, h8, c⟩

theorem call_isinst : CallR X (.builtin "isinstance") (fun xs H Q => ∃ x n t b, xs = [x, .ty n] ∧ TyOf X.K H x t ∧ PySem.W.kitOne X.K t (.type n) = some b ∧ Q (.bl b) H) := by
  intro pins s σ H xs us Q I r h
  obtain ⟨x, n, t, b, rfl, ty, e, q⟩ := h
  obtain ⟨u, w', rfl, rx, ry⟩ := vals2 r
  cases ry
  exact isinst_ok I rx ty e fun tk => ⟨.bl b, H, I.tok _, rfl, q⟩
section
variable {K : PySem.W.Frag} {o : Expr} {to : TE} {name : Str} {apos cpos : Pos} {T id : String} {r : V → List V → Hp → VK → Prop}
theorem pe_bmK (hK : X.K = K) (pa : PlainAttrs T) (slot : Slot T name id) (hty : typeOf (.builtin id) = pure (.type "method_descriptor")) (hm : MtR X id r) (ho : PE X o to) (ha : PA X (e :: es) t)
    (hbase : attributeBase o name X.env (eval o X.env) = eval o X.env := by rfl)
    (hfew : ((backTo cpos (starEach (e :: es) X.env)).all (fun x => !x.1) && (backToKw cpos (keywordEach [] X.env)).all (fun x => x.1.isSome)
      && decide ((e :: es).length + ([] : List Keyword).length + (if ([] : List Keyword).isEmpty then 0 else 1) < 30)) = true := by rfl)
    (hline : (apos.endLine == cpos.line) = true := by rfl) (hs : starEach (e :: es) X.env = (false, eval e X.env) :: starEach es X.env := by rfl) (hplain : (backTo cpos (starEach es X.env)).any (·.1) = false := by rfl) :
    PE X (.Call (.Attribute o name apos) (e :: es) [] cpos) (tBM K T r to t) := by
  subst hK
  exact pe_bm pa slot hty hm ho ha hbase hfew hline hs hplain
theorem ix_listK (hK : X.K = K) : IxR X (rIxL K) := by subst hK; exact ix_list
theorem ix_tupK (hK : X.K = K) : IxR X (rIxT K) := by subst hK; exact ix_tup
noncomputable def rLenL (K : PySem.W.Frag) : List V → Hp → VK → Prop := fun xs H Q => ∃ p ys, xs = [.ref p] ∧ (SqL K H p ys ∨ SqT K H p ys) ∧ Q (.int ys.length) H
theorem call_lenLK (hK : X.K = K) : CallR X (.builtin "len") (rLenL K) := by subst hK; exact call_len_seq
theorem sl_listK (hK : X.K = K) : SlR X (rSlL K) := by subst hK; exact sl_list
end
end
end L2

set_option Elab.async false
set_option linter.all false
set_option maxRecDepth 100000
set_option maxHeartbeats 1000000
namespace L2
open PySem PySem.Spec PyProof.Rows
theorem bb_len : bootBuiltins "len" = some (.builtin "len") := by decide +kernel
theorem bb_max : bootBuiltins "max" = some (.builtin "max") := by decide +kernel
theorem bb_min : bootBuiltins "min" = some (.builtin "min") := by decide +kernel
theorem bb_str : bootBuiltins "str" = some (.type "str") := by decide +kernel
theorem bb_int : bootBuiltins "int" = some (.type "int") := by decide +kernel
theorem bb_bool : bootBuiltins "bool" = some (.type "bool") := by decide +kernel
theorem bb_isinstance : bootBuiltins "isinstance" = some (.builtin "isinstance") := by decide +kernel


noncomputable def sg : List Nat := [32, 33, 34, 35, 36, 38, 39, 40, 41, 42, 43, 44, 45, 46, 47, 48, 49, 50, 51, 52, 53, 54, 55, 56, 57, 58, 59, 60, 61, 62, 63, 64, 65, 66, 67, 68, 69, 70, 71, 72, 73, 74, 75, 76, 77, 78, 79, 80, 81, 82, 83, 84, 85, 86, 87, 88, 89, 90, 91, 92, 93, 94, 95, 96, 97, 98, 99, 100, 101, 102, 103, 104, 105, 106, 107, 108, 109, 110, 111, 112, 113, 114, 115, 116, 117, 118, 119, 120, 121, 122, 123, 124, 125, 126]
noncomputable def ix (c : Nat) : Nat := sg.idxOf c
theorem same_upd {H : Hp} {a : Addr} {o : HO} (h : H a = none) : Same H (upd H a o) := fun b u e => by rw [upd_ne (ne_of_none e h)]; exact e

end L2

set_option Elab.async false
set_option linter.all false
set_option maxRecDepth 100000
set_option maxHeartbeats 1000000
namespace L2
open PySem PySem.Spec PyProof.Rows

end L2

set_option Elab.async false
set_option linter.all false
set_option maxRecDepth 100000
set_option maxHeartbeats 1000000
namespace L2
open PySem PySem.Spec PyProof.Rows

theorem mulOk_l {i j : Int} (h : -(2 ^ 64) < i ∧ i < 2 ^ 64) : IntMulOk i j := CMul.ok (.inl h)
theorem mulOk_r {i j : Int} (h : -(2 ^ 64) < j ∧ j < 2 ^ 64) : IntMulOk i j := CMul.ok (.inr h)
end L2

set_option Elab.async false
set_option linter.all false
set_option maxRecDepth 100000
set_option maxHeartbeats 1000000
namespace L2
open PySem PySem.Spec PyProof.Rows


theorem foldl_app (x : Array Nat) : ∀ (n : Nat) (acc : Array Nat), ((List.replicate n x).foldl (· ++ ·) acc).toList = acc.toList ++ (List.replicate n x.toList).flatten
  | 0, acc => by simp
  | n + 1, acc => by
    rw [List.replicate_succ, List.foldl_cons, foldl_app x n, List.replicate_succ, List.flatten_cons]
    simp
theorem mul_S (l : List Nat) (n : Nat) : Txt.mul (S l) (n : Int) = S (List.replicate n l).flatten := by
  unfold Txt.mul
  by_cases h0 : (n : Int) < 1
  · have : n = 0 := by omega
    subst this
    rw [if_pos h0]
    rfl
  · rw [if_neg h0]
    split
    · rename_i h
      simp only [Bool.or_eq_true, beq_iff_eq] at h
      rcases h with h | h
      · have : n = 1 := by omega
        subst this
        simp
      · rw [S_len] at h
        have : l = [] := List.eq_nil_of_length_eq_zero h
        subst this
        have : (List.replicate n ([] : List Nat)).flatten = [] := by
          induction n with
          | zero => rfl
          | succ n ih => simp
        rw [this]
    · rw [← S_of ⟨_⟩]
      show S ((List.replicate (n : Int).toNat (S l).cps).foldl (· ++ ·) #[]).toList = _
      rw [foldl_app, Int.toNat_natCast]
      simp [S]
noncomputable def rMulS : R2 := fun x y H Q => ∃ (l : List Nat) (n : Int), x = .str (S l) ∧ y = .int n ∧ 0 ≤ n ∧ n ≤ 100000 ∧ l.length * n.toNat ≤ 16777216 ∧ Q (.str (S (List.replicate n.toNat l).flatten)) H
theorem op_mulS {X : Cx} : OpR X (binaryOp .Mult) rMulS := by
  intro pins s σ H x y v u Q I rx ry h
  obtain ⟨l, n, rfl, rfl, h0, h1, hz, q⟩ := h
  obtain ⟨t, rfl⟩ := rx
  obtain ⟨t', rfl⟩ := ry
  obtain ⟨m, rfl⟩ := Int.eq_ofNat_of_zero_le h0
  rw [Int.toNat_natCast] at hz q
  refine SB.mul ⟨?_, fun g1 _ => ?_, fun g1 _ => ?_⟩ fun t' k => ⟨.str (S (List.replicate m l).flatten), H, I.tok _, ⟨t', by rw [mul_S]⟩, q⟩
  · have e1 : decide ((m : Int) < -(2 ^ 63 : Int)) = false := decide_eq_false (by omega)
    have e2 : decide ((m : Int) ≥ 2 ^ 63) = false := decide_eq_false (by omega)
    rw [e1, e2]; rfl
  · have hm : 0 < (m : Int) := by omega
    have hl : l.length ≤ 16777216 := by
      have : l.length * 1 ≤ l.length * m := Nat.mul_le_mul_left _ (by omega)
      omega
    have := Int.le_ediv_of_mul_le (a := 16777216) (b := 2 ^ 63 - 1) hm (by omega)
    rw [S_len]
    omega
  · have e : (2 : Nat) ^ 24 = 16777216 := by decide
    unfold Builtin.Str.tooLong sizeLine
    rw [S_len, Int.toNat_natCast]
    exact decide_eq_false (by omega)


noncomputable def ws : List Nat := [97, 98, 99, 100, 101, 102, 103, 104, 105, 106, 107, 108, 109, 110, 111, 112, 113, 114, 115, 116, 117, 118, 119, 120, 121, 122, 48, 49, 50, 51, 52, 53, 54, 55, 56, 57, 45]
end L2

set_option Elab.async false
set_option linter.all false
set_option maxRecDepth 100000
set_option maxHeartbeats 1000000
namespace L2
open PySem PySem.Spec PyProof.Rows


noncomputable def Fly (h : Heap) (e T : Addr) (cls : Value) (d : Option Addr) (fl : Value) : Prop :=
  ∃ sl vs oT ts, h.get? e = some ⟨cls, d, .fields vs, sl⟩ ∧ vs[1]? = some (.ref T) ∧ T ≠ e ∧ h.get? T = some oT ∧ oT.data = .fields ts ∧ ts[3]? = some fl

structure Kp (ch fs : List Addr) (h h' : Heap) : Prop where
  keep : ∀ b o, b ∉ ch → b ∉ fs → h.get? b = some o → h'.get? b = some o
  slot : ∀ b o, b ∉ ch → h.get? b = some o → ∃ sl, h'.get? b = some { o with slots := sl }
section
variable {M : Model} {A : Around} {E : Value → Shared → Prop} {s : Shared}

theorem entry_new {base : Heap} {env : Env} {outer : List Env} {L e : Addr} {cls head : Value} {d : Option Addr} {vs : Array Value} {sl : Array (Option Value)} {nx : Bool} {Q : Unit → Shared → Prop}
    (hfr : A.frames = some (env :: outer)) (hl : s.heap.FunFrames base (env :: outer)) (hf : env.frame = some L) (he : s.heap.get? e = some ⟨cls, d, .fields vs, sl⟩) (hv : 1 < vs.size)
    (k : ∀ h' T, s.heap.objs.size ≤ T → Fly h' e T cls d (rawInt L) → Kp [e] (frs (env :: outer)) s.heap h' → Q () { s with heap := h' }) :
    wpAny M A (do let a ← frameOf env; let pl ← entryPlaceOf L nx; let b ← EntryCells.newEntry head a .none (rawInt L) .none pl; setField (.ref e) 1 b) Q E s := by
  have ne : e ∉ (env :: outer).filterMap (·.frame) := fun hm => by
    obtain ⟨_, o, ho, hn⟩ := hl.mem hm
    rw [he] at ho
    cases ho
    exact hn vs rfl
  refine wpAny_bind (wpAny_frameOf_fun hfr hl hf fun g hg => wpAny_bind (wpAny_entryPlaceOf fun pl hpl => ?_))
  have e1 : g.get? e = some ⟨cls, d, .fields vs, sl⟩ := (hg.2.1 e ne).trans he
  unfold EntryCells.newEntry newFields
  refine wpAny_bind (wpAny_newObj_type ?_ (hpl.sizeOk5 _ _ _ _ _))
  generalize hT : ({ cls := .type "traceback", dict := none, data := .fields ([head, .ref L, .none, rawInt L, .none] ++ (if pl.isEmpty then List.replicate 6 Value.none else pl)).toArray } : Obj) = tb
  have e2 := Heap.get?_push_of_some (h := g) tb e1
  have tn : g.objs.size ≠ e := Nat.ne_of_gt (Heap.lt_size e1)
  refine wpAny_setField e2 rfl hv (k _ g.objs.size ?_ ?_ ?_)
  · rw [hg.1]; exact Nat.le_refl _
  · refine ⟨sl, _, tb, ([head, .ref L, .none, rawInt L, .none] ++ (if pl.isEmpty then List.replicate 6 Value.none else pl)).toArray, Heap.get?_update_self _ e2 (by rfl), by simp [hv], tn, ?_, by rw [← hT], by simp⟩
    rw [Heap.get?_update_other _ _ (Ne.symm tn)]
    exact Heap.get?_push_size g (by rw [← hT]; rfl)
  · refine ⟨fun b o hb hfs q => ?_, fun b o hb q => ?_⟩
    · have hbe : b ≠ e := fun z => hb (by simp [z])
      rw [Heap.get?_update_other _ _ (Ne.symm hbe)]
      exact Heap.get?_push_of_some _ ((hg.2.1 b hfs).trans q)
    · have hbe : b ≠ e := fun z => hb (by simp [z])
      obtain ⟨sl', q'⟩ := hg.2.2 b o q
      refine ⟨sl', ?_⟩
      rw [Heap.get?_update_other _ _ (Ne.symm hbe)]
      exact Heap.get?_push_of_some _ q'

theorem note_first {base : Heap} {env : Env} {outer : List Env} {L e : Addr} {cls : Value} {d : Option Addr} {vs : Array Value} {sl : Array (Option Value)} {Q : Unit → Shared → Prop}
    (hfr : A.frames = some (env :: outer)) (hl : s.heap.FunFrames base (env :: outer)) (hf : env.frame = some L) (he : s.heap.get? e = some ⟨cls, d, .fields vs, sl⟩) (hv : vs[1]? = some .none)
    (k : ∀ h' T, s.heap.objs.size ≤ T → Fly h' e T cls d (rawInt L) → Kp [e] (frs (env :: outer)) s.heap h' → Q () { s with heap := h' }) : wpAny M A (noteFrame (.ref e) env) Q E s := by
  unfold noteFrame
  simp only [hf]
  refine wpAny_bind (wpAny_field he rfl hv ?_)
  rw [if_neg (by decide)]
  exact entry_new hfr hl hf he (Array.getElem?_eq_some_iff.mp hv).1 k

theorem note_next {base : Heap} {env : Env} {outer : List Env} {L e T : Addr} {cls : Value} {d : Option Addr} {Q : Unit → Shared → Prop}
    (hfr : A.frames = some (env :: outer)) (hl : s.heap.FunFrames base (env :: outer)) (hf : env.frame = some L) (F : Fly s.heap e T cls d .none)
    (k : ∀ h' T', s.heap.objs.size ≤ T' → Fly h' e T' cls d (rawInt L) → Kp [T, e] (frs (env :: outer)) s.heap h' → Q () { s with heap := h' }) : wpAny M A (noteFrame (.ref e) env) Q E s := by
  obtain ⟨sl, vs, oT, ts, he, hv, tn, hT, hd, h3⟩ := F
  unfold noteFrame
  simp only [hf]
  refine wpAny_bind (wpAny_field he rfl hv ?_)
  rw [if_pos (show (Value.ref T != Value.none) = true by simp)]
  refine wpAny_bind (wpAny_field hT hd h3 ?_)
  rw [if_neg (show ¬ (Value.none == rawInt L) = true by simp [rawInt])]
  refine wpAny_bind (wpAny_setField hT hd (Array.getElem?_eq_some_iff.mp h3).1 ?_)
  have oth : ∀ b, b ≠ T → (s.heap.update T (Obj.mapFields (·.setIfInBounds 3 Value.none))).get? b = s.heap.get? b := fun b hb => Heap.get?_update_other _ _ (Ne.symm hb)
  have nT : ∀ b o, s.heap.get? b = some o → (∀ ws, o.data ≠ .fields ws) → b ≠ T := fun b o q hn z => by
    rw [z, hT] at q
    cases q
    exact hn ts hd
  have hsz : (s.heap.update T (Obj.mapFields (·.setIfInBounds 3 Value.none))).objs.size = s.heap.objs.size := (Heap.SameBut.update s.heap T _).1
  refine entry_new (base := base) hfr (hl.of_keeps fun b o q hn => ⟨o, (oth b (nT b o q hn)).trans q, rfl⟩) hf ((oth e (Ne.symm tn)).trans he) (Array.getElem?_eq_some_iff.mp hv).1 fun h' T' g1 g2 g3 => ?_
  refine k h' T' (by rw [← hsz]; exact g1) g2 ⟨fun b o hb hfs q => ?_, fun b o hb q => ?_⟩
  · exact g3.keep b o (fun z => hb (List.mem_cons_of_mem _ z)) hfs ((oth b fun z => hb (by simp [z])).trans q)
  · exact g3.slot b o (fun z => hb (List.mem_cons_of_mem _ z)) ((oth b fun z => hb (by simp [z])).trans q)

theorem flight_off {e T : Addr} {cls fl : Value} {d : Option Addr} {Q : Unit → Shared → Prop} (F : Fly s.heap e T cls d fl) (k : ∀ h', Fly h' e T cls d .none → Kp [T] [] s.heap h' → h'.objs.size = s.heap.objs.size → Q () { s with heap := h' }) : wpAny M A (setFlight (.ref e) none) Q E s := by
  obtain ⟨sl, vs, oT, ts, he, hv, tn, hT, hd, h3⟩ := F
  have h3' := (Array.getElem?_eq_some_iff.mp h3).1
  unfold setFlight
  refine wpAny_bind (wpAny_field he rfl hv ?_)
  rw [if_pos (show (Value.ref T != Value.none) = true by simp)]
  have oth : ∀ b, b ≠ T → (s.heap.update T (Obj.mapFields (·.setIfInBounds 3 Value.none))).get? b = s.heap.get? b := fun b hb => Heap.get?_update_other _ _ (Ne.symm hb)
  refine wpAny_setField hT hd h3' (k _ ⟨sl, vs, _, _, (oth e (Ne.symm tn)).trans he, hv, tn, Heap.get?_update_self _ hT (Obj.isFreed_of_fields (Obj.data_mapFields hd _)), Obj.data_mapFields hd _, by simp [h3']⟩ ?_ (Heap.SameBut.update s.heap T _).1)
  exact ⟨fun b o hb _ q => (oth b fun z => hb (by simp [z])).trans q, fun b o hb q => ⟨o.slots, (oth b fun z => hb (by simp [z])).trans q⟩⟩

theorem leave_first {base : Heap} {env : Env} {outer : List Env} {L e : Addr} {cls : Value} {d : Option Addr} {vs : Array Value} {sl : Array (Option Value)} {Q : Unit → Shared → Prop}
    (hfr : A.frames = some (env :: outer)) (hl : s.heap.FunFrames base (env :: outer)) (hf : env.frame = some L) (he : s.heap.get? e = some ⟨cls, d, .fields vs, sl⟩) (hv : vs[1]? = some .none)
    (k : ∀ h' T, s.heap.objs.size ≤ T → Fly h' e T cls d .none → Kp [e] (frs (env :: outer)) s.heap h' → Q () { s with heap := h' }) : wpAny M A (leaving env (.ref e)) Q E s := by
  unfold leaving
  refine wpAny_bind (note_first hfr hl hf he hv fun h1 T g1 g2 g3 => flight_off (s := { s with heap := h1 }) g2 fun h2 f1 f2 f3 => k h2 T g1 f1 ⟨fun b o hb hfs q => ?_, fun b o hb q => ?_⟩)
  all_goals
    have hbT : b ≠ T := fun z => absurd (Heap.lt_size q) (by rw [z]; exact Nat.not_lt.mpr g1)
  · exact f2.keep b o (by simpa using hbT) (by simp) (g3.keep b o hb hfs q)
  · obtain ⟨sl', q'⟩ := g3.slot b o hb q
    obtain ⟨sl2, q2⟩ := f2.slot b _ (by simpa using hbT) q'
    exact ⟨sl2, q2⟩

theorem leave_next {base : Heap} {env : Env} {outer : List Env} {L e T : Addr} {cls : Value} {d : Option Addr} {Q : Unit → Shared → Prop}
    (hfr : A.frames = some (env :: outer)) (hl : s.heap.FunFrames base (env :: outer)) (hf : env.frame = some L) (F : Fly s.heap e T cls d .none)
    (k : ∀ h' T', s.heap.objs.size ≤ T' → Fly h' e T' cls d .none → Kp [T, e] (frs (env :: outer)) s.heap h' → Q () { s with heap := h' }) : wpAny M A (leaving env (.ref e)) Q E s := by
  unfold leaving
  refine wpAny_bind (note_next hfr hl hf F fun h1 T' g1 g2 g3 => flight_off (s := { s with heap := h1 }) g2 fun h2 f1 f2 f3 => k h2 T' g1 f1 ⟨fun b o hb hfs q => ?_, fun b o hb q => ?_⟩)
  all_goals
    have hbT : b ≠ T' := fun z => absurd (Heap.lt_size q) (by rw [z]; exact Nat.not_lt.mpr g1)
  · exact f2.keep b o (by simpa using hbT) (by simp) (g3.keep b o hb hfs q)
  · obtain ⟨sl', q'⟩ := g3.slot b o hb q
    obtain ⟨sl2, q2⟩ := f2.slot b _ (by simpa using hbT) q'
    exact ⟨sl2, q2⟩
end
end L2

set_option Elab.async false
set_option linter.all false
set_option maxRecDepth 100000
set_option maxHeartbeats 1000000
namespace L2
open PySem PySem.Spec PySem.Calls PyProof.Rows PySem.W


noncomputable abbrev vBM : List Value := [.type "ValueError", .type "Exception", .type "BaseException", .type "object"]
noncomputable def xShape (K : Frag) (C : Addr) : Bool := match K.lookup C with
  | none => false
  | some o => o.cls == .type "type" && match o.data with
    | .cls c => (match c.mro, o.slots.toList with | .ref B :: m, [_, _, _, _, some (.builtin n), _] => B == C && n == "ValueError.__new__" && !c.hasDel && tailIn K vBM m && nsOkIn K c.ns | _, _ => false)
    | _ => false
section
variable {prog : Program} {w : World} {A : Around} {E : Value → Shared → Prop} {K : Frag} {C : Addr}
end
end L2

set_option Elab.async false
set_option linter.all false
set_option maxRecDepth 100000
set_option maxHeartbeats 1000000
namespace L2
open PySem PySem.Spec PySem.Calls PyProof.Rows PySem.W Builtin Builtin.ObjectAttr
section
variable {prog : Program} {w : World} {A : Around} {E : Value → Shared → Prop} {K : Frag} {C x : Addr} {s : Shared}

end
end L2

set_option Elab.async false
set_option linter.all false
set_option maxRecDepth 100000
set_option maxHeartbeats 1000000
namespace L2
open PySem PySem.Spec PySem.Calls PyProof.Rows PySem.W Builtin Builtin.ObjectAttr

structure XCl (K : Frag) (C : Addr) : Prop where
  sh : xShape K C = true
  hd : hasDictIn K C = true
  ga : findIn K (.ref C) "__getattribute__" = some (some (.builtin "BaseException.__getattribute__"))
  gt : findIn K (.ref C) "__getattr__" = some none
  sa : findIn K (.ref C) "__setattr__" = some (some (.builtin "object.__setattr__"))
  ca : findIn K (.ref C) "__class__" = some (some (.builtin "object.__class__"))
  cg : specialIn K (.builtin "object.__class__") "__get__" = some (some (.builtin "getset_descriptor.__get__"))
  ct : takesIn K (.builtin "object.__class__") = some true
section
variable {prog : Program} {w : World} {A : Around} {E : Value → Shared → Prop} {K : Frag} {C x : Addr} {s : Shared} {ox : Obj} {od : Option Obj} {name : Str} {tk : Tok} {fill expr : Bool}
end
end L2

set_option Elab.async false
set_option linter.all false
set_option maxRecDepth 100000
set_option maxHeartbeats 1000000
namespace L2
open PySem PySem.Spec PyProof.Rows



noncomputable abbrev XS := Value → Option Addr → St → Hp → Prop

noncomputable def Nw (h : Heap) (e : Addr) (c : Value) (d : Option Addr) : Prop := ∃ sl vs, h.get? e = some ⟨c, d, .fields vs, sl⟩ ∧ vs[1]? = some .none

noncomputable def Fl (X : Cx) (E : XS) (e : Value) (s' : Shared) : Prop := ∃ (ea : Addr) (c : Value) (d : Option Addr) (H' : Hp) (pins : List (Addr × Obj)) (σ : St), e = .ref ea ∧ Inv X pins σ H' s' ∧ X.s₀.heap.objs.size ≤ ea ∧ H' ea = none ∧ (∀ q ∈ X.pn, q.1 ≠ ea) ∧
  (Nw s'.heap ea c d ∨ ∃ T, Fly s'.heap ea T c d .none ∧ X.s₀.heap.objs.size ≤ T ∧ H' T = none ∧ ∀ q ∈ X.pn, q.1 ≠ T) ∧ E c d σ H'
noncomputable def Thr (X : Cx) (E : XS) : Prop := ∀ e s', Fl X E e s' → X.xe e s'

noncomputable def CXE (P : Program) (w : World) : CXT := fun outer H s E e s' => ∃ (ea T : Addr) (c : Value) (d : Option Addr) (H' : Hp), e = .ref ea ∧ s.heap.objs.size ≤ ea ∧ s.heap.objs.size ≤ T ∧ Fly s'.heap ea T c d .none ∧ H' ea = none ∧ H' T = none ∧
  s'.os = s.os ∧ AllBare s'.gens ∧ Un (frs outer) [] H H' s.heap s'.heap ∧ HOk P w H' s'.heap ∧ E c d H'

section
variable {X : Cx} {pins : List (Addr × Obj)} {σ : St} {H : Hp} {s s' : Shared}
theorem Un.kp {fs fs' ch : List Addr} {H H' : Hp} {h h1 h2 : Heap} (u : Un fs [] H H' h h1) (k : Kp ch fs' h1 h2) (hc : ∀ b ∈ ch, h.objs.size ≤ b) (hf : ∀ b ∈ fs', b ∈ fs ∨ h.objs.size ≤ b) : Un fs [] H H' h h2 := by
  have nc : ∀ b o, h.get? b = some o → b ∉ ch := fun b o q z => absurd (Nat.lt_of_lt_of_le (Heap.lt_size q) (hc b z)) (Nat.lt_irrefl _)
  refine ⟨fun b o q n hb _ => ?_, fun b o q n hb _ => ?_, u.free, fun b o q _ => ?_, u.tups, u.frzs, u.tbls⟩
  · refine k.keep b o (nc b o q) (fun z => ?_) (u.keep b o q n hb (by simp))
    rcases hf b z with z | z
    · exact hb z
    · exact absurd (Nat.lt_of_lt_of_le (Heap.lt_size q) z) (Nat.lt_irrefl _)
  · obtain ⟨sl, e1⟩ := u.slot b o q n hb (by simp)
    obtain ⟨sl', e2⟩ := k.slot b _ (nc b o q) e1
    exact ⟨sl', e2⟩
  · obtain ⟨o', e1⟩ := u.there b o q (by simp)
    obtain ⟨sl', e2⟩ := k.slot b _ (nc b o q) e1
    exact ⟨_, e2⟩
theorem HOk.kp {P : Program} {w : World} {fs ch : List Addr} {h1 h2 : Heap} (x : HOk P w H h1) (k : Kp ch fs h1 h2) (hc : ∀ b ∈ ch, H b = none) (hf : ∀ b ∈ fs, H b = none) : HOk P w H h2 := fun a o q =>
  (x a o q).stay (fun b u hb z => by
    have t : ∃ v, H b = some v := by
      rcases hb with rfl | hb
      · exact ⟨o, q⟩
      · exact ⟨_, hb⟩
    obtain ⟨v, t⟩ := t
    exact k.keep b u (fun y => by rw [hc b y] at t; cases t) (fun y => by rw [hf b y] at t; cases t) z) (fun _ z => z) fun _ _ z => z
theorem thr_leave {P : Program} {w : World} {K : PySem.W.Frag} {mg : Str → Option Value} {base : Heap} {N : List Str} {qual : Str} {scope : Scope} {f : Addr} {cd : Value} {A : Around} {outer : List Env} {s : Shared} {H : Hp} {E : XK} :
    Thr (cxOf (CXE P w) P w K mg base N qual scope f cd A outer s H E) (fun c d _ H' => E c d H') := by
  intro e s' hF
  obtain ⟨ea, c, d, H', pins, σ, rfl, I, hea, hHe, _, hv, hE⟩ := hF
  have hst : (cxOf (CXE P w) P w K mg base N qual scope f cd A outer s H E).stack = (cxOf (CXE P w) P w K mg base N qual scope f cd A outer s H E).env :: outer := rfl
  have hfr := I.ok.frames
  have hl := I.stack
  have hsub := I.stkSub
  have hfree := I.stkFree
  rw [hst] at hfr hl hsub hfree
  have fin : ∀ (h' : Heap) (T : Addr) (ch : List Addr), s'.heap.objs.size ≤ T → Fly h' ea T c d .none → Kp ch (frs ((cxOf (CXE P w) P w K mg base N qual scope f cd A outer s H E).env :: outer)) s'.heap h' → (∀ b ∈ ch, s.heap.objs.size ≤ b ∧ H' b = none) →
      CXE P w outer H s E (.ref ea) { s' with heap := h' } := fun h' T ch g1 g2 g3 g4 => by
    refine ⟨ea, T, c, d, H', rfl, hea, Nat.le_trans I.sz g1, g2, hHe, I.hok.fresh g1, I.os, I.bare, ?_, I.hok.kp g3 (fun b hb => (g4 b hb).2) hfree, hE⟩
    refine Un.kp (fs := frs outer) I.base g3 (fun b hb => (g4 b hb).1) fun b hb => ?_
    rcases List.mem_cons.mp (hsub b hb) with z | z
    · rw [z]; exact .inr I.ok.above
    · exact .inl z
  rcases hv with ⟨sl, vs, he, h1⟩ | ⟨T0, hF, hT, hHT, _⟩
  · exact leave_first hfr hl rfl he h1 fun h' T g1 g2 g3 => fin h' T [ea] g1 g2 g3 fun b hb => by
      obtain rfl : b = ea := by simpa using hb
      exact ⟨hea, hHe⟩
  · exact leave_next hfr hl rfl hF fun h' T g1 g2 g3 => fin h' T [T0, ea] g1 g2 g3 fun b hb => by
      rcases List.mem_cons.mp hb with z | z
      · subst z; exact ⟨hT, hHT⟩
      · obtain rfl : b = ea := by simpa using z
        exact ⟨hea, hHe⟩

theorem fl_call {E : XS} {e : Value} (I : Inv X pins σ H s) (h : CXE X.prog X.w X.stack H s (fun c d H' => E c d σ H') e s') : Fl X E e s' := by
  obtain ⟨ea, T, c, d, H', rfl, h1, h2, hF, n1, n2, ho, hg, hu, hk, hE⟩ := h
  have np : ∀ a, s.heap.objs.size ≤ a → ∀ q ∈ X.pn, q.1 ≠ a := fun a z q hq y => by
    have := (I.pin q (List.mem_append_left _ hq)).1
    exact absurd (Nat.lt_of_lt_of_le (Heap.lt_size this) (y ▸ z)) (Nat.lt_irrefl _)
  exact ⟨ea, c, d, H', pins, σ, rfl, I.call' ho hu hk hg (fun b z => absurd z (by simp)), Nat.le_trans I.sz h1, n1, np ea h1, .inr ⟨T, hF, Nat.le_trans I.sz h2, n2, np T h2⟩, hE⟩
end


structure OkX (P : Program) (w : World) (K : PySem.W.Frag) (mg : Str → Option Value) (base : Heap) (k : Nat) (x : Str) (ps : List Str) (sp : Sp) : Prop where
  ex : ∃ (f : Addr) (fd : FuncData), PySem.W.keepIn K (.ref f) = true ∧ Binds K fd ps [] ∧ mg x = some (.ref f) ∧ FnOk P w K mg base (CXE P w) k f fd ps sp
section
variable {P : Program} {w : World} {K : PySem.W.Frag} {mg : Str → Option Value} {base : Heap}
theorem Df.okX {x : Str} {st : Stmt} {ps N : List Str} {k : Nat} {sp : Sp} (D : Df K mg x st ps) (Sc : FnScope N ps (defScope st)) (len : ∀ vs H Q E, sp vs H Q E → vs.length = ps.length)
    (hbody : ∀ (f : Addr) (cdv : Value) (A : Around) (outer : List Env) (s : Shared) (H : Hp) (vs : List V) (Q : VK) (E : XK), Room k (A.deeper (envOfC x (defScope st) s.heap.objs.size f cdv)) → sp vs H Q E →
      ∃ t, PSs (cxOf (CXE P w) P w K mg base N x (defScope st) f cdv A outer s H E) (defBody st) t ∧ t { nx := fun _ H' => Q .non H', rt := Q } (start N vs) H) : OkX P w K mg base (k + 1) x ps sp := by
  obtain ⟨f, fd, F, b, m⟩ := D.ex
  refine ⟨f, fd, F.kp, b, m, ?_⟩
  obtain ⟨oc, od, kV, doc, pm, an, cdv, ct, osl, rfl, lk, hcd⟩ := F.ex
  exact fn_of lk hcd Sc len fun A outer s H vs Q E hr h => hbody f cdv A outer s H vs Q E hr h
end
section
variable {X : Cx} {k j : Nat} {x : Str} {ps : List Str} {sp : Sp} {p pos : Pos} {e : Expr} {es : List Expr} {t : TA} {E : XS}

noncomputable def tCallX (sp : Sp) (E : XS) (t : TA) : TE := fun σ H Q => t σ H fun vs H1 => sp vs H1 Q fun c d H' => E c d σ H'
theorem run_fnX {f : Addr} {fd : FuncData} {pins : List (Addr × Obj)} {σ : St} {H : Hp} {s : Shared} {Q : VK} {us : List Value} {vs : List V} (F : FnOk X.prog X.w X.K X.mg X.base (CXE X.prog X.w) k f fd ps sp) (hr : Room k X.A) (hb : Binds X.K fd ps []) (hx : Thr X E)
    (I : Inv X pins σ H s) (r : Vals vs us) (h : sp vs H Q fun c d H' => E c d σ H') : wpAny (model X.prog X.w) X.A (call (.ref f) us) (EP X pins σ Q) X.xe s := by
  have hl : (us ++ []).length = ps.length := by rw [List.append_nil, ← r.length]; exact F.len _ _ _ _ h
  have hb' := hb s us I.kIn hl
  rw [List.append_nil] at hb'
  refine wpAny_call (codeAny_mono (F.run X.A X.stack s H ⟨us, []⟩ us vs Q (fun c d H' => E c d σ H') hr I.env0 hb' r h) fun r s' hq => ?_)
  rcases r with e | (u | _ | _ | _)
  · exact hx e s' (fl_call I hq)
  all_goals first | exact I.after hq | exact False.elim hq
theorem pe_callX (hx : Thr X E) (F : OkX X.prog X.w X.K X.mg X.base k x ps sp) (hr : Room j X.A) (hk : k ≤ j) (ha : PA X (e :: es) t) (hg : Gl X x := by rfl) (hdb : (x == ("__debug__" : Str)) = false := by decide)
    (he : starEach (e :: es) X.env = (false, eval e X.env) :: starEach es X.env := by rfl) (hpl : (backTo pos (starEach es X.env)).any (·.1) = false := by rfl) : PE X (.Call (.Name x p) (e :: es) [] pos) (tCallX sp E t) := by
  intro pins s σ H Q I h
  obtain ⟨f, fd, kp, b, m, G⟩ := F.ex
  refine wpAny_Call_Name_kw (ld_glob I hg m ?_ hdb)
  refine PySem.W.callWith_K (h₀ := X.base) I.ok.mod.kin kp (thn (ha pos pins s σ H _ I h) fun us s1 ⟨vs, H1, I1, r, q⟩ => ⟨I1.kIn, ?_⟩) he hpl
  exact run_fnX G (hr.mono hk) b hx I1 r q
end
end L2

set_option Elab.async false
set_option linter.all false
set_option maxRecDepth 100000
set_option maxHeartbeats 1000000
namespace L2
open PySem PySem.Spec PyProof.Rows PySem.W

section
variable {P : Program} {w : World} {H : Hp} {h : Heap} {C d a : Addr}
end
section
variable {X : Cx} {C B : Addr} {b self name : Str} {e a1 : Expr} {es : List Expr} {te : TE} {t : TA} {np p1 apos cpos pos pos' : Pos} {i : Nat}

end
end L2

set_option Elab.async false
set_option linter.all false
set_option maxRecDepth 100000
set_option maxHeartbeats 1000000
namespace L2
open PySem PySem.Spec PyProof.Rows PySem.W


section
variable {X : Cx} {E : XS} {C : Addr} {x f : Str} {pay : V → Prop} {e : Expr} {es : List Expr} {t : TA} {np cpos pos : Pos} {j : Nat}
end
end L2

set_option Elab.async false
set_option linter.all false
set_option maxRecDepth 100000
set_option maxHeartbeats 1000000
namespace L2
open PySem PySem.Spec PyProof.Rows PySem.W
section
variable {X : Cx} {pins : List (Addr × Obj)} {σ : St} {H : Hp} {s : Shared}

noncomputable def Ours (X : Cx) (b : Addr) : Prop := X.s₀.heap.objs.size ≤ b ∧ b ≠ X.env.locals ∧ (∀ x c, X.env.cells.lookup x = some c → c ≠ b) ∧ ∀ p ∈ X.pn, p.1 ≠ b
theorem Inv.kp {h' : Heap} {H' : Hp} {ch : List Addr} (I : Inv X [] σ H s) (k : Kp ch (frs X.stack) s.heap h') (hc : ∀ b ∈ ch, Ours X b ∧ H b = none) (hH : ∀ b, b ∉ ch → H' b = H b) (hok : HOk X.prog X.w H' h') : Inv X [] σ H' { s with heap := h' } := by
  have nt : ∀ b o, H b = some o → b ∉ ch := fun b o z y => by rw [(hc b y).2] at z; cases z
  refine I.step (h' := h') (g' := s.gens) (t' := s.toks) (d' := s.drawn) (ch := ch) (fun b hb => ?_) (fun b o n1 n2 n3 z _ => ?_) (fun b o n1 n2 n3 z _ => k.slot b o n3 z) (fun b o n3 z n => by rw [hH b n3]; exact n) (fun b o n3 z => let ⟨sl, q⟩ := k.slot b o n3 z; ⟨_, q⟩)
    (fun b xs z => by rw [hH b (nt b _ z)]; exact z) (fun b o u z => by rw [hH b (nt b _ z)]; exact z) (fun b ps z => ⟨#[], by rw [hH b (nt b _ z), Array.append_empty]; exact z⟩) (fun m hm => ?_) hok I.bare
  · obtain ⟨a1, a2, a3, a4⟩ := (hc b hb).1
    exact ⟨.inr a1, a2, a3, fun p hp => (List.mem_append.mp hp).elim (a4 p) fun z => absurd z (by simp)⟩
  · exact k.keep b o n3 (fun y => (List.mem_cons.mp (I.stkSub b y)).elim n1 n2) z
  · obtain ⟨o, es, ep, ho, r⟩ := hm
    obtain ⟨sl, q⟩ := k.slot _ o (fun z => (hc _ z).1.2.1 rfl) ho
    exact ⟨_, es, ep, q, r⟩

end


noncomputable def Caught (H : Hp) (a C : Addr) (d : Option Addr) : Prop := ∃ o, H a = some (.frz o (.own a)) ∧ o.cls = .ref C ∧ o.dict = d ∧ ∃ vs, o.data = .fields vs

section
variable {X : Cx} {Dc : Addr} {x n : Str} {i : Nat} {tb : XS → TS} {th : TS} {body suite : List Stmt} {b₀ : Stmt} {np hpos pos : Pos}
end
end L2

set_option Elab.async false
set_option linter.all false
set_option maxRecDepth 100000
set_option maxHeartbeats 1000000
namespace L2
open PySem PySem.Spec PyProof.Rows PySem.W

structure Got (K : Frag) (H : Hp) (a C : Addr) (fs : List (Str × V)) : Prop where
  cl : XCl K C
  ex : ∃ d, Caught H a C (some d) ∧ H d = some (.xd fs)
section
variable {X : Cx} {pins : List (Addr × Obj)} {σ : St} {H : Hp} {s : Shared} {a C : Addr} {fs : List (Str × V)}
end

section
variable {X : Cx}
end
end L2

set_option Elab.async false
set_option linter.all false
set_option maxRecDepth 100000
set_option maxHeartbeats 1000000
namespace L2
open PySem PySem.Spec PyProof.Rows PySem.W
section
variable {X : Cx} {k j : Nat} {x : Str} {ps : List Str} {sp : Sp} {p pos : Pos} {e : Expr} {es : List Expr} {t : TA} {a : Addr}
theorem passN {P : Program} {w : World} : Passes (CXE P w) X E0 := fun _ _ _ _ _ _ _ h => by
  obtain ⟨_, _, _, _, _, _, _, _, _, _, _, _, _, _, _, z⟩ := h
  exact z.elim

theorem pe_callN (F : OkX X.prog X.w X.K X.mg X.base k x ps sp) (hr : Room j X.A) (hk : k ≤ j) (ha : PA X (e :: es) t) (hg : Gl X x := by rfl) (hdb : (x == ("__debug__" : Str)) = false := by decide)
    (he : starEach (e :: es) X.env = (false, eval e X.env) :: starEach es X.env := by rfl) (hpl : (backTo pos (starEach es X.env)).any (·.1) = false := by rfl) : PE X (.Call (.Name x p) (e :: es) [] pos) (tCall sp [] E0 t) := by
  obtain ⟨f, fd, kp, b, m, G⟩ := F.ex
  exact pe_call G (hr.mono hk) hg m kp b .nil passN ha hdb he hpl

end
end L2

set_option Elab.async false
set_option linter.all false
set_option maxRecDepth 100000
set_option maxHeartbeats 1000000
namespace L2
open PySem PySem.Spec PySem.Calls PyProof.Rows PySem.W
section
variable {X : Cx}

end
end L2

set_option Elab.async false
set_option linter.all false
set_option maxRecDepth 100000
set_option maxHeartbeats 1000000
namespace L2
open PySem PySem.W

end L2

set_option Elab.async false
set_option linter.all false
set_option maxRecDepth 100000
set_option maxHeartbeats 1000000
namespace L2
open PySem PySem.Spec PySem.Calls PyProof.Rows PySem.W
section
variable {X : Cx} {pins : List (Addr × Obj)} {σ : St} {H : Hp} {s : Shared} {h' : Heap}

end

section
variable {X : Cx}
end
end L2

set_option Elab.async false
set_option linter.all false
set_option maxRecDepth 100000
set_option maxHeartbeats 1000000
namespace L2
open PySem PySem.Spec PySem.Calls PyProof.Rows PySem.W

section
variable {P : Program} {w : World} {K : PySem.W.Frag} {mg : Str → Option Value} {base : Heap}
end
section
variable {X : Cx} {k j : Nat} {x : Str} {ps : List Str} {sp : Sp} {p pos : Pos} {e : Expr} {es : List Expr} {t : TA}
end
end L2

set_option Elab.async false
set_option linter.all false
set_option maxRecDepth 100000
set_option maxHeartbeats 1000000
namespace L2
open PySem PySem.Spec PyProof.Rows


section
variable {X : Cx} {elt iter : Expr} {x x2 : Str} {px py pt pos : Pos} {kt : Nat} {ifs : List Expr} {scope : Scope} {wi : TI} {tt : TT} {te : TE}

end
end L2

set_option Elab.async false
set_option linter.all false
set_option maxRecDepth 100000
set_option maxHeartbeats 1000000
namespace L2
open PySem PySem.Spec PySem.Calls PyProof.Rows PySem.W

section
variable {X : Cx}
end

noncomputable def Pairs (H : Hp) (a : Addr) (ps : List (List Nat × List Nat)) : Prop := ∃ as : List Addr, H a = some (.lst (as.map V.ref)) ∧ as.length = ps.length ∧ ∀ (i : Nat) p, ps[i]? = some p → ∃ b, as[i]? = some b ∧ H b = some (.tup [.str (S p.1), .str (S p.2)])
end L2

set_option Elab.async false
set_option linter.all false
set_option maxRecDepth 100000
set_option maxHeartbeats 1000000
namespace L2
open PySem PySem.Spec PySem.Calls PyProof.Rows PySem.W
theorem bb_list : bootBuiltins "list" = some (.type "list") := by decide +kernel
section
variable {X : Cx}

noncomputable def rListS : List V → Hp → VK → Prop := fun xs H Q => ∃ l, xs = [.str (S l)] ∧ l.length ≤ 1000000 ∧ ∀ p, H p = none → Q (.ref p) (upd H p (.lst (l.map fun c => .str (S [c]))))
theorem vals_signs : ∀ (l : List Nat) (us : List Value), us.length = l.length → (∀ (j : Nat) v, us[j]? = some v → ∃ (c : Nat) (u : Tok), l[j]? = some c ∧ v = Value.str ⟨#[c]⟩ u) → Vals (l.map fun c => V.str (S [c])) us
  | [], us, h, _ => by
    have : us = [] := List.length_eq_zero_iff.mp h
    subst this
    exact .nil
  | c :: l, [], h, _ => by simp at h
  | c :: l, v :: us, h, hp => by
    refine .cons ?_ (vals_signs l us (by simpa using h) fun j w hj => ?_)
    · obtain ⟨d, u, e1, e2⟩ := hp 0 v rfl
      simp at e1
      subst e1
      exact ⟨u, e2⟩
    · obtain ⟨d, u, e1, e2⟩ := hp (j + 1) w (by simpa using hj)
      exact ⟨d, u, by simpa using e1, e2⟩
theorem call_listS (hc : X.calm = true) : CallR X (.type "list") rListS := by
  intro pins s σ H xs us Q I r h
  obtain ⟨l, rfl, hl, q⟩ := h
  obtain ⟨u, rfl, t, rfl⟩ := vals1 r
  refine call_list_str (I.ok.hd hc) (S l) t (fun h' tk acc c' kp e ia => ?_) (by rw [S_size, sizeLine_eq]; omega)
  obtain ⟨i1, i2⟩ := ia
  rw [S_size] at i1
  have hv : Vals (l.map fun c => V.str (S [c])) acc.toList := vals_signs l acc.toList (by simpa using i1) fun j v hj => by
    obtain ⟨c, u, e1, e2⟩ := i2 j v (by simpa using hj)
    rw [S_get] at e1
    exact ⟨c, u, e1, e2⟩
  refine ⟨.ref s.heap.objs.size, _, I.laid (t' := tk) kp (Nat.le_refl _) (show ObjOk X.prog X.w _ h' _ (.lst (l.map fun c => V.str (S [c]))) from ⟨by rw [List.length_map, sizeLine_eq]; omega, acc.toList, c', hv, by simpa using e⟩), rfl, q _ (I.hok.fresh (Nat.le_refl _))⟩


theorem op_inQK {K : Frag} (hK : X.K = K) : OpR X (compareOp .In) (rIn K false) := by subst hK; exact op_in_seq
theorem op_notinQK {K : Frag} (hK : X.K = K) : OpR X (compareOp .NotIn) (rIn K true) := by subst hK; exact op_notIn_seq

end
end L2

set_option Elab.async false
set_option linter.all false
set_option maxRecDepth 100000
set_option maxHeartbeats 1000000
namespace L2
open PySem PySem.Spec PySem.Calls PyProof.Rows PySem.W

inductive Dat where
  | fl (v : V)
  | tp (xs : List Dat)
  | ls (xs : List Dat)
mutual
noncomputable def IsDt (H : Hp) : Dat → V → Prop
  | .fl x, v => v = x ∧ flatV x = true
  | .tp ds, v => ∃ a vs, v = .ref a ∧ H a = some (.tup vs) ∧ IsDs H ds vs
  | .ls ds, v => ∃ a vs, v = .ref a ∧ H a = some (.lst vs) ∧ IsDs H ds vs
noncomputable def IsDs (H : Hp) : List Dat → List V → Prop
  | [], vs => vs = []
  | d :: ds, vs => ∃ v r, vs = v :: r ∧ IsDt H d v ∧ IsDs H ds r
end
mutual
noncomputable def eqD : Dat → Dat → Bool
  | .fl x, .fl y => eqV x y
  | .tp xs, .tp ys => eqDs xs ys
  | .ls xs, .ls ys => eqDs xs ys
  | .fl _, .tp _ => false
  | .fl _, .ls _ => false
  | .tp _, .fl _ => false
  | .tp _, .ls _ => false
  | .ls _, .fl _ => false
  | .ls _, .tp _ => false
noncomputable def eqDs : List Dat → List Dat → Bool
  | [], [] => true
  | x :: xs, y :: ys => eqD x y && eqDs xs ys
  | [], _ :: _ => false
  | _ :: _, [] => false
end
mutual
noncomputable def depD : Dat → Nat
  | .fl _ => 0
  | .tp xs => depDs xs + 1
  | .ls xs => depDs xs + 1
noncomputable def depDs : List Dat → Nat
  | [] => 0
  | d :: ds => max (depD d) (depDs ds)
end
mutual
theorem IsDt.mono {H H' : Hp} (g : Same H H') : ∀ {d : Dat} {v : V}, IsDt H d v → IsDt H' d v
  | .fl x, v, h => by simp only [IsDt] at h ⊢; exact h
  | .tp ds, v, h => by
    simp only [IsDt] at h ⊢
    obtain ⟨a, vs, e, h1, h2⟩ := h
    exact ⟨a, vs, e, g _ _ h1, IsDs.mono g h2⟩
  | .ls ds, v, h => by
    simp only [IsDt] at h ⊢
    obtain ⟨a, vs, e, h1, h2⟩ := h
    exact ⟨a, vs, e, g _ _ h1, IsDs.mono g h2⟩
theorem IsDs.mono {H H' : Hp} (g : Same H H') : ∀ {ds : List Dat} {vs : List V}, IsDs H ds vs → IsDs H' ds vs
  | [], vs, h => by simp only [IsDs] at h ⊢; exact h
  | d :: ds, vs, h => by
    simp only [IsDs] at h ⊢
    obtain ⟨v, r, e, h1, h2⟩ := h
    exact ⟨v, r, e, IsDt.mono g h1, IsDs.mono g h2⟩
end
theorem IsDs.len {H : Hp} : ∀ {ds : List Dat} {vs : List V}, IsDs H ds vs → ds.length = vs.length
  | [], vs, h => by simp only [IsDs] at h; subst h; rfl
  | d :: ds, vs, h => by
    simp only [IsDs] at h
    obtain ⟨v, r, e, h1, h2⟩ := h
    rw [e, List.length_cons, List.length_cons, IsDs.len h2]
theorem eqV_same {v : V} (h : flatV v = true) : eqV v v = true := by
  cases v <;> simp [eqV, flatV] at h ⊢
mutual

theorem eqD_same {H : Hp} : ∀ {d e : Dat} {v : V}, IsDt H d v → IsDt H e v → eqD d e = true
  | .fl x, .fl y, v, h, k => by
    simp only [IsDt] at h k
    obtain ⟨rfl, f⟩ := h
    obtain ⟨rfl, _⟩ := k
    simp only [eqD]
    exact eqV_same f
  | .tp xs, .tp ys, v, h, k => by
    simp only [IsDt] at h k
    obtain ⟨a, vs, rfl, h1, h2⟩ := h
    obtain ⟨b, us, e, k1, k2⟩ := k
    cases e
    rw [h1] at k1
    cases k1
    simp only [eqD]
    exact eqDs_same h2 k2
  | .ls xs, .ls ys, v, h, k => by
    simp only [IsDt] at h k
    obtain ⟨a, vs, rfl, h1, h2⟩ := h
    obtain ⟨b, us, e, k1, k2⟩ := k
    cases e
    rw [h1] at k1
    cases k1
    simp only [eqD]
    exact eqDs_same h2 k2
  | .fl x, .tp ys, v, h, k => by
    simp only [IsDt] at h k
    obtain ⟨rfl, f⟩ := h
    obtain ⟨b, us, rfl, k1, k2⟩ := k
    simp [flatV] at f
  | .fl x, .ls ys, v, h, k => by
    simp only [IsDt] at h k
    obtain ⟨rfl, f⟩ := h
    obtain ⟨b, us, rfl, k1, k2⟩ := k
    simp [flatV] at f
  | .tp xs, .fl y, v, h, k => by
    simp only [IsDt] at h k
    obtain ⟨rfl, f⟩ := k
    obtain ⟨b, us, rfl, k1, k2⟩ := h
    simp [flatV] at f
  | .ls xs, .fl y, v, h, k => by
    simp only [IsDt] at h k
    obtain ⟨rfl, f⟩ := k
    obtain ⟨b, us, rfl, k1, k2⟩ := h
    simp [flatV] at f
  | .tp xs, .ls ys, v, h, k => by
    simp only [IsDt] at h k
    obtain ⟨a, vs, rfl, h1, h2⟩ := h
    obtain ⟨b, us, e, k1, k2⟩ := k
    cases e
    rw [h1] at k1
    cases k1
  | .ls xs, .tp ys, v, h, k => by
    simp only [IsDt] at h k
    obtain ⟨a, vs, rfl, h1, h2⟩ := h
    obtain ⟨b, us, e, k1, k2⟩ := k
    cases e
    rw [h1] at k1
    cases k1
theorem eqDs_same {H : Hp} : ∀ {ds es : List Dat} {vs : List V}, IsDs H ds vs → IsDs H es vs → eqDs ds es = true
  | [], [], _, _, _ => rfl
  | d :: ds, e :: es, vs, h, k => by
    simp only [IsDs] at h k
    obtain ⟨v, r, rfl, h1, h2⟩ := h
    obtain ⟨v', r', e', k1, k2⟩ := k
    cases e'
    simp only [eqDs, Bool.and_eq_true]
    exact ⟨eqD_same h1 k1, eqDs_same h2 k2⟩
  | [], e :: es, vs, h, k => by
    simp only [IsDs] at h k
    subst h
    obtain ⟨v', r', e', k1, k2⟩ := k
    cases e'
  | d :: ds, [], vs, h, k => by
    simp only [IsDs] at h k
    subst k
    obtain ⟨v', r', e', k1, k2⟩ := h
    cases e'
end
mutual
noncomputable def flatD : Dat → Bool
  | .fl v => flatV v
  | .tp xs => flatDs xs
  | .ls xs => flatDs xs
noncomputable def flatDs : List Dat → Bool
  | [] => true
  | d :: ds => flatD d && flatDs ds
end
mutual
theorem eqD_refl : ∀ {d : Dat}, flatD d = true → eqD d d = true
  | .fl v, h => by simp only [eqD]; exact eqV_same h
  | .tp xs, h => by simp only [eqD]; simp only [flatD] at h; exact eqDs_refl h
  | .ls xs, h => by simp only [eqD]; simp only [flatD] at h; exact eqDs_refl h
theorem eqDs_refl : ∀ {ds : List Dat}, flatDs ds = true → eqDs ds ds = true
  | [], _ => rfl
  | d :: ds, h => by
    simp only [flatDs, Bool.and_eq_true] at h
    simp only [eqDs, Bool.and_eq_true]
    exact ⟨eqD_refl h.1, eqDs_refl h.2⟩
end
theorem eqDs_len : ∀ {ds es : List Dat}, ds.length ≠ es.length → eqDs ds es = false
  | [], [], h => absurd rfl h
  | d :: ds, e :: es, h => by
    simp only [eqDs]
    rw [eqDs_len (ds := ds) (es := es) (by simpa using h), Bool.and_false]
  | [], _ :: _, _ => rfl
  | _ :: _, [], _ => rfl
noncomputable def dGet (ds : List Dat) (j : Nat) : Dat := ds.getD j (.fl .non)
theorem eqDs_all : ∀ {ds es : List Dat}, ds.length = es.length → (List.range ds.length).all (fun j => eqD (dGet ds j) (dGet es j)) = eqDs ds es
  | [], [], _ => rfl
  | d :: ds, e :: es, h => by
    rw [List.length_cons, List.range_succ_eq_map, List.all_cons, List.all_map]
    simp only [eqDs]
    have := eqDs_all (ds := ds) (es := es) (by simpa using h)
    rw [← this]
    rfl
  | [], _ :: _, h => by simp at h
  | _ :: _, [], h => by simp at h
theorem eqDs_tup {ds es : List Dat} {n m : Nat} (hn : n = ds.length) (hm : m = es.length) : ((List.range (min n m)).all (fun j => eqD (dGet ds j) (dGet es j)) && n == m) = eqDs ds es := by
  subst hn hm
  by_cases h : ds.length = es.length
  · rw [← h, Nat.min_self, beq_self_eq_true, Bool.and_true]
    exact eqDs_all h
  · rw [eqDs_len h, beq_eq_false_iff_ne.mpr h, Bool.and_false]
section
variable {X : Cx} {pins : List (Addr × Obj)} {σ : L2.St} {H : Hp} {s : Shared}
theorem tup_at (I : Inv X pins σ H s) {a : Addr} {vs : List V} (h : H a = some (.tup vs)) : ∃ its : List Value, Vals vs its ∧ s.heap.IsTuple a its.toArray := by
  obtain ⟨its, r, p, _⟩ := I.tuple (SqT.of h)
  exact ⟨its, r, p⟩
theorem lst_at (I : Inv X pins σ H s) {a : Addr} {vs : List V} (h : H a = some (.lst vs)) : ∃ its : List Value, Vals vs its ∧ s.heap.IsList a its.toArray := by
  obtain ⟨its, r, p, _⟩ := I.list (SqL.of h)
  exact ⟨its, r, p.isList⟩
mutual
theorem eqD_at (I : Inv X pins σ H s) : ∀ (d e : Dat) (A : Around) (x y : V) (u w : Value), A.units + depD d < cLine → IsDt H d x → IsDt H e y → RelV x u → RelV y w → SeqAt.EqAt A s u w (eqD d e)
  | .fl x, .fl y, A, x', y', u, w, hu, h, k, ru, rw' => by
    simp only [IsDt] at h k
    obtain ⟨rfl, f⟩ := h
    obtain ⟨rfl, g⟩ := k
    simp only [eqD]
    exact eqAt_V ru rw' f g
  | .tp ds, .tp es, A, x, y, u, w, hu, h, k, ru, rw' => by
    have hh := h
    have kk := k
    simp only [IsDt] at h k
    obtain ⟨a, vs, rfl, h1, h2⟩ := h
    obtain ⟨b, us, rfl, k1, k2⟩ := k
    cases ru
    cases rw'
    by_cases hab : a = b
    · subst hab
      rw [eqD_same hh kk]
      exact SeqAt.EqAt.same _
    obtain ⟨i1, r1, p1⟩ := tup_at I h1
    obtain ⟨i2, r2, p2⟩ := tup_at I k1
    simp only [depD] at hu
    refine SeqAt.EqAt.of_refs hab ?_
    have := SeqAt.RcAt.tuples (A := A) (e := fun j => eqD (dGet ds j) (dGet es j)) p1 p2 (by omega) (eqDs_at I ds es A.in1 vs us i1 i2 (by show A.units + 1 + _ < _; omega) h2 k2 r1 r2)
    rw [eqDs_tup (by rw [List.size_toArray, ← r1.length, h2.len]) (by rw [List.size_toArray, ← r2.length, k2.len])] at this
    simp only [eqD]
    exact this
  | .ls ds, .ls es, A, x, y, u, w, hu, h, k, ru, rw' => by
    have hh := h
    have kk := k
    simp only [IsDt] at h k
    obtain ⟨a, vs, rfl, h1, h2⟩ := h
    obtain ⟨b, us, rfl, k1, k2⟩ := k
    cases ru
    cases rw'
    by_cases hab : a = b
    · subst hab
      rw [eqD_same hh kk]
      exact SeqAt.EqAt.same _
    obtain ⟨i1, r1, p1⟩ := lst_at I h1
    obtain ⟨i2, r2, p2⟩ := lst_at I k1
    have l1 := r1.length
    have l2 := r2.length
    have l3 := h2.len
    have l4 := k2.len
    simp only [depD] at hu
    refine SeqAt.EqAt.of_refs hab ?_
    simp only [eqD]
    by_cases hl : ds.length = es.length
    · have := SeqAt.RcAt.lists (A := A) (e := fun j => eqD (dGet ds j) (dGet es j)) p1 p2 (by simp; omega) (by omega) (eqDs_at I ds es A.in1 vs us i1 i2 (by show A.units + 1 + _ < _; omega) h2 k2 r1 r2)
      rw [List.size_toArray, ← l1, ← l3, eqDs_all hl] at this
      exact this
    · rw [eqDs_len hl]
      exact SeqAt.RcAt.lists_lengths p1 p2 (by simp; omega) (by omega)
  | .fl x, .tp es, A, x', y, u, w, hu, h, k, ru, rw' => by
    simp only [IsDt] at h k
    obtain ⟨rfl, f⟩ := h
    obtain ⟨b, us, rfl, k1, k2⟩ := k
    cases rw'
    obtain ⟨i2, r2, p2⟩ := tup_at I k1
    simp only [eqD]
    have hu : A.units < cLine := by omega
    cases x' with
    | non => cases ru; exact SeqAt.EqAt.none_tuple p2 hu
    | bl z => cases ru; exact SeqAt.EqAt.bool_tuple z p2 hu
    | int z => obtain ⟨t, rfl⟩ := ru; exact SeqAt.EqAt.int_tuple z t p2 hu
    | str z => obtain ⟨t, rfl⟩ := ru; exact SeqAt.EqAt.str_tuple z t p2 hu
    | byt z => simp [flatV] at f
    | flt z => simp [flatV] at f
    | ref z => simp [flatV] at f
    | ty z => simp [flatV] at f
  | .fl x, .ls es, A, x', y, u, w, hu, h, k, ru, rw' => by
    simp only [IsDt] at h k
    obtain ⟨rfl, f⟩ := h
    obtain ⟨b, us, rfl, k1, k2⟩ := k
    cases rw'
    obtain ⟨i2, r2, p2⟩ := lst_at I k1
    simp only [eqD]
    have hu : A.units < cLine := by omega
    cases x' with
    | non => cases ru; exact SeqAt.EqAt.none_list p2 hu
    | bl z => cases ru; exact SeqAt.EqAt.bool_list z p2 hu
    | int z => obtain ⟨t, rfl⟩ := ru; exact SeqAt.EqAt.int_list z t p2 hu
    | str z => obtain ⟨t, rfl⟩ := ru; exact SeqAt.EqAt.str_list z t p2 hu
    | byt z => simp [flatV] at f
    | flt z => simp [flatV] at f
    | ref z => simp [flatV] at f
    | ty z => simp [flatV] at f
  | .tp ds, .fl y, A, x, y', u, w, hu, h, k, ru, rw' => by
    simp only [IsDt] at h k
    obtain ⟨rfl, f⟩ := k
    obtain ⟨b, us, rfl, k1, k2⟩ := h
    cases ru
    obtain ⟨i2, r2, p2⟩ := tup_at I k1
    simp only [eqD]
    have hu : A.units < cLine := by omega
    cases y' with
    | non => cases rw'; exact SeqAt.EqAt.tuple_none p2 hu
    | bl z => cases rw'; exact SeqAt.EqAt.tuple_bool z p2 hu
    | int z => obtain ⟨t, rfl⟩ := rw'; exact SeqAt.EqAt.tuple_int z t p2 hu
    | str z => obtain ⟨t, rfl⟩ := rw'; exact SeqAt.EqAt.tuple_str z t p2 hu
    | byt z => simp [flatV] at f
    | flt z => simp [flatV] at f
    | ref z => simp [flatV] at f
    | ty z => simp [flatV] at f
  | .ls ds, .fl y, A, x, y', u, w, hu, h, k, ru, rw' => by
    simp only [IsDt] at h k
    obtain ⟨rfl, f⟩ := k
    obtain ⟨b, us, rfl, k1, k2⟩ := h
    cases ru
    obtain ⟨i2, r2, p2⟩ := lst_at I k1
    simp only [eqD]
    have hu : A.units < cLine := by omega
    cases y' with
    | non => cases rw'; exact SeqAt.EqAt.list_none p2 hu
    | bl z => cases rw'; exact SeqAt.EqAt.list_bool z p2 hu
    | int z => obtain ⟨t, rfl⟩ := rw'; exact SeqAt.EqAt.list_int z t p2 hu
    | str z => obtain ⟨t, rfl⟩ := rw'; exact SeqAt.EqAt.list_str z t p2 hu
    | byt z => simp [flatV] at f
    | flt z => simp [flatV] at f
    | ref z => simp [flatV] at f
    | ty z => simp [flatV] at f
  | .tp ds, .ls es, A, x, y, u, w, hu, h, k, ru, rw' => by
    simp only [IsDt] at h k
    obtain ⟨a, vs, rfl, h1, h2⟩ := h
    obtain ⟨b, us, rfl, k1, k2⟩ := k
    cases ru
    cases rw'
    obtain ⟨i1, r1, p1⟩ := tup_at I h1
    obtain ⟨i2, r2, p2⟩ := lst_at I k1
    simp only [eqD]
    exact SeqAt.EqAt.tuple_list p1 p2 (by omega)
  | .ls ds, .tp es, A, x, y, u, w, hu, h, k, ru, rw' => by
    simp only [IsDt] at h k
    obtain ⟨a, vs, rfl, h1, h2⟩ := h
    obtain ⟨b, us, rfl, k1, k2⟩ := k
    cases ru
    cases rw'
    obtain ⟨i1, r1, p1⟩ := lst_at I h1
    obtain ⟨i2, r2, p2⟩ := tup_at I k1
    simp only [eqD]
    exact SeqAt.EqAt.list_tuple p1 p2 (by omega)
theorem eqDs_at (I : Inv X pins σ H s) : ∀ (ds es : List Dat) (A : Around) (xs ys : List V) (us ws : List Value), A.units + depDs ds < cLine → IsDs H ds xs → IsDs H es ys → Vals xs us → Vals ys ws →
    ∀ j (h1 : j < us.toArray.size) (h2 : j < ws.toArray.size), SeqAt.EqAt A s us.toArray[j] ws.toArray[j] (eqD (dGet ds j) (dGet es j))
  | [], es, A, xs, ys, us, ws, hu, h, k, ru, rw', j, h1, h2 => by
    simp only [IsDs] at h
    subst h
    have := ru.length
    rw [List.size_toArray] at h1
    simp at this
    omega
  | d :: ds, [], A, xs, ys, us, ws, hu, h, k, ru, rw', j, h1, h2 => by
    simp only [IsDs] at k
    subst k
    have := rw'.length
    rw [List.size_toArray] at h2
    simp at this
    omega
  | d :: ds, e :: es, A, xs, ys, us, ws, hu, h, k, ru, rw', j, h1, h2 => by
    simp only [IsDs] at h k
    obtain ⟨v, r, rfl, a1, a2⟩ := h
    obtain ⟨v', r', rfl, b1, b2⟩ := k
    simp only [depDs] at hu
    cases ru with
    | cons q1 q2 =>
      cases rw' with
      | cons q3 q4 =>
        cases j with
        | zero => exact eqD_at I d e A _ _ _ _ (by omega) a1 b1 q1 q3
        | succ j =>
          have := eqDs_at I ds es A _ _ _ _ (by omega) a2 b2 q2 q4 j (by simpa using h1) (by simpa using h2)
          simpa [dGet] using this
end
end
section
variable {X : Cx}

noncomputable def rEqD : R2 := fun x y H Q => ∃ d e a b, x = .ref a ∧ y = .ref b ∧ IsDt H d (.ref a) ∧ IsDt H e (.ref b) ∧ depD d ≤ 50 ∧ Q (.bl (eqD d e)) H
noncomputable def rNeD : R2 := fun x y H Q => ∃ d e a b, x = .ref a ∧ y = .ref b ∧ IsDt H d (.ref a) ∧ IsDt H e (.ref b) ∧ depD d ≤ 50 ∧ Q (.bl (!eqD d e)) H
theorem op_eqD (hu : X.A.units + 64 < cLine) : OpR X (compareOp .Eq) rEqD := by
  intro pins s σ H x y v u Q I rx ry h
  obtain ⟨d, e, a, b, rfl, rfl, h, k, hd, q⟩ := h
  cases rx
  cases ry
  match d, e, h, k, hd, q with
  | .tp ds, .tp es, h, k, hd, q =>
    simp only [IsDt] at h k
    obtain ⟨_, vs, e1, h1, h2⟩ := h
    obtain ⟨_, us, e2, k1, k2⟩ := k
    cases e1
    cases e2
    obtain ⟨i1, r1, p1⟩ := tup_at I h1
    obtain ⟨i2, r2, p2⟩ := tup_at I k1
    simp only [depD] at hd
    refine SeqAt.eq_tupleAt (e := fun j => eqD (dGet ds j) (dGet es j)) p1 p2 (by omega) (eqDs_at I ds es X.A.in1 vs us i1 i2 (by show X.A.units + 1 + _ < _; omega) h2 k2 r1 r2) ⟨.bl _, H, I, rfl, ?_⟩
    rw [eqDs_tup (by rw [List.size_toArray, ← r1.length, h2.len]) (by rw [List.size_toArray, ← r2.length, k2.len])]
    exact q
  | .ls ds, .ls es, h, k, hd, q =>
    simp only [IsDt] at h k
    obtain ⟨_, vs, e1, h1, h2⟩ := h
    obtain ⟨_, us, e2, k1, k2⟩ := k
    cases e1
    cases e2
    obtain ⟨i1, r1, p1⟩ := lst_at I h1
    obtain ⟨i2, r2, p2⟩ := lst_at I k1
    have l1 := r1.length
    have l2 := r2.length
    have l3 := h2.len
    have l4 := k2.len
    simp only [depD] at hd
    by_cases hl : ds.length = es.length
    · refine SeqAt.eq_listAt (e := fun j => eqD (dGet ds j) (dGet es j)) p1 p2 (by simp; omega) (by omega) (eqDs_at I ds es X.A.in1 vs us i1 i2 (by show X.A.units + 1 + _ < _; omega) h2 k2 r1 r2) ⟨.bl _, H, I, rfl, ?_⟩
      rw [List.size_toArray, ← l1, ← l3, eqDs_all hl]
      exact q
    · refine SeqAt.eq_list_lengthsAt p1 p2 (by simp; omega) (by omega) ⟨.bl _, H, I, rfl, ?_⟩
      simp only [eqD] at q
      rw [eqDs_len hl] at q
      exact q
  | .tp ds, .ls es, h, k, hd, q =>
    simp only [IsDt] at h k
    obtain ⟨_, vs, e1, h1, h2⟩ := h
    obtain ⟨_, us, e2, k1, k2⟩ := k
    cases e1
    cases e2
    obtain ⟨i1, r1, p1⟩ := tup_at I h1
    obtain ⟨i2, r2, p2⟩ := lst_at I k1
    exact SeqAt.RcAt.tuple_list p1 p2 (by omega) _ _ _ _ ⟨.bl _, H, I, rfl, q⟩
  | .ls ds, .tp es, h, k, hd, q =>
    simp only [IsDt] at h k
    obtain ⟨_, vs, e1, h1, h2⟩ := h
    obtain ⟨_, us, e2, k1, k2⟩ := k
    cases e1
    cases e2
    obtain ⟨i1, r1, p1⟩ := lst_at I h1
    obtain ⟨i2, r2, p2⟩ := tup_at I k1
    exact SeqAt.RcAt.list_tuple p1 p2 (by omega) _ _ _ _ ⟨.bl _, H, I, rfl, q⟩
  | .fl x, e, h, k, hd, q => simp only [IsDt] at h; obtain ⟨rfl, f⟩ := h; simp [flatV] at f
  | .tp ds, .fl x, h, k, hd, q => simp only [IsDt] at k; obtain ⟨rfl, f⟩ := k; simp [flatV] at f
  | .ls ds, .fl x, h, k, hd, q => simp only [IsDt] at k; obtain ⟨rfl, f⟩ := k; simp [flatV] at f
theorem op_neD (hu : X.A.units + 64 < cLine) : OpR X (compareOp .NotEq) rNeD := by
  intro pins s σ H x y v u Q I rx ry h
  obtain ⟨d, e, a, b, rfl, rfl, h, k, hd, q⟩ := h
  cases rx
  cases ry
  match d, e, h, k, hd, q with
  | .tp ds, .tp es, h, k, hd, q =>
    simp only [IsDt] at h k
    obtain ⟨_, vs, e1, h1, h2⟩ := h
    obtain ⟨_, us, e2, k1, k2⟩ := k
    cases e1
    cases e2
    obtain ⟨i1, r1, p1⟩ := tup_at I h1
    obtain ⟨i2, r2, p2⟩ := tup_at I k1
    simp only [depD] at hd
    refine SeqAt.RcNeAt.tuples (e := fun j => eqD (dGet ds j) (dGet es j)) p1 p2 (by omega) (eqDs_at I ds es X.A.in1 vs us i1 i2 (by show X.A.units + 1 + _ < _; omega) h2 k2 r1 r2) _ _ _ _ ⟨.bl _, H, I, rfl, ?_⟩
    rw [eqDs_tup (by rw [List.size_toArray, ← r1.length, h2.len]) (by rw [List.size_toArray, ← r2.length, k2.len])]
    exact q
  | .ls ds, .ls es, h, k, hd, q =>
    simp only [IsDt] at h k
    obtain ⟨_, vs, e1, h1, h2⟩ := h
    obtain ⟨_, us, e2, k1, k2⟩ := k
    cases e1
    cases e2
    obtain ⟨i1, r1, p1⟩ := lst_at I h1
    obtain ⟨i2, r2, p2⟩ := lst_at I k1
    have l1 := r1.length
    have l2 := r2.length
    have l3 := h2.len
    have l4 := k2.len
    simp only [depD] at hd
    by_cases hl : ds.length = es.length
    · refine SeqAt.RcNeAt.lists (e := fun j => eqD (dGet ds j) (dGet es j)) p1 p2 (by simp; omega) (by omega) (eqDs_at I ds es X.A.in1 vs us i1 i2 (by show X.A.units + 1 + _ < _; omega) h2 k2 r1 r2) _ _ _ _ ⟨.bl _, H, I, rfl, ?_⟩
      rw [List.size_toArray, ← l1, ← l3, eqDs_all hl]
      exact q
    · refine SeqAt.RcNeAt.lists_lengths p1 p2 (by simp; omega) (by omega) _ _ _ _ ⟨.bl _, H, I, rfl, ?_⟩
      simp only [eqD] at q
      rw [eqDs_len hl] at q
      exact q
  | .tp ds, .ls es, h, k, hd, q =>
    simp only [IsDt] at h k
    obtain ⟨_, vs, e1, h1, h2⟩ := h
    obtain ⟨_, us, e2, k1, k2⟩ := k
    cases e1
    cases e2
    obtain ⟨i1, r1, p1⟩ := tup_at I h1
    obtain ⟨i2, r2, p2⟩ := lst_at I k1
    exact SeqAt.RcNeAt.tuple_list p1 p2 (by omega) _ _ _ _ ⟨.bl _, H, I, rfl, q⟩
  | .ls ds, .tp es, h, k, hd, q =>
    simp only [IsDt] at h k
    obtain ⟨_, vs, e1, h1, h2⟩ := h
    obtain ⟨_, us, e2, k1, k2⟩ := k
    cases e1
    cases e2
    obtain ⟨i1, r1, p1⟩ := lst_at I h1
    obtain ⟨i2, r2, p2⟩ := tup_at I k1
    exact SeqAt.RcNeAt.list_tuple p1 p2 (by omega) _ _ _ _ ⟨.bl _, H, I, rfl, q⟩
  | .fl x, e, h, k, hd, q => simp only [IsDt] at h; obtain ⟨rfl, f⟩ := h; simp [flatV] at f
  | .tp ds, .fl x, h, k, hd, q => simp only [IsDt] at k; obtain ⟨rfl, f⟩ := k; simp [flatV] at f
  | .ls ds, .fl x, h, k, hd, q => simp only [IsDt] at k; obtain ⟨rfl, f⟩ := k; simp [flatV] at f
end
end L2

set_option Elab.async false
set_option linter.all false
set_option maxRecDepth 100000
set_option maxHeartbeats 1000000
namespace L2
open PySem PySem.Spec PySem.Calls PyProof.Rows PySem.W

noncomputable abbrev Tx := List Nat
noncomputable def tx (x : Tx) : V := .str (S x)
noncomputable abbrev ft (x : Tx) : Dat := .fl (.str (S x))
structure MS where
  mode : Tx
  word : Tx
  opens : List Tx
  talk : Tx
noncomputable abbrev Ev := List Tx
noncomputable abbrev lt : Tx := [97, 98, 99, 100, 101, 102, 103, 104, 105, 106, 107, 108, 109, 110, 111, 112, 113, 114, 115, 116, 117, 118, 119, 120, 121, 122]
noncomputable def dS (s : MS) : Dat := .tp [ft s.mode, ft s.word, .tp (s.opens.map ft), ft s.talk]
noncomputable def dE (e : Ev) : Dat := .tp (e.map ft)
noncomputable def dEs (es : List Ev) : Dat := .ls (es.map dE)
end L2
namespace L2
open PySem PySem.Spec PySem.Calls PyProof.Rows PySem.W
end L2
namespace L2
open PySem PySem.Spec PySem.Calls PyProof.Rows PySem.W
end L2
namespace L2
open PySem PySem.Spec PySem.Calls PyProof.Rows PySem.W
end L2
namespace L2
open PySem PySem.Spec PySem.Calls PyProof.Rows PySem.W
end L2
namespace L2
open PySem PySem.Spec PySem.Calls PyProof.Rows PySem.W

end L2
namespace L2
open PySem PySem.Spec PySem.Calls PyProof.Rows PySem.W
end L2

set_option Elab.async false
set_option linter.all false
set_option maxRecDepth 100000
set_option maxHeartbeats 1000000
namespace L2
open PySem PySem.Spec PyProof.Rows


section
variable {κ : Type} [DecidableEq κ]
noncomputable def valV (kvs : List (κ × V)) (k : κ) : Option V := (kvs.find? fun kv => decide (kv.1 = k)).map (·.2)

noncomputable def putK (kvs : List (κ × V)) (k : κ) (v : V) : List (κ × V) :=
  if (kvs.any fun kv => decide (kv.1 = k)) = true then kvs.map (fun kv => if kv.1 = k then (kv.1, v) else kv) else kvs ++ [(k, v)]
theorem valV_pos {p : κ × V} {r : List (κ × V)} {k : κ} (e : p.1 = k) : valV (p :: r) k = some p.2 := by simp [valV, List.find?_cons, e]
theorem valV_neg {p : κ × V} {r : List (κ × V)} {k : κ} (e : ¬ p.1 = k) : valV (p :: r) k = valV r k := by simp [valV, List.find?_cons, e]
theorem length_putK (kvs : List (κ × V)) (k : κ) (v : V) : (putK kvs k v).length ≤ kvs.length + 1 := by
  unfold putK
  split
  · rw [List.length_map]; omega
  · rw [List.length_append, List.length_cons, List.length_nil]; omega
theorem RelO.getD {o : Option V} {u : Option Value} {d : V} {d' : Value} (r : RelO o u) (rd : RelV d d') : RelV (o.getD d) (u.getD d') := by
  cases o with
  | none => cases u with
    | none => exact rd
    | some _ => exact (show False from r).elim
  | some _ => cases u with
    | none => exact (show False from r).elim
    | some _ => exact r


theorem KV.val {kvs : List (κ × V)} {vs : List (κ × Value)} (r : KV kvs vs) (k : κ) : RelO (valV kvs k) (valueAt vs k) := by
  unfold KV at r
  induction r with
  | nil => exact True.intro
  | @cons p q ps qs h t ih =>
    obtain ⟨h1, h2⟩ := h
    by_cases e : p.1 = k
    · have e' : q.1 = k := h1.symm.trans e
      have b : valueAt (q :: qs) k = some q.2 := by simp [valueAt, List.find?_cons, e']
      rw [valV_pos e, b]; exact h2
    · have e' : ¬ q.1 = k := fun z => e (h1.trans z)
      have b : valueAt (q :: qs) k = valueAt qs k := by simp [valueAt, List.find?_cons, e']
      rw [valV_neg e, b]; exact ih
theorem KV.any {kvs : List (κ × V)} {vs : List (κ × Value)} (r : KV kvs vs) (k : κ) : (kvs.any fun kv => decide (kv.1 = k)) = vs.any fun kv => decide (kv.1 = k) := by
  unfold KV at r
  induction r with
  | nil => rfl
  | cons h t ih => rw [List.any_cons, List.any_cons, ih, h.1]
theorem KV.repl {kvs : List (κ × V)} {vs : List (κ × Value)} (r : KV kvs vs) (k : κ) {y : V} {u : Value} (ry : RelV y u) :
    KV (kvs.map fun kv => if kv.1 = k then (kv.1, y) else kv) (vs.map fun kv => if kv.1 = k then (kv.1, u) else kv) := by
  unfold KV at r ⊢
  induction r with
  | nil => exact .nil
  | @cons p q ps qs h t ih =>
    rw [List.map_cons, List.map_cons]
    refine .cons ?_ ih
    obtain ⟨h1, h2⟩ := h
    by_cases e : p.1 = k
    · rw [if_pos e, if_pos (h1.symm.trans e)]; exact ⟨h1, ry⟩
    · rw [if_neg e, if_neg (fun z => e (h1.trans z))]; exact ⟨h1, h2⟩
theorem KV.put {kvs : List (κ × V)} {vs : List (κ × Value)} (r : KV kvs vs) (k : κ) {y : V} {u : Value} (ry : RelV y u) : KV (putK kvs k y) (stored vs k u) := by
  unfold putK stored
  rw [r.any k]
  by_cases e : (vs.any fun kv => decide (kv.1 = k)) = true
  · rw [if_pos e, if_pos e]; exact r.repl k ry
  · rw [if_neg e, if_neg e]; exact Paired.snoc r ⟨rfl, ry⟩
theorem KV.keys {kvs : List (κ × V)} {vs : List (κ × Value)} (r : KV kvs vs) : kvs.map (·.1) = vs.map (·.1) := by
  unfold KV at r
  induction r with
  | nil => rfl
  | cons h t ih => rw [List.map_cons, List.map_cons, ih, h.1]
theorem KV.length {kvs : List (κ × V)} {vs : List (κ × Value)} (r : KV kvs vs) : kvs.length = vs.length := Paired.length r
end



theorem kV_is {P : Program} {w : World} {k : Key} {u : Value} (r : RelV (kV k) u) : (mixKind P w).is k u = true := by
  cases k with
  | inl i => obtain ⟨t, e⟩ := (show ∃ t, u = Value.int i t from r); subst e; exact mixKind_int P w i t
  | inr x => obtain ⟨t, e⟩ := (show ∃ t, u = Value.str x t from r); subst e; exact mixKind_str P w x t
theorem items_are {P : Program} {w : World} : ∀ {ks : List Key} {us : List Value}, Vals (ks.map kV) us → ItemsAre (mixKind P w) ks us
  | [], _, r => by rw [List.map_nil] at r; cases r; exact .nil
  | k :: ks, _, r => by
    rw [List.map_cons] at r
    cases r with
    | cons h t => exact .cons (kV_is h) (items_are t)


noncomputable abbrev KT (H : Hp) : List (List Key × V) → List (List Key × Addr × Value) → Prop := Paired fun p q => p.1 = q.1 ∧ H q.2.1 = some (.tup (p.1.map kV)) ∧ RelV p.2 q.2.2
theorem KT.val {H : Hp} {kvs : List (List Key × V)} {xs : List (List Key × Addr × Value)} (r : KT H kvs xs) (k : List Key) : RelO (valV kvs k) ((atKey xs k).map (·.2)) := by
  induction r with
  | nil => exact True.intro
  | @cons p q ps qs h t ih =>
    obtain ⟨h1, _, h2⟩ := h
    by_cases e : p.1 = k
    · have e' : q.1 = k := h1.symm.trans e
      have b : atKey (q :: qs) k = some q.2 := by simp [atKey, List.find?_cons, e']
      rw [valV_pos e, b]; exact h2
    · have e' : ¬ q.1 = k := fun z => e (h1.trans z)
      have b : atKey (q :: qs) k = atKey qs k := by simp [atKey, List.find?_cons, e']
      rw [valV_neg e, b]; exact ih
section
variable {P : Program} {w : World} {H : Hp} {h : Heap} {a : Addr}
theorem rd_of {u : HO} (ok : HOk P w H h) (e : Rd H a u) : ObjOk P w H h a u := e.ok ok
theorem dk_rd {kvs : List (Key × V)} (ok : HOk P w H h) (e : Rd H a (.dK kvs)) : kvs.length ≤ sizeLine ∧ (a == sysModules) = false ∧ ∃ vs, KV kvs vs ∧ h.DictOf (mixKind P w) a vs :=
  show ObjOk P w H h a (.dK kvs) from rd_of ok e
theorem dk_of {kvs : List (Key × V)} (ok : HOk P w H h) (e : H a = some (.dK kvs)) : kvs.length ≤ sizeLine ∧ (a == sysModules) = false ∧ ∃ vs, KV kvs vs ∧ h.DictOf (mixKind P w) a vs := dk_rd ok (.inl e)

theorem key_of {ks : List Key} (ok : HOk P w H h) (e : H a = some (.tup (ks.map kV))) : (tupleKind (mixKind P w)).is h ks a := by
  obtain ⟨_, its, r, o, h1, h2, n, h3⟩ := (show ObjOk P w H h a (.tup (ks.map kV)) from ok a _ e)
  exact ⟨o, its.toArray, n, h1, h2, h3, by simpa using items_are r⟩
theorem dt_rd {kvs : List (List Key × V)} (ok : HOk P w H h) (e : Rd H a (.dT kvs)) : kvs.length ≤ sizeLine ∧ (a == sysModules) = false ∧
    ∃ xs, KT H kvs xs ∧ h.DictOfH (tupleKind (mixKind P w)) a xs := by
  obtain ⟨z, y, xs, r, o, es, ep, h1, h2, h3, h4, h5⟩ := (show ObjOk P w H h a (.dT kvs) from rd_of ok e)
  refine ⟨z, y, xs, r, o, es, ep, h1, h2, h3, h4, fun x hx => ?_, h5⟩
  have all : ∀ {l : List (List Key × V)} {m : List (List Key × Addr × Value)}, KT H l m → ∀ x ∈ m, (tupleKind (mixKind P w)).is h x.1 x.2.1 := by
    intro l m q
    induction q with
    | nil => intro x hx; exact nomatch hx
    | @cons p q ps qs hq t ih =>
      intro x hx
      rcases List.mem_cons.mp hx with e | hx
      · subst e
        exact key_of ok (by rw [← hq.1]; exact hq.2.1)
      · exact ih x hx
  exact all r x hx
theorem dt_of {kvs : List (List Key × V)} (ok : HOk P w H h) (e : H a = some (.dT kvs)) : kvs.length ≤ sizeLine ∧ (a == sysModules) = false ∧
    ∃ xs, KT H kvs xs ∧ h.DictOfH (tupleKind (mixKind P w)) a xs := dt_rd ok (.inl e)
end


noncomputable def DGet (H : Hp) (a : Addr) (y : V) (r : Option V) : Prop :=
  (∃ kvs k, Rd H a (.dK kvs) ∧ y = kV k ∧ r = valV kvs k) ∨ ∃ kvs k b, Rd H a (.dT kvs) ∧ y = .ref b ∧ H b = some (.tup (k.map kV)) ∧ r = valV kvs k

noncomputable def DPut (H : Hp) (a : Addr) (y v : V) (H' : Hp) : Prop :=
  (∃ kvs k, H a = some (.dK kvs) ∧ y = kV k ∧ kvs.length < sizeLine ∧ H' = upd H a (.dK (putK kvs k v))) ∨
  ∃ kvs k b, H a = some (.dT kvs) ∧ y = .ref b ∧ H b = some (.tup (k.map kV)) ∧ kvs.length < sizeLine ∧ H' = upd H a (.dT (putK kvs k v))
theorem DGet.k {H : Hp} {a : Addr} {kvs : List (Key × V)} {k : Key} (e : H a = some (.dK kvs)) : DGet H a (kV k) (valV kvs k) := .inl ⟨kvs, k, .inl e, rfl, rfl⟩
theorem DGet.t {H : Hp} {a b : Addr} {kvs : List (List Key × V)} {k : List Key} (e : H a = some (.dT kvs)) (eb : H b = some (.tup (k.map kV))) : DGet H a (.ref b) (valV kvs k) := .inr ⟨kvs, k, b, .inl e, rfl, eb, rfl⟩
theorem DPut.k {H : Hp} {a : Addr} {kvs : List (Key × V)} {k : Key} {v : V} (e : H a = some (.dK kvs)) (hl : kvs.length < sizeLine) : DPut H a (kV k) v (upd H a (.dK (putK kvs k v))) := .inl ⟨kvs, k, e, rfl, hl, rfl⟩
theorem DPut.t {H : Hp} {a b : Addr} {kvs : List (List Key × V)} {k : List Key} {v : V} (e : H a = some (.dT kvs)) (eb : H b = some (.tup (k.map kV))) (hl : kvs.length < sizeLine) :
    DPut H a (.ref b) v (upd H a (.dT (putK kvs k v))) := .inr ⟨kvs, k, b, e, rfl, eb, hl, rfl⟩


section
variable {X : Cx} {pins : List (Addr × Obj)} {σ : St} {H : Hp} {s : Shared} {a : Addr} {y v : V} {u r : Value} {o : Option V} {A : Around} {E : Value → Shared → Prop}

theorem Inv.big (I : Inv X pins σ H s) : sysModules < s.heap.objs.size := by
  have h : mainGlobals < s.heap.objs.size := (I.mod.glob.keeps I.bk).lt
  exact Nat.lt_trans (by decide) h


theorem d_getItem {Q : Value → Shared → Prop} (hu : A.units + 1 < cLine) (I : Inv X pins σ H s) (g : DGet H a y (some v)) (ry : RelV y u) (h : ∀ w' s', Inv X pins σ H s' → RelV v w' → Q w' s') :
    wpAny (model X.prog X.w) A (getItem (.ref a) u) Q E s := by
  rcases g with ⟨kvs, k, e, ey, l⟩ | ⟨kvs, k, b, e, ey, eb, l⟩
  · subst ey
    obtain ⟨z, hd, vs, rel, dd⟩ := dk_rd I.hok e
    obtain ⟨w', hw, rw'⟩ := RelO.some_of (v := v) (o := valueAt vs k) (by rw [l]; exact rel.val k)
    exact wpAny_getItem_of (kV_is ry) dd.mapOf hw (h w' _ (I.tok _) rw')
  · subst ey
    cases (show u = Value.ref b from ry)
    obtain ⟨z, hd, xs, rel, dd⟩ := dt_rd I.hok e
    obtain ⟨w', hw, rw'⟩ := RelO.some_of (v := v) (o := (atKey xs k).map (·.2)) (by rw [l]; exact rel.val k)
    obtain ⟨p, hp, hp2⟩ := Option.map_eq_some_iff.mp hw
    refine wpAny_getItem_heap (tupleKind_room_in1 hu) (key_of I.hok eb) dd hp ?_
    rw [hp2]
    exact h w' _ (I.tok _) rw'

theorem d_write {h' : Heap} {t' : Nat} {ob : HO} (I : Inv X pins σ H s) (mu : Mut (H a)) (hs : Heap.SameBut a s.heap h') (he : ∃ q, h'.get? a = some q) (new : ObjOk X.prog X.w (upd H a ob) h' a ob) :
    Inv X pins σ (upd H a ob) { s with heap := h', toks := t' } :=
  I.write (x := a) (e := a) mu (.inl rfl) (fun b q hb z => (hs.2 b hb).trans z) he new
theorem dk_new {P : Program} {w : World} {H' : Hp} {h' : Heap} {kvs : List (Key × V)} {vs : List (Key × Value)} (z : kvs.length ≤ sizeLine) (hd : (a == sysModules) = false) (rel : KV kvs vs) (dd : h'.DictOf (mixKind P w) a vs) :
    ObjOk P w H' h' a (.dK kvs) := ⟨z, hd, vs, rel, dd⟩

end

section
variable {X : Cx} {pins : List (Addr × Obj)} {σ : St} {H : Hp} {s : Shared} {a : Addr} {kvs : List (Key × V)} {k : Key} {u : Value} {A : Around} {E : Value → Shared → Prop}

end




theorem dict_typeIs {X : Cx} {pins : List (Addr × Obj)} {σ : St} {H : Hp} {s : Shared} {a : Addr} {y : V} {o : Option V} (I : Inv X pins σ H s) (g : DGet H a y o) : s.TypeIs (.ref a) "dict" := by
  rcases g with ⟨kvs, k, e, _, _⟩ | ⟨kvs, k, b, e, _, _, _⟩
  · obtain ⟨_, _, vs, _, dd⟩ := dk_rd I.hok e
    exact dd.typeIs
  · obtain ⟨_, _, xs, _, dd⟩ := dt_rd I.hok e
    exact dd.typeIs
section
variable {X : Cx} {o i e value : Expr} {pos pos' tpos : Pos} {td ty tv : TE}
end



theorem dk_empty {P : Program} {w : World} {H : Hp} (h : Heap) (hb : sysModules < h.objs.size) : ObjOk P w H (h.push { cls := .type "dict", data := .dict #[] }) h.objs.size (.dK []) :=
  ⟨Nat.zero_le _, beq_eq_false_iff_ne.mpr (Ne.symm (Nat.ne_of_lt hb)), [], .nil, Heap.DictOf.new h⟩
section
variable {X : Cx} {pos : Pos}
end


noncomputable def tPairs : List (TE × TE) → St → Hp → (List (V × V) → Hp → Prop) → Prop
  | [], _, H, Q => Q [] H
  | (tk, tv) :: r, σ, H, Q => tk σ H fun x H1 => tv σ H1 fun y H2 => tPairs r σ H2 fun ps H3 => Q ((x, y) :: ps) H3
noncomputable abbrev VV : List (V × V) → List (Value × Value) → Prop := Paired fun p q => RelV p.1 q.1 ∧ RelV p.2 q.2
noncomputable def PPs (X : Cx) (pos : Pos) (keys : List (Option Expr)) (values : List Expr) (trs : List (TE × TE)) : Prop :=
  ∀ (pins : List (Addr × Obj)) (s : Shared) (σ : St) (H : Hp) (Q : List (V × V) → Hp → Prop), Inv X pins σ H s → tPairs trs σ H Q →
    wpAny (model X.prog X.w) X.A (evalPairs (pairTrees keys values X.env pos)) (fun vs s' => ∃ ps H', Inv X pins σ H' s' ∧ VV ps vs ∧ Q ps H') X.xe s
theorem pps_nil {X : Cx} {pos : Pos} : PPs X pos [] [] [] := fun pins s σ H Q I h => pairTrees_nil_walk ⟨[], H, I, .nil, h⟩
theorem pps_cons {X : Cx} {pos : Pos} {k v : Expr} {ks : List (Option Expr)} {vs : List Expr} {tk tv : TE} {trs : List (TE × TE)} (hk : PE X k tk) (hv : PE X v tv) (hr : PPs X pos ks vs trs) :
    PPs X pos (some k :: ks) (v :: vs) ((tk, tv) :: trs) := fun pins s σ H Q I h =>
  pairTrees_cons_walk (thn (hk pins s σ H _ I h) fun u s1 ⟨x, H1, I1, rx, q1⟩ => thn (hv pins s1 σ H1 _ I1 q1) fun w2 s2 ⟨y, H2, I2, ry, q2⟩ =>
    thn (hr pins s2 σ H2 _ I2 q2) fun ws s3 ⟨ps, H3, I3, rel, q3⟩ => ⟨(x, y) :: ps, H3, I3, .cons ⟨rx, ry⟩ rel, q3⟩)

noncomputable def mergeK (kvs more : List (Key × V)) : List (Key × V) := more.foldl (fun acc kv => putK acc kv.1 kv.2) kvs
theorem KV.merge : ∀ {more : List (Key × V)} {rs : List (Key × Value)} {kvs : List (Key × V)} {vs : List (Key × Value)}, KV more rs → KV kvs vs → KV (mergeK kvs more) (merged vs rs) := by
  intro more rs kvs vs r
  unfold KV at r
  induction r generalizing kvs vs with
  | nil => intro q; exact q
  | @cons p q ps qs h t ih =>
    intro r0
    have e : KV (putK kvs p.1 p.2) (stored vs q.1 q.2) := by
      have := r0.put p.1 h.2
      rw [← h.1]; exact this
    exact ih e
theorem length_mergeK : ∀ (more kvs : List (Key × V)), (mergeK kvs more).length ≤ kvs.length + more.length
  | [], kvs => by show kvs.length ≤ kvs.length + 0; omega
  | p :: r, kvs => by
    have h1 := length_mergeK r (putK kvs p.1 p.2)
    have h2 := length_putK kvs p.1 p.2
    show (mergeK (putK kvs p.1 p.2) r).length ≤ _
    rw [List.length_cons]; omega
theorem carries_of {P : Program} {w : World} : ∀ {kvs : List (Key × V)} {ws : List (Value × Value)}, VV (kvs.map fun kv => (kV kv.1, kv.2)) ws → ∃ rs, Carries (mixKind P w) ws rs ∧ KV kvs rs
  | [], _, r => by rw [List.map_nil] at r; cases r; exact ⟨[], True.intro, .nil⟩
  | p :: kvs, _, r => by
    rw [List.map_cons] at r
    cases r with
    | @cons a b as bs h t =>
      obtain ⟨rs, c, q⟩ := carries_of (P := P) (w := w) t
      obtain ⟨b1, b2⟩ := b
      exact ⟨(p.1, b2) :: rs, ⟨kV_is h.1, rfl, c⟩, .cons ⟨rfl, h.2⟩ q⟩

noncomputable def tDisp (trs : List (TE × TE)) : TE := fun σ H Q => ∀ p, H p = none → tPairs trs σ (upd H p (.dK [])) fun ps H2 => H2 p = some (.dK []) ∧ ∃ kvs : List (Key × V), ps = kvs.map (fun kv => (kV kv.1, kv.2)) ∧ kvs.length ≤ 15 ∧ Q (.ref p) (upd H2 p (.dK (mergeK [] kvs)))
theorem pe_disp {X : Cx} {pos : Pos} {keys : List (Option Expr)} {values : List Expr} {trs : List (TE × TE)} (h : PPs X pos keys values trs) (hall : keys.all (·.isSome) = true) (hl : keys.length = values.length) (h0 : keys ≠ [])
    (h15 : keys.length ≤ 15) : PE X (.Dict keys values pos) (tDisp trs) := by
  intro pins s σ H Q I q
  have hn := I.hok.fresh (Nat.le_refl s.heap.objs.size)
  have I1 := I.laid (a := s.heap.objs.size) (o := .dK []) (h' := s.heap.push { cls := .type "dict", data := .dict #[] }) (t' := s.toks) (fun _ _ q => Heap.get?_push_of_some _ q) (Nat.le_refl _) (dk_empty s.heap I.big)
  refine wpAny_Dict_walk (knd := mixKind X.prog X.w) hall hl h0 h15 (thn (h pins _ σ _ _ I1 (q _ hn)) fun ws s2 ⟨ps, H2, I2, rel, e, kvs, ep, lk, q2⟩ => ?_)
  subst ep
  obtain ⟨rs, c, rk⟩ := carries_of (P := X.prog) (w := X.w) rel
  obtain ⟨z, hd, vs0, r0, dd⟩ := dk_of I2.hok e
  cases r0
  refine ⟨rs, c, dd, fun h' dd' hs => ⟨.ref s.heap.objs.size, _, ?_, rfl, q2⟩⟩
  have hz : (mergeK [] kvs).length ≤ sizeLine := by
    have h1 := length_mergeK kvs []
    rw [List.length_nil] at h1
    rw [sizeLine_eq]; omega
  have he : ∃ q, h'.get? s.heap.objs.size = some q := let ⟨q, _, _, hq, _⟩ := dd'; ⟨q, hq⟩
  exact d_write I2 (by rw [e]; exact True.intro) hs he (dk_new hz hd (rk.merge .nil) dd')




structure M1 (X : Cx) (o : Expr) (m : Str) (apos : Pos) (e : Expr) (cpos : Pos) : Prop where
  base : attributeBase o m X.env (eval o X.env) = eval o X.env
  few : ((backTo cpos (starEach [e] X.env)).all (fun x => !x.1) && (backToKw cpos (keywordEach [] X.env)).all (fun x => x.1.isSome)
    && decide (([e] : List Expr).length + ([] : List Keyword).length + (if ([] : List Keyword).isEmpty then 0 else 1) < 30)) = true
  line : (apos.endLine == cpos.line) = true
  trees : backTo cpos (starEach [e] X.env) = [(false, eval e X.env)]
structure M2 (X : Cx) (o : Expr) (m : Str) (apos : Pos) (e f : Expr) (cpos : Pos) : Prop where
  base : attributeBase o m X.env (eval o X.env) = eval o X.env
  few : ((backTo cpos (starEach [e, f] X.env)).all (fun x => !x.1) && (backToKw cpos (keywordEach [] X.env)).all (fun x => x.1.isSome)
    && decide (([e, f] : List Expr).length + ([] : List Keyword).length + (if ([] : List Keyword).isEmpty then 0 else 1) < 30)) = true
  line : (apos.endLine == cpos.line) = true
  trees : backTo cpos (starEach [e, f] X.env) = [(false, eval e X.env), (false, eval f X.env)]


noncomputable def IsD (H : Hp) (a : Addr) : Prop := (∃ kvs, Rd H a (.dK kvs)) ∨ ∃ kvs, Rd H a (.dT kvs)
theorem isD_at {X : Cx} {pins : List (Addr × Obj)} {σ : St} {H : Hp} {s : Shared} {a : Addr} (I : Inv X pins σ H s) (d : IsD H a) :
    s.TypeIs (.ref a) "dict" ∧ (∀ b, Value.ref a = .ref b → ∃ ob, s.heap.get? b = some ob ∧ ob.dict = none) ∧ (a == sysModules) = false := by
  rcases d with ⟨kvs, e⟩ | ⟨kvs, e⟩
  · obtain ⟨_, hd, vs, _, dd⟩ := dk_rd I.hok e
    refine ⟨dd.typeIs, fun b q => ?_, hd⟩
    cases q
    obtain ⟨ob, _, _, h1, h2, _⟩ := dd
    exact ⟨ob, h1, h2.2.1⟩
  · obtain ⟨_, hd, xs, _, dd⟩ := dt_rd I.hok e
    refine ⟨dd.typeIs, fun b q => ?_, hd⟩
    cases q
    obtain ⟨ob, _, _, h1, h2, _⟩ := dd
    exact ⟨ob, h1, h2.2.1⟩

section
variable {X : Cx} {pins : List (Addr × Obj)} {σ : St} {H : Hp} {s : Shared} {a : Addr} {y d : V} {u r : Value} {o : Option V} {A : Around} {E : Value → Shared → Prop}

theorem d_get2 {Q : Value → Shared → Prop} (hu : A.units + 1 < cLine) (I : Inv X pins σ H s) (g : DGet H a y o) (ry : RelV y u) (rd : RelV d r) (h : ∀ w' s', Inv X pins σ H s' → RelV (o.getD d) w' → Q w' s') :
    wpAny (model X.prog X.w) A (call (.builtin "dict.get") [.ref a, u, r]) Q E s := by
  rcases g with ⟨kvs, k, e, ey, l⟩ | ⟨kvs, k, b, e, ey, eb, l⟩
  · subst ey
    obtain ⟨z, hd, vs, rel, dd⟩ := dk_rd I.hok e
    refine call_meetsIn PySem.F.slot_dict_get dd.typeIs PySem.F.entry_dict_get (PySem.F.args_dict_get_3 _ _ _) (meets_dict_get_default (mixKind X.prog X.w) a (kV_is ry) hd r) ⟨_, dd.mapOf, h _ _ (I.tok _) ?_⟩
    rw [l]
    exact (rel.val k).getD rd
  · subst ey
    cases (show u = Value.ref b from ry)
    obtain ⟨z, hd, xs, rel, dd⟩ := dt_rd I.hok e
    refine call_meetsIn PySem.F.slot_dict_get dd.typeIs PySem.F.entry_dict_get (PySem.F.args_dict_get_3 _ _ _) (meetsH_dict_get_default (tupleKind (mixKind X.prog X.w)) a b hd r) ⟨tupleKind_room_in1 hu, k, xs, key_of I.hok eb, dd, h _ _ (I.tok _) ?_⟩
    rw [l]
    exact (rel.val k).getD rd
end

noncomputable def tDGet2 (td ty tx : TE) : TE := fun σ H Q => td σ H fun x H1 => ∃ a, x = .ref a ∧ IsD H1 a ∧ ty σ H1 fun y H2 => tx σ H2 fun z H3 => ∃ o, DGet H3 a y o ∧ Q (o.getD z) H3

section
variable {X : Cx} {o e f : Expr} {apos cpos : Pos} {td ty tx : TE}
theorem pe_dget2 (hu : X.A.units + 1 < cLine) (ho : PE X o td) (he : PE X e ty) (hf : PE X f tx) (m : M2 X o "get" apos e f cpos) : PE X (.Call (.Attribute o "get" apos) [e, f] [] cpos) (tDGet2 td ty tx) := by
  intro pins s σ H Q I h
  refine wpAny_Call_method m.base m.few m.line PySem.F.plainAttrs_dict PySem.F.slot_dict_get PySem.F.type_dict_get (thn (ho pins s σ H _ I h) fun u s1 ⟨x, H1, I1, rx, a, ex, d, q1⟩ => ?_)
  subst ex
  obtain rfl : u = Value.ref a := rx
  obtain ⟨t1, t2, _⟩ := isD_at I1 d
  refine ⟨t1, t2, ?_⟩
  rw [m.trees]
  refine Calls.callWith_builtin rfl (Calls.evalArgs_plain (Calls.spliced_cons (thn (he pins s1 σ H1 _ I1 q1) fun iv s2 ⟨y, H2, I2, ry, q2⟩ =>
    Calls.spliced_cons (thn (hf pins s2 σ H2 _ I2 q2) fun fv s3 ⟨z, H3, I3, rz, ov, g, q3⟩ => Calls.spliced_nil ?_))))
  exact d_get2 hu I3 g ry rz fun w' s4 I4 rw' => ⟨_, H3, I4, rw', q3⟩
end


section
variable {X : Cx} {pins : List (Addr × Obj)} {σ : St} {H : Hp} {s : Shared} {a : Addr} {kvs : List (Key × V)} {A : Around} {E : Value → Shared → Prop}
end


section
variable {X : Cx} {pins : List (Addr × Obj)} {σ : St} {H : Hp} {s : Shared} {a : Addr} {y : V} {u : Value} {A : Around} {E : Value → Shared → Prop}

end
end L2


set_option Elab.async false
set_option linter.all false
set_option maxRecDepth 100000
set_option maxHeartbeats 1000000
namespace L2
open PySem PySem.Spec PySem.Calls PyProof.Rows PySem.W
theorem bb_tuple : bootBuiltins "tuple" = some (.type "tuple") := by decide +kernel

section
variable {X : Cx} {k j : Nat} {x : Str} {p pos : Pos} {e : Expr} {es : List Expr} {tf : TE} {t : TA}

end

inductive EntK (w : World) : List DictEntry → List (Key × V) → Prop
  | nil : EntK w [] []
  | cons {e : DictEntry} {k : Key} {v : V} {es : List DictEntry} {kvs : List (Key × V)} : e.hash = keyH w k → keyIs k e.key = true → RelV v e.val → EntK w es kvs → EntK w (e :: es) ((k, v) :: kvs)
theorem EntK.keys {P : Program} {w : World} {es : List DictEntry} {kvs : List (Key × V)} (h : EntK w es kvs) : ∀ e ∈ es, ∃ k, (mixKind P w).is k e.key = true ∧ e.hash = (mixKind P w).hash k := by
  induction h with
  | nil => intro e he; cases he
  | cons h1 h2 h3 h4 ih =>
    intro e he
    rcases List.mem_cons.mp he with rfl | he
    · exact ⟨_, h2, h1⟩
    · exact ih e he
theorem EntK.pairs {P : Program} {w : World} {es : List DictEntry} {kvs : List (Key × V)} (h : EntK w es kvs) : ∃ vs : List (Key × Value), PySem.Pairs (mixKind P w) es vs ∧ KV kvs vs ∧ vs.map (·.1) = kvs.map (·.1) := by
  induction h with
  | nil => exact ⟨[], .nil, .nil, rfl⟩
  | @cons e k v es kvs h1 h2 h3 h4 ih =>
    obtain ⟨vs, i1, i2, i3⟩ := ih
    exact ⟨(k, e.val) :: vs, .cons h2 rfl i1, .cons ⟨rfl, h3⟩ i2, by rw [List.map_cons, List.map_cons, i3]⟩
noncomputable def KDict (w : World) (K : Frag) (a : Addr) (kvs : List (Key × V)) : Prop := (a == sysModules) = false ∧ ∃ o es ep, K.lookup a = some o ∧ o.ExactDict ∧ o.data = .dict es ep ∧ EntK w es.toList kvs ∧ (kvs.map (·.1)).Nodup
section
variable {X : Cx} {pins : List (Addr × Obj)} {σ : L2.St} {H : Hp} {s : Shared} {a : Addr} {kvs : List (Key × V)}
theorem KDict.at (I : Inv X pins σ H s) (h : KDict X.w X.K a kvs) : (a == sysModules) = false ∧ ∃ vs, KV kvs vs ∧ s.heap.DictOf (mixKind X.prog X.w) a vs := by
  obtain ⟨h0, o, es, ep, h1, h2, h3, h4, h5⟩ := h
  obtain ⟨vs, i1, i2, i3⟩ := h4.pairs (P := X.prog)
  exact ⟨h0, vs, i2, o, es, ep, I.kIn a o h1, h2, h3, fun e he => h4.keys (P := X.prog) e (by simpa using he), i1, by rw [i3]; exact h5⟩
end
section
variable {X : Cx} {x : Str} {p apos cpos : Pos} {e f : Expr} {ty tx' : TE} {kvs : List (Key × V)}

end

section
variable {X : Cx} {a : Expr} {ta : TE}
noncomputable def tTruK (K : Frag) (ta : TE) : TT := fun σ H Q => ta σ H fun x H' => ∃ k, TruV K x H' k ∧ Q k H'
theorem pt_truthK {K : Frag} (hK : X.K = K) (ha : PE X a ta) (he : ∀ whole, isTrue a X.env whole = (do let v ← whole; standAt a.pos; holding [v] (truthy v)) := by intro _; rfl) : PT X a (tTruK K ta) := by
  subst hK
  exact pt_truth ha he
end

section
variable {X : Cx}
noncomputable def rIsA (K : Frag) (n : String) : List V → Hp → VK → Prop := fun xs H Q => ∃ x t b, xs = [x, .ty n] ∧ TyOf K H x t ∧ PySem.W.kitOne K t (.type n) = some b ∧ Q (.bl b) H
theorem call_isAK {K : Frag} {n : String} (hK : X.K = K) : CallR X (.builtin "isinstance") (rIsA K n) := by
  subst hK
  intro pins s σ H xs us Q I r h
  obtain ⟨x, t, b, rfl, ty, e, q⟩ := h
  exact call_isinst pins s σ H _ us Q I r ⟨x, n, t, b, rfl, ty, e, q⟩

end

section
variable {X : Cx} {pins : List (Addr × Obj)} {σ : L2.St} {H : Hp} {s : Shared} {h' : Heap}

end
section
variable {X : Cx}
end
end L2
namespace L2
open PySem PySem.Spec PySem.Calls PyProof.Rows PySem.W
section
variable {X : Cx}
noncomputable def rIntB : List V → Hp → VK → Prop := fun xs H Q => ∃ k, xs = [.bl k] ∧ Q (.int (if k then 1 else 0)) H
theorem call_intB : CallR X (.type "int") rIntB := by
  intro pins s σ H xs us Q I r h
  exact call_int1 pins s σ H xs us Q I r (.inr h)
end
end L2
namespace L2
open PySem PySem.Spec PySem.Calls PyProof.Rows PySem.W
section
variable {X : Cx} {K : Frag} {o : Expr} {to : TE} {name : Str} {apos cpos : Pos} {T id : String} {r : V → List V → Hp → VK → Prop}
theorem pe_bm0K (hK : X.K = K) (pa : PlainAttrs T) (slot : Slot T name id) (hty : typeOf (.builtin id) = pure (.type "method_descriptor")) (hm : MtR X id r) (ho : PE X o to)
    (hbase : attributeBase o name X.env (eval o X.env) = eval o X.env := by rfl) (hline : (apos.endLine == cpos.line) = true := by rfl) : PE X (.Call (.Attribute o name apos) [] [] cpos) (tBM0 K T r to) := by
  subst hK
  exact pe_bm0 pa slot hty hm ho hbase hline
end
end L2
namespace HT
open PySem PySem.Spec PySem.Calls PyProof.Rows PySem.W
section
variable {prog : Program} {w : World} {A : Around} {E : Value → Shared → Prop} {s : Shared}
theorem getItem_tuple_whole {t sl : Addr} {items : Array Value} {vl vu : Value} {lo hi : Option Int} {Q : Value → Shared → Prop} (ht : IsTup s.heap t items) (hs : s.heap.IsSliceOf sl vl vu .none) (pl : IsPart vl lo) (pu : IsPart vu hi)
    (hw : sIx items.size 0 lo = 0 ∧ sIx items.size items.size hi = items.size) (h : Q (.ref t) s) : wpAny (model prog w) A (getItem (.ref t) (.ref sl)) Q E s := by
  obtain ⟨os, hos, hcs, hds⟩ := id hs
  have hTs : s.TypeIs (.ref sl) "slice" := ⟨os, hos, hcs⟩
  unfold getItem
  try with_reducible refine wpAny_holding ?_
  first | refine wpAny_bind (wpAny_pure ?_) | skip
  refine wpAny_bind (wpAny_sequenceKey ht.typeIs (by decide) ?_)
  refine wpAny_bind (wpAny_callSpecial?_slot (name := Str.ofString "__getitem__") ht.typeIs PyProof.Rows.slot_tuple_getitem
    (wpAny_call_entry PyProof.Rows.slot_tuple_getitem ht.typeIs entry_tuple_getitem ?_ (args_tuple_getitem _ _)))
  show wpAny _ _ (Builtin.Tuple.tupleItemsOf (.ref t) >>= _) _ _ s
  refine wpAny_bind (tupleItemsOf_ ht ?_)
  refine wpAny_bind (wpAny_typeOf hTs ?_)
  rw [if_pos (by decide)]
  refine wpAny_bind (sliceApplied_gen hs pl pu ?_)
  have hyes : (((sIx items.size 0 lo : Nat) : Int) == 0 && (1 : Int) == 1 && (sIx items.size items.size hi - sIx items.size 0 lo) == items.size) = true := by
    rw [hw.1, hw.2]
    simp
  show wpAny _ _ (if (((sIx items.size 0 lo : Nat) : Int) == 0 && (1 : Int) == 1 && (sIx items.size items.size hi - sIx items.size 0 lo) == items.size) = true then _ else _) _ _ s
  rw [if_pos hyes]
  unfold Builtin.Tuple.tupleIsExact
  refine wpAny_bind (wpAny_bind (wpAny_typeOf ht.typeIs (wpAny_pure ?_)))
  rw [if_pos (by decide)]
  exact wpAny_bind (wpAny_rule (wpAny_pure ⟨_, rfl, wpAny_pure h⟩))
end
end HT
namespace L2
open PySem PySem.Spec PySem.Calls PyProof.Rows PySem.W
section
variable {X : Cx}

end

end L2
namespace L2
open PySem PySem.Spec PySem.Calls PyProof.Rows PySem.W
end L2

set_option Elab.async false
set_option linter.all false
set_option maxRecDepth 100000
set_option maxHeartbeats 1000000
namespace L2
open PySem PySem.Spec PySem.Calls PyProof.Rows PySem.W

section
set_option autoImplicit true
set_option relaxedAutoImplicit true
end
end L2

set_option linter.all false
set_option autoImplicit false
namespace L2
open PySem PySem.Spec PySem.Calls PyProof.Rows PySem.W
section
variable {X : Cx} {pins : List (Addr × Obj)} {σ : St} {H : Hp} {s : Shared} {a b : Addr} {kvs more : List (Key × V)} {A : Around} {E : Value → Shared → Prop}

end
section
variable {X : Cx} {o e : Expr} {apos cpos : Pos} {td ty : TE}
end
end L2

set_option Elab.async false
set_option linter.all false
set_option maxRecDepth 100000
namespace L2
open PySem PySem.Spec PyProof.Rows
section
variable {X : Cx} {tg : Expr}

end
end L2


set_option Elab.async false
set_option linter.all false
set_option maxRecDepth 100000
set_option maxHeartbeats 1000000
namespace L2
open PySem PySem.Spec PyProof.Rows

section
variable {X : Cx} {elt iter : Expr} {x : Str} {px pos : Pos} {ifs : List Expr} {scope : Scope} {wi : TI} {tt : TT} {te : TE}
end
end L2

set_option Elab.async false
set_option linter.all false
set_option maxRecDepth 100000
namespace L2
open PySem PySem.Spec PyProof.Rows
section
variable {X : Cx}

noncomputable def rMulL : R2 := fun x y H Q => ∃ (a : Addr) (xs : List V) (n : Int), x = .ref a ∧ y = .int n ∧ H a = some (.lst xs) ∧ 0 ≤ n ∧ n ≤ 100000 ∧ xs.length * n.toNat ≤ 16777216 ∧ ∀ p, H p = none → Q (.ref p) (upd H p (.lst (List.replicate n.toNat xs).flatten))
theorem vals_app {xs ys : List V} {us vs : List Value} (h : Vals xs us) (k : Vals ys vs) : Vals (xs ++ ys) (us ++ vs) := by
  induction h with
  | nil => exact k
  | cons a _ ih => exact .cons a ih
theorem vals_rep {xs : List V} {us : List Value} (h : Vals xs us) : ∀ n, Vals (List.replicate n xs).flatten (List.replicate n us).flatten
  | 0 => .nil
  | n + 1 => by
    rw [List.replicate_succ, List.replicate_succ, List.flatten_cons, List.flatten_cons]
    exact vals_app h (vals_rep h n)
theorem rep_len {α : Type} (xs : List α) (n : Nat) : (List.replicate n xs).flatten.length = xs.length * n := by
  induction n with
  | zero => simp
  | succ n ih => rw [List.replicate_succ, List.flatten_cons, List.length_append, ih, Nat.mul_succ, Nat.add_comm]
theorem op_mulL : OpR X (binaryOp .Mult) rMulL := by
  intro pins s σ H x y v u Q I rx ry h
  obtain ⟨a, xs, n, rfl, rfl, ha, h0, h1, hz, q⟩ := h
  cases rx
  obtain ⟨t, rfl⟩ := ry
  obtain ⟨its, rv, p⟩ := lst_at I ha
  obtain ⟨⟨cls, dd, data, sl⟩, ho, hc, k, hd⟩ := id p
  simp only at hc hd
  subst hc hd
  have hlen := rv.length
  have hw : (List.foldl (fun x1 x2 => x1 ++ x2) #[] (List.replicate (if its.toArray.isEmpty = true then 0 else n.toNat) its.toArray)) = ((List.replicate n.toNat its).flatten).toArray := by
    rw [listMul_foldl]
    split
    · rename_i he
      have : its = [] := by simpa using he
      subst this
      simp
    · simp
  refine wpAny_binaryOp_repeat_ref (T := "list") (U := "int") (by decide) ⟨_, ho, rfl⟩ (fun s' => typeIs_int s' n t) noFill_list_mul F.fills_int_mul F.slot_int_rmul repeat_list F.slot_int_index.lookup
    (call_meets F.slot_int_rmul (typeIs_int s n t) F.entry_int_rmul (F.args_int_rmul_2 _ _) (lm_int_rmul_list_any n t a its.toArray k dd sl) ⟨ho, rfl, ⟨_, ho, rfl⟩,
      call_meets F.slot_list_mul ⟨_, ho, rfl⟩ F.entry_list_mul (F.args_list_mul_2 _ _) (lm_list_mul_any a its.toArray k dd sl n t ?_ ?_ ?_) ⟨ho, ?_⟩⟩)
  · show ¬ (!(decide (-(2 ^ 63 : Int) ≤ n) && decide (n < 2 ^ 63))) = true
    rw [decide_eq_true (by omega), decide_eq_true (by omega)]
    decide
  · have : its.toArray.size = xs.length := by simp [hlen]
    rw [this]
    omega
  · have : its.toArray.size = xs.length := by simp [hlen]
    rw [this]
    show ¬ decide (_ > sizeLine) = true
    rw [sizeLine_eq]
    simp
    omega
  · rw [hw]
    refine ⟨.ref s.heap.objs.size, _, I.laid (t' := s.toks) (o := .lst (List.replicate n.toNat xs).flatten) (fun b o e => Heap.get?_push_of_some _ e) (Nat.le_refl _) ⟨by rw [rep_len, sizeLine_eq]; omega, _, 0, vals_rep rv n.toNat, Heap.get?_push_size _ rfl⟩, rfl, q _ (I.hok.fresh (Nat.le_refl _))⟩

noncomputable def rIsB : R2 := fun x y H Q => ∃ c, y = .bl c ∧ ((∃ b, x = .bl b ∧ Q (.bl (b == c)) H))
noncomputable def rIsNotB : R2 := fun x y H Q => ∃ c, y = .bl c ∧ ((∃ b, x = .bl b ∧ Q (.bl (!(b == c))) H))
theorem same_bool (b c : Bool) : isSame (.bool b) (.bool c) = pure (b == c) := by cases b <;> cases c <;> rfl
theorem op_isB : OpR X (compareOp .Is) rIsB := by
  intro pins s σ H x y v u Q I rx ry h
  obtain ⟨c, rfl, b, rfl, q⟩ := h
  cases rx
  cases ry
  show wpAny _ _ (do let r ← isSame (.bool b) (.bool c); pure (Value.bool r)) _ _ s
  rw [same_bool]
  exact wpAny_bind (wpAny_pure (wpAny_pure (fin_bl I q rfl)))
theorem op_isnotB : OpR X (compareOp .IsNot) rIsNotB := by
  intro pins s σ H x y v u Q I rx ry h
  obtain ⟨c, rfl, b, rfl, q⟩ := h
  cases rx
  cases ry
  show wpAny _ _ (do let r ← isSame (.bool b) (.bool c); pure (Value.bool !r)) _ _ s
  rw [same_bool]
  exact wpAny_bind (wpAny_pure (wpAny_pure (fin_bl I q rfl)))

noncomputable def rAllB : List V → Hp → VK → Prop := fun xs H Q => ∃ (p : Addr) (bs : List Bool), xs = [.ref p] ∧ H p = some (.lst (bs.map V.bl)) ∧ Q (.bl (bs.all id)) H
theorem vals_bl : ∀ {bs : List Bool} {us : List Value}, Vals (bs.map V.bl) us → us = bs.map Value.bool
  | [], _, h => by cases h; rfl
  | b :: bs, _, h => by
    cases h with
    | cons a r =>
      cases a
      rw [vals_bl r]
      rfl
theorem call_allB (hc : X.calm = true) : CallR X (.builtin "all") rAllB := by
  intro pins s σ H xs us Q I r h
  obtain ⟨p, bs, rfl, hp, q⟩ := h
  obtain ⟨u, rfl, hu⟩ := vals1 r
  cases hu
  obtain ⟨its, rv, hl⟩ := lst_at I hp
  have e := vals_bl rv
  subst e
  have hlt : p < s.heap.objs.size := by
    obtain ⟨o, ho, _⟩ := hl
    exact Heap.lt_size ho
  refine call_all_walk (wpAny_pyIter_list hl ?_)
  refine ⟨s.heap.objs.size, _, _, _, _, _, fun i => bs.getD i false, rfl, Walks.list (A := X.A.in1) (I.ok.hd hc) _ p (Nat.ne_of_lt hlt) (bs.map Value.bool).toArray, ⟨⟨_, Heap.get?_push_size _ rfl, rfl, rfl⟩, ?_⟩, ?_, fun h' tk kp => ?_⟩
  · obtain ⟨o, ho, h1⟩ := hl
    exact ⟨o, Heap.get?_push_of_some _ ho, h1⟩
  · intro i v s' R E' hv hR
    have hv : (bs.map Value.bool)[i]? = some v := by simpa using hv
    rw [List.getElem?_map] at hv
    cases hb : bs[i]? with
    | none => rw [hb] at hv; cases hv
    | some b =>
      rw [hb] at hv
      cases hv
      have hR : R (bs.getD i false) s' := hR
      rw [List.getD_eq_getElem?_getD, hb] at hR
      exact wpAny_truthy_bool hR
  · have I1 : Inv X pins σ H { s with heap := h', toks := tk } := I.kept fun b o e => kp b o (by
      have := Heap.lt_size e
      intro z
      rw [List.mem_singleton.mp z] at this
      exact Nat.lt_irrefl _ this) (Heap.get?_push_of_some _ e)
    refine ⟨.bl (bs.all id), H, I1, ?_, q⟩
    show Value.bool _ = Value.bool _
    congr 1
    rw [show (bs.map Value.bool).toArray.size = bs.length by simp]
    rw [Bool.eq_iff_iff, List.all_eq_true, List.all_eq_true]
    constructor
    · intro h x hx
      obtain ⟨n, hn, rfl⟩ := List.mem_iff_getElem.mp hx
      have := h n (List.mem_range.mpr hn)
      rw [List.getD_eq_getElem?_getD, List.getElem?_eq_getElem hn] at this
      exact this
    · intro h n hn
      have hn := List.mem_range.mp hn
      rw [List.getD_eq_getElem?_getD, List.getElem?_eq_getElem hn]
      exact h _ (List.getElem_mem hn)
end
end L2
namespace L2
open PySem PySem.Spec PyProof.Rows
section
variable {X : Cx}

end
end L2

set_option Elab.async false
set_option linter.all false
set_option maxRecDepth 100000
namespace L2
open PySem PySem.Spec PyProof.Rows

theorem bb_all : bootBuiltins "all" = some (.builtin "all") := by decide +kernel
section
variable {X : Cx} {a b c : Expr} {ta tb tc : TE} {pos : Pos}
end
end L2

set_option Elab.async false
set_option linter.all false
set_option maxRecDepth 100000
namespace L2
open PySem PySem.Spec PyProof.Rows
section
variable {X : Cx}

end
end L2
namespace L2
open PySem PySem.Spec PyProof.Rows
noncomputable def IsRevT (h : Heap) (a l : Addr) (i : Int) : Prop := ∃ o, h.get? a = some o ∧ o.cls = .type "reversed" ∧ o.data = .fields #[.ref l, rawInt i]
section
variable {prog : Program} {w : World} {A : Around} {E : Value → Shared → Prop} {s : Shared}
theorem IsRevT.at {h h' : Heap} {a l : Addr} {i : Int} (x : IsRevT h a l i) (e : ∀ o, h.get? a = some o → h'.get? a = some o) : IsRevT h' a l i := let ⟨o, ho, r⟩ := x; ⟨o, e _ ho, r⟩
end
section
variable {X : Cx} {tg : Expr}

end
end L2

set_option Elab.async false
set_option linter.all false
set_option maxRecDepth 100000
namespace L2
open PySem PySem.Spec PyProof.Rows

section
variable {X : Cx}

variable {st : Stmt} {rest : List Stmt} {t u : TS}
end
end L2

set_option Elab.async false
set_option linter.all false
set_option maxRecDepth 100000
namespace L2
open PySem PySem.Spec PyProof.Rows
section
variable {X : Cx} {pos : Pos}

end

end L2

set_option Elab.async false
set_option linter.all false
set_option maxRecDepth 100000
namespace L2
open PySem PySem.Spec PyProof.Rows

theorem slicePick_rev (items : Array Value) : slicePick items none none (some (-1)) = items.toList.reverse.toArray := by
  have e : sliceBounds none none (some (-1)) items.size = ((items.size : Int) - 1, -1, -1) := by
    simp only [sliceBounds, Option.getD_some]
    rfl
  unfold slicePick
  rw [e]
  congr 1
  have hc : sliceRange ((items.size : Int) - 1) (-1) (-1) = (List.range items.size).map fun k => items.size - 1 - k := by
    unfold sliceRange
    simp only [show ¬ ((-1 : Int) > 0) by decide, if_false]
    have hn : (if (items.size : Int) - 1 > -1 then ((items.size : Int) - 1 - -1 - -1 - 1) / (- -1) else 0).toNat = items.size := by
      split
      · have : ((items.size : Int) - 1 - -1 - -1 - 1) / (- -1) = items.size := by
          rw [show (- -1 : Int) = 1 from rfl, Int.ediv_one]; omega
        rw [this]; simp
      · have : items.size = 0 := by omega
        rw [this]; rfl
    rw [hn]
    refine List.map_congr_left fun k hk => ?_
    have := List.mem_range.mp hk
    omega
  rw [hc]
  clear hc e
  obtain ⟨xs⟩ := items
  simp only [List.size_toArray, List.getElem?_toArray]
  rw [List.filterMap_map]
  have : ∀ (n : Nat) (hn : n ≤ xs.length), (List.range n).filterMap (fun k => xs[xs.length - 1 - k]?) = (xs.drop (xs.length - n)).reverse := by
    intro n
    induction n with
    | zero => intro _; simp
    | succ n ih =>
      intro hn
      rw [List.range_succ, List.filterMap_append, ih (by omega)]
      have hlt : xs.length - 1 - n < xs.length := by omega
      have hd : xs.drop (xs.length - (n + 1)) = xs[xs.length - 1 - n] :: xs.drop (xs.length - n) := by
        rw [show xs.length - (n + 1) = xs.length - 1 - n by omega, List.drop_eq_getElem_cons hlt, show xs.length - 1 - n + 1 = xs.length - n by omega]
      rw [hd, List.reverse_cons]
      congr 1
      simp [List.getElem?_eq_getElem hlt]
  have h := this xs.length (Nat.le_refl _)
  simp only [Nat.sub_self, List.drop_zero] at h
  exact h
section
variable {X : Cx} {e : Expr} {te : TE} {pos p2 : Pos} {K : PySem.W.Frag}
noncomputable def tRevS (K : PySem.W.Frag) (te : TE) : TE := fun σ H Q => te σ H fun x H1 => ∃ a xs, x = .ref a ∧ SqL K H1 a xs ∧ ∀ p, H1 p = none → Q (.ref p) (upd H1 p (.lst xs.reverse))
theorem vals_rev {xs : List V} {us : List Value} (h : Vals xs us) : Vals xs.reverse us.reverse := by
  induction h with
  | nil => exact .nil
  | cons r _ ih =>
    rw [List.reverse_cons, List.reverse_cons]
    exact ih.append (.cons r .nil)
theorem pe_revS {st : Expr} (he : PE X e te) (hst : PO X (some st) (fun _ H Q => Q (some (-1)) H)) : PE X (.Subscript e (.Slice none none (some st) p2) pos) (tRevS X.K te) := by
  intro pins s σ H Q I h
  refine Subscript_ (thn (he pins s σ H _ I h) fun v s1 ⟨x, H1, I1, r1, q1⟩ => ?_)
  obtain ⟨a, xs, rfl, hx, q⟩ := q1
  refine wpAny_Slice ?_
  rw [evalPart_none]
  refine wpAny_pure (wpAny_pure (thn (hst pins s1 σ H1 (fun o H' => o = some (-1) ∧ H' = H1) I1 ⟨rfl, rfl⟩) fun vs s3 ⟨o, H3, I3, ps, hq⟩ => ?_))
  obtain ⟨rfl, rfl⟩ := hq
  have I4 : Inv X pins σ H3 { s3 with heap := s3.heap.push { cls := .type "slice", data := .fields #[.none, .none, vs] } } := I3.kept (t' := s3.toks) fun b ob q => Heap.get?_push_of_some _ q
  cases r1
  obtain ⟨its, r, ht, hz⟩ := I4.list hx
  have hlen := r.length
  show wpAny (model X.prog X.w) X.A (subscriptTail e (.Slice none none (some st) p2) (.ref a) (.ref s3.heap.objs.size)) (EP X pins σ Q) X.xe { s3 with heap := s3.heap.push { cls := .type "slice", data := .fields #[.none, .none, vs] } }
  refine tail_any (ops := [.ref a, .ref s3.heap.objs.size]) ht.isList.typeIs PySem.F.slot_list_getitem.lookup ?_ (by with_unfolding_all rfl)
  refine wpAny_getItem_list_slice ht.isList (Heap.IsSliceOf.new ..) .none .none ps (by simp) ?_ (by rw [List.size_toArray] <;> omega)
  rw [slicePick_rev]
  refine ⟨.ref _, _, I4.laid (t' := s3.toks) (o := .lst xs.reverse) (fun b ob q => Heap.get?_push_of_some _ q) (Nat.le_refl _) ?_, rfl, q _ (I4.hok.fresh (Nat.le_refl _))⟩
  exact ⟨by rw [List.length_reverse]; exact hz, _, 0, vals_rev r, Heap.get?_push_size _ rfl⟩
end
end L2

set_option Elab.async false
set_option linter.all false
set_option maxRecDepth 100000
namespace L3
open PySem L2 PySem.Spec PyProof.Rows

inductive D where
  | non | bl (b : Bool) | int (i : Int) | str (t : List Nat)
  | tp (xs : List D) | ls (xs : List D) | kt (xs : List D) | kl (xs : List D)
  | dc (ks : List Key) (xs : List D) | ob (c : Nat) (fs : List Str) (xs : List D) | xo (c : Nat) (fs : List Str) (xs : List D)
inductive O where
  | fr (d : D) | tp (xs : List O) | fl (xs : List D) | ol (xs : List O)
  | fd (ks : List Key) (xs : List D) | od (ks : List Key) (xs : List O) | oo (c : Nat) (fs : List Str) (xs : List O)
mutual
noncomputable def O.fz : O → D
  | .fr d => d
  | .tp xs => .tp (fzs xs)
  | .fl xs => .ls xs
  | .ol xs => .ls (fzs xs)
  | .fd ks xs => .dc ks xs
  | .od ks xs => .dc ks (fzs xs)
  | .oo c fs xs => .ob c fs (fzs xs)
noncomputable def fzs : List O → List D
  | [] => []
  | o :: os => o.fz :: fzs os
end
theorem fzs_map : ∀ os : List O, fzs os = os.map O.fz
  | [] => by simp only [fzs, List.map_nil]
  | o :: os => by simp only [fzs, List.map_cons, fzs_map os]
theorem fzs_len (os : List O) : (fzs os).length = os.length := by rw [fzs_map, List.length_map]
noncomputable abbrev Sl := List (Option O)

structure Exn where
  c : Nat
  fs : List Str
  ds : List D
inductive Rv where
  | ok (o : O) (s : Sl)
  | bw (o : O) (s : Sl)
  | ex (x : Exn) (s : Sl)
  | no
inductive Rl where
  | ok (os : List O) (s : Sl)
  | ex (x : Exn) (s : Sl)
  | no
inductive Fw where
  | nx (s : Sl)
  | rt (o : O) (s : Sl)
  | bk (s : Sl)
  | ct (s : Sl)
  | ex (x : Exn) (s : Sl)
  | no
inductive Fr where
  | ok (o : O) (os : List O)
  | ex (x : Exn) (os : List O)
  | no
noncomputable abbrev Fn := List O → Fr

inductive BO where
  | add | sub | mul | fdiv | mod | pow | shr
  deriving DecidableEq
inductive CO where
  | eq | ne | lt | le | gt | ge | isin | notin | is | isnot
  deriving DecidableEq
noncomputable def fb (b : Bool) : O := .fr (.bl b)
noncomputable def fi (i : Int) : O := .fr (.int i)

noncomputable def vL : O → Option (List D)
  | .fr (.ls xs) => some xs
  | .fl xs => some xs
  | _ => none

noncomputable def vK : O → Option (List D)
  | .fr (.ls xs) => some xs
  | .fr (.kl xs) => some xs
  | .fl xs => some xs
  | _ => none
noncomputable instance decMulOk (i j : Int) : Decidable (IntMulOk i j) := by unfold IntMulOk; infer_instance
noncomputable def intOp : BO → Int → Int → Option D
  | .add, i, j => some (.int (i + j))
  | .sub, i, j => some (.int (i - j))
  | .mul, i, j => if IntMulOk i j then some (.int (i * j)) else none
  | .fdiv, i, j => if 0 < j ∧ j < 1073741824 then some (.int (i / j)) else none
  | .mod, i, j => if 0 < j then some (.int (i % j)) else none
  | .pow, i, j => if 0 ≤ j ∧ j ≤ 1000000 ∧ i.natAbs < 2 ^ 64 then some (.int (i ^ j.toNat)) else none
  | .shr, i, j => if 0 ≤ j then some (.int (i / 2 ^ j.toNat)) else none
noncomputable def binO (op : BO) (x y : O) : Option O :=
  match x.fz, y.fz with
  | .int i, .int j => (intOp op i j).map .fr
  | .str a, .str b => if op = .add ∧ a.length + b.length ≤ 16777216 then some (.fr (.str (a ++ b))) else none
  | .str a, .int n => if op = .mul ∧ 0 ≤ n ∧ n ≤ 100000 ∧ a.length * n.toNat ≤ 16777216 then some (.fr (.str (List.replicate n.toNat a).flatten)) else none
  | .tp a, .tp b => match x, y with
    | .fr _, .fr _ => if op = .add ∧ a.length + b.length ≤ 1000000 then some (.fr (.tp (a ++ b))) else none
    | _, _ => none
  | .ls _, .ls _ => match vL x, vL y with
    | some a, some b => if op = .add ∧ a.length + b.length ≤ 16777216 then some (.fl (a ++ b)) else none
    | _, _ => none
  | .ls _, .int n => match vL x with
    | some a => if op = .mul ∧ 0 ≤ n ∧ n ≤ 100000 ∧ a.length * n.toNat ≤ 16777216 then some (.fl (List.replicate n.toNat a).flatten) else none
    | _ => none
  | _, _ => none
noncomputable def negO (x : O) : Option O := match x with
  | .fr (.int i) => some (fi (-i))
  | _ => none
mutual
noncomputable def D.dat : D → Option Dat
  | .non => some (.fl .non)
  | .bl b => some (.fl (.bl b))
  | .int i => some (.fl (.int i))
  | .str t => some (.fl (.str (S t)))
  | .tp xs => (dats xs).map .tp
  | .ls xs => (dats xs).map .ls
  | _ => none
noncomputable def dats : List D → Option (List Dat)
  | [] => some []
  | d :: ds => match d.dat, dats ds with
    | some x, some xs => some (x :: xs)
    | _, _ => none
end
noncomputable def D.sc : D → Option V
  | .non => some .non
  | .bl b => some (.bl b)
  | .int i => some (.int i)
  | .str t => some (.str (S t))
  | _ => none
noncomputable def scs : List D → Option (List V)
  | [] => some []
  | d :: ds => match d.sc, scs ds with
    | some x, some xs => some (x :: xs)
    | _, _ => none

noncomputable def eqDD (a b : D) : Option Bool :=
  match a.sc, b.sc with
  | some x, some y => if scal x y = true then some (decide (x = y)) else none
  | none, none => match a.dat, b.dat with
    | some d, some e => if depD d ≤ 50 then some (eqD d e) else none
    | _, _ => none
  | _, _ => none
noncomputable def itemsD : D → Option (List D)
  | .tp xs => some xs
  | .ls xs => some xs
  | .kt xs => some xs
  | .kl xs => some xs
  | _ => none
noncomputable def occs (l y : List Nat) : List Nat := Builtin.Str.occurrences (S l) (S y) 0 (S l).length 1
noncomputable def inDD (a b : D) : Option Bool :=
  match a, b with
  | .str [c], .str l => some (decide (c ∈ l))
  | .str y, .str l => some (!(occs l y).isEmpty)
  | a, b => match a.sc, itemsD b with
    | some x, some ys => match scs ys with
      | some vs => some (inV x vs)
      | none => none
    | _, _ => none
noncomputable def isDD (a b : D) : Option Bool :=
  match b with
  | .non => match a with
    | .non => some true
    | _ => some false
  | .bl c => match a with
    | .bl b => some (b == c)
    | _ => none
  | _ => none
noncomputable def cmpO (op : CO) (x y : O) : Option Bool :=
  match op with
  | .eq => eqDD x.fz y.fz
  | .ne => (eqDD x.fz y.fz).map (!·)
  | .isin => inDD x.fz y.fz
  | .notin => (inDD x.fz y.fz).map (!·)
  | .is => isDD x.fz y.fz
  | .isnot => (isDD x.fz y.fz).map (!·)
  | .lt => match x.fz, y.fz with
    | .int i, .int j => some (decide (i < j))
    | _, _ => none
  | .le => match x.fz, y.fz with
    | .int i, .int j => some (decide (i ≤ j))
    | _, _ => none
  | .gt => match x.fz, y.fz with
    | .int i, .int j => some (decide (j < i))
    | _, _ => none
  | .ge => match x.fz, y.fz with
    | .int i, .int j => some (decide (j ≤ i))
    | _, _ => none
noncomputable def ixO (x : O) (y : O) : Option O :=
  match y with
  | .fr (.int i) => match x with
    | .fr (.tp xs) => (atI xs i).map .fr
    | .fr (.ls xs) => (atI xs i).map .fr
    | .fr (.kt xs) => (atI xs i).map .fr
    | .fr (.kl xs) => (atI xs i).map .fr
    | .fr (.str t) => (atI t i).map fun c => .fr (.str [c])
    | .fl xs => (atI xs i).map .fr
    | .ol xs => atI xs i
    | .tp xs => atI xs i
    | _ => none
  | .fr (.str k) => match x with
    | .fr (.dc ks xs) => (((ks.zip xs).find? fun kv => decide (kv.1 = .inr (S k))).map (·.2)).map .fr
    | .fd ks xs => (((ks.zip xs).find? fun kv => decide (kv.1 = .inr (S k))).map (·.2)).map .fr
    | _ => none
  | _ => none
noncomputable def cutL {α : Type} (xs : List α) (lo hi : Option Int) : List α := (xs.drop (HT.sIx xs.length 0 lo)).take (HT.sIx xs.length xs.length hi - HT.sIx xs.length 0 lo)
noncomputable def slO (x : O) (lo hi : Option Int) : Option O :=
  match x with
  | .fr (.str t) => some (.fr (.str (cutL t lo hi)))
  | .fr (.tp xs) => some (.fr (.tp (cutL xs lo hi)))
  | .fr (.ls xs) => some (.fl (cutL xs lo hi))
  | .fr (.kl xs) => some (.fl (cutL xs lo hi))
  | .fl xs => some (.fl (cutL xs lo hi))
  | _ => none
noncomputable def revO (x : O) : Option O := (vK x).map fun xs => .fl xs.reverse
noncomputable def truD : D → Option Bool
  | .non => some false
  | .bl b => some b
  | .int i => some (i != 0)
  | .str t => some (!t.isEmpty)
  | .tp xs => some (!xs.isEmpty)
  | .ls xs => some (!xs.isEmpty)
  | .kt xs => some (!xs.isEmpty)
  | .kl xs => some (!xs.isEmpty)
  | .dc ks _ => some (!ks.isEmpty)
  | _ => none

inductive B1 where
  | len | int | str | list | tuple | all
  deriving DecidableEq
inductive B2 where
  | max | min
  deriving DecidableEq
noncomputable def bls : List D → Option (List Bool)
  | [] => some []
  | .bl b :: ds => (bls ds).map (b :: ·)
  | _ => none
noncomputable def b1O (b : B1) (x : O) : Option O :=
  match b with
  | .len => match x.fz with
    | .str t => some (fi t.length)
    | .tp xs => some (fi xs.length)
    | .ls xs => some (fi xs.length)
    | .kt xs => some (fi xs.length)
    | .kl xs => some (fi xs.length)
    | _ => none
  | .int => match x.fz with
    | .bl b => some (fi (if b then 1 else 0))
    | .str [c, d] => if isFig c = true ∧ isFig d = true then some (fi (((c - 48) * 10 + (d - 48) : Nat) : Int)) else none
    | _ => none
  | .str => match x.fz with
    | .int i => if 0 ≤ i ∧ i < 100 then some (.fr (.str (dg i.toNat))) else none
    | _ => none
  | .list => match vK x with
    | some xs => some (.fl xs)
    | none => match x.fz with
      | .str t => if t.length ≤ 1000000 then some (.fl (t.map fun c => .str [c])) else none
      | _ => none
  | .tuple => match vK x with
    | some xs => some (.fr (.tp xs))
    | none => none
  | .all => match x.fz with
    | .ls xs => (bls xs).map fun bs => fb (bs.all id)
    | _ => none
noncomputable def b2O (b : B2) (x y : O) : Option O :=
  match x.fz, y.fz with
  | .int i, .int j => match b with
    | .max => some (fi (if j > i then j else i))
    | .min => some (fi (if j < i then j else i))
  | _, _ => none

inductive TyK where
  | str | int | bool | list | tuple | dict | cls (c : Nat) (x : Str)
  deriving DecidableEq
noncomputable def tyD : D → Option String
  | .non => some "NoneType"
  | .bl _ => some "bool"
  | .int _ => some "int"
  | .str _ => some "str"
  | .tp _ => some "tuple"
  | .ls _ => some "list"
  | .dc _ _ => some "dict"
  | _ => none
noncomputable def isiO (x : O) (k : TyK) : Option Bool :=
  match tyD x.fz, k with
  | some n, .str => some (n == "str")
  | some n, .int => some (n == "int" || n == "bool")
  | some n, .bool => some (n == "bool")
  | some n, .list => some (n == "list")
  | some n, .tuple => some (n == "tuple")
  | some n, .dict => some (n == "dict")
  | _, _ => none

noncomputable def txts : List D → Option (List (List Nat))
  | [] => some []
  | .str t :: ds => (txts ds).map (t :: ·)
  | _ => none
noncomputable def getO : O → List Nat → Option O
  | o, [] => some o
  | .ol xs, j :: st => match xs[j]? with
    | some o => getO o st
    | none => none
  | .tp xs, j :: st => match xs[j]? with
    | some o => getO o st
    | none => none
  | .oo _ _ xs, j :: st => match xs[j]? with
    | some o => getO o st
    | none => none
  | _, _ :: _ => none
noncomputable def setO : O → List Nat → O → O
  | _, [], n => n
  | .ol xs, j :: st, n => .ol (match xs[j]? with
    | some o => xs.set j (setO o st n)
    | none => xs)
  | .tp xs, j :: st, n => .tp (match xs[j]? with
    | some o => xs.set j (setO o st n)
    | none => xs)
  | .oo c fs xs, j :: st, n => .oo c fs (match xs[j]? with
    | some o => xs.set j (setO o st n)
    | none => xs)
  | o, _ :: _, _ => o

inductive MU where
  | append | extend | pop | clear
  deriving DecidableEq

noncomputable def muO (m : MU) (x : O) (as : List O) : Option (O × O) :=
  match m, x, as with
  | .append, .fl xs, [y] => if xs.length < 16777216 then some (.fl (xs ++ [y.fz]), .fr .non) else none
  | .append, .ol xs, [y] => if xs.length < 16777216 then some (.ol (xs ++ [y]), .fr .non) else none
  | .extend, .fl xs, [y] => match vL y with
    | some ys => if xs.length + ys.length ≤ 16777216 then some (.fl (xs ++ ys), .fr .non) else none
    | none => none
  | .pop, .fl xs, [] => match xs[xs.length - 1]? with
    | some d => some (.fl xs.dropLast, .fr d)
    | none => none
  | .pop, .ol xs, [] => match xs[xs.length - 1]? with
    | some d => some (.ol xs.dropLast, d)
    | none => none
  | .clear, .fl _, [] => some (.fl [], .fr .non)
  | .clear, .ol _, [] => some (.ol [], .fr .non)
  | _, _, _ => none
end L3

set_option Elab.async false
set_option linter.all false
set_option maxRecDepth 100000
namespace L3
open PySem L2 PySem.Spec PyProof.Rows

structure Wd where
  K : PySem.W.Frag
  cl : Nat → Addr
variable {W : Wd}
mutual
noncomputable def IsV (W : Wd) (F : Hp) : D → V → Prop
  | .non, v => v = .non
  | .bl b, v => v = .bl b
  | .int i, v => v = .int i
  | .str t, v => v = .str (S t) ∧ t.length ≤ 16777216
  | .tp ds, v => ∃ p vs, v = .ref p ∧ F p = some (.tup vs) ∧ IsVs W F ds vs
  | .ls ds, v => ∃ p vs, v = .ref p ∧ F p = some (.lst vs) ∧ IsVs W F ds vs ∧ ds.length ≤ 16777216
  | .kt ds, v => ∃ p vs, v = .ref p ∧ SqT W.K F p vs ∧ IsVs W F ds vs
  | .kl ds, v => ∃ p vs, v = .ref p ∧ SqL W.K F p vs ∧ IsVs W F ds vs ∧ ds.length ≤ 16777216
  | .dc ks ds, v => ∃ p kvs, v = .ref p ∧ F p = some (.dK kvs) ∧ kvs.map (·.1) = ks ∧ IsVs W F ds (kvs.map (·.2)) ∧ ds.length ≤ 16777216
  | .ob c fs ds, v => ∃ p dx kvs, v = .ref p ∧ F p = some (.ins (W.cl c) dx kvs) ∧ F dx = some (.own p) ∧ kvs.map (·.1) = fs ∧ IsVs W F ds (kvs.map (·.2))
  | .xo c fs ds, v => ∃ p kvs, v = .ref p ∧ Got W.K F p (W.cl c) kvs ∧ kvs.map (·.1) = fs ∧ IsVs W F ds (kvs.map (·.2))
noncomputable def IsVs (W : Wd) (F : Hp) : List D → List V → Prop
  | [], vs => vs = []
  | d :: ds, vs => ∃ v r, vs = v :: r ∧ IsV W F d v ∧ IsVs W F ds r
end
theorem _root_.L2.Got.mono' {K : PySem.W.Frag} {H H' : Hp} (g : Same H H') {a C : Addr} {fs : List (Str × V)} (h : Got K H a C fs) : Got K H' a C fs := by
  obtain ⟨cl, d, ⟨o, h1, h2⟩, h3⟩ := h
  exact ⟨cl, d, ⟨o, g _ _ h1, h2⟩, g _ _ h3⟩
theorem _root_.L2.SqL.mono' {K : PySem.W.Frag} {H H' : Hp} (g : Same H H') {a : Addr} {xs : List V} (h : SqL K H a xs) : SqL K H' a xs := by
  rcases h with (h | ⟨o, h⟩) | h
  · exact .inl (.inl (g _ _ h))
  · exact .inl (.inr ⟨o, g _ _ h⟩)
  · exact .inr h
theorem _root_.L2.SqT.mono' {K : PySem.W.Frag} {H H' : Hp} (g : Same H H') {a : Addr} {xs : List V} (h : SqT K H a xs) : SqT K H' a xs := by
  rcases h with (h | ⟨o, h⟩) | h
  · exact .inl (.inl (g _ _ h))
  · exact .inl (.inr ⟨o, g _ _ h⟩)
  · exact .inr h
mutual
theorem IsV.mono {F F' : Hp} (g : Same F F') : ∀ {d : D} {v : V}, IsV W F d v → IsV W F' d v
  | .non, _, h => by simp only [IsV] at h ⊢; exact h
  | .bl _, _, h => by simp only [IsV] at h ⊢; exact h
  | .int _, _, h => by simp only [IsV] at h ⊢; exact h
  | .str _, _, h => by simp only [IsV] at h ⊢; exact h
  | .tp ds, _, h => by
    simp only [IsV] at h ⊢
    obtain ⟨p, vs, e, h1, h2⟩ := h
    exact ⟨p, vs, e, g _ _ h1, IsVs.mono g h2⟩
  | .ls ds, _, h => by
    simp only [IsV] at h ⊢
    obtain ⟨p, vs, e, h1, h2, h3⟩ := h
    exact ⟨p, vs, e, g _ _ h1, IsVs.mono g h2, h3⟩
  | .kt ds, _, h => by
    simp only [IsV] at h ⊢
    obtain ⟨p, vs, e, h1, h2⟩ := h
    exact ⟨p, vs, e, h1.mono' g, IsVs.mono g h2⟩
  | .kl ds, _, h => by
    simp only [IsV] at h ⊢
    obtain ⟨p, vs, e, h1, h2, h3⟩ := h
    exact ⟨p, vs, e, h1.mono' g, IsVs.mono g h2, h3⟩
  | .dc ks ds, _, h => by
    simp only [IsV] at h ⊢
    obtain ⟨p, vs, e, h1, h2, h3, h4⟩ := h
    exact ⟨p, vs, e, g _ _ h1, h2, IsVs.mono g h3, h4⟩
  | .ob c fs ds, _, h => by
    simp only [IsV] at h ⊢
    obtain ⟨p, dx, vs, e, h1, h2, h3, h4⟩ := h
    exact ⟨p, dx, vs, e, g _ _ h1, g _ _ h2, h3, IsVs.mono g h4⟩
  | .xo c fs ds, _, h => by
    simp only [IsV] at h ⊢
    obtain ⟨p, vs, e, h1, h2, h3⟩ := h
    exact ⟨p, vs, e, h1.mono' g, h2, IsVs.mono g h3⟩
theorem IsVs.mono {F F' : Hp} (g : Same F F') : ∀ {ds : List D} {vs : List V}, IsVs W F ds vs → IsVs W F' ds vs
  | [], _, h => by simp only [IsVs] at h ⊢; exact h
  | d :: ds, _, h => by
    simp only [IsVs] at h ⊢
    obtain ⟨v, r, e, h1, h2⟩ := h
    exact ⟨v, r, e, IsV.mono g h1, IsVs.mono g h2⟩
end
theorem IsVs.len {F : Hp} : ∀ {ds : List D} {vs : List V}, IsVs W F ds vs → vs.length = ds.length
  | [], _, h => by simp only [IsVs] at h; rw [h]; rfl
  | d :: ds, _, h => by
    simp only [IsVs] at h
    obtain ⟨v, r, e, _, h2⟩ := h
    rw [e, List.length_cons, List.length_cons, h2.len]
theorem IsVs.app {F : Hp} : ∀ {ds es : List D} {vs us : List V}, IsVs W F ds vs → IsVs W F es us → IsVs W F (ds ++ es) (vs ++ us)
  | [], _, _, _, h, k => by simp only [IsVs] at h; rw [h]; exact k
  | d :: ds, _, _, _, h, k => by
    simp only [IsVs] at h
    obtain ⟨v, r, rfl, h1, h2⟩ := h
    simp only [List.cons_append, IsVs]
    exact ⟨_, _, rfl, h1, h2.app k⟩
theorem IsVs.get {F : Hp} : ∀ {ds : List D} {vs : List V} {j : Nat} {d : D}, IsVs W F ds vs → ds[j]? = some d → ∃ v, vs[j]? = some v ∧ IsV W F d v
  | [], _, _, _, _, e => by simp at e
  | d :: ds, _, 0, _, h, e => by
    simp only [IsVs] at h
    obtain ⟨v, r, rfl, h1, _⟩ := h
    simp at e; subst e
    exact ⟨v, rfl, h1⟩
  | d :: ds, _, j + 1, _, h, e => by
    simp only [IsVs] at h
    obtain ⟨v, r, rfl, _, h2⟩ := h
    exact h2.get (j := j) (by simpa using e)
theorem IsVs.drop {F : Hp} : ∀ {ds : List D} {vs : List V} (n : Nat), IsVs W F ds vs → IsVs W F (ds.drop n) (vs.drop n)
  | _, _, 0, h => h
  | [], _, n + 1, h => by simp only [IsVs] at h; subst h; simp only [List.drop_nil, IsVs]
  | d :: ds, _, n + 1, h => by
    simp only [IsVs] at h
    obtain ⟨v, r, rfl, _, h2⟩ := h
    exact h2.drop n
theorem IsVs.take {F : Hp} : ∀ {ds : List D} {vs : List V} (n : Nat), IsVs W F ds vs → IsVs W F (ds.take n) (vs.take n)
  | _, _, 0, h => by simp only [List.take_zero, IsVs]
  | [], _, n + 1, h => by simp only [IsVs] at h; subst h; simp only [List.take_nil, IsVs]
  | d :: ds, _, n + 1, h => by
    simp only [IsVs] at h
    obtain ⟨v, r, rfl, h1, h2⟩ := h
    simp only [List.take_succ_cons, IsVs]
    exact ⟨_, _, rfl, h1, h2.take n⟩
theorem IsVs.rev {F : Hp} : ∀ {ds : List D} {vs : List V}, IsVs W F ds vs → IsVs W F ds.reverse vs.reverse
  | [], _, h => by simp only [IsVs] at h; subst h; simp only [List.reverse_nil, IsVs]
  | d :: ds, _, h => by
    simp only [IsVs] at h
    obtain ⟨v, r, rfl, h1, h2⟩ := h
    rw [List.reverse_cons, List.reverse_cons]
    exact h2.rev.app (by simp only [IsVs]; exact ⟨_, _, rfl, h1, rfl⟩)
theorem IsVs.rep {F : Hp} {ds : List D} {vs : List V} (h : IsVs W F ds vs) : ∀ n : Nat, IsVs W F (List.replicate n ds).flatten (List.replicate n vs).flatten
  | 0 => by simp only [List.replicate_zero, List.flatten_nil, IsVs]
  | n + 1 => by simp only [List.replicate_succ, List.flatten_cons]; exact h.app (h.rep n)
theorem IsVs.snoc {F : Hp} {ds : List D} {vs : List V} {d : D} {v : V} (h : IsVs W F ds vs) (k : IsV W F d v) : IsVs W F (ds ++ [d]) (vs ++ [v]) := h.app (by simp only [IsVs]; exact ⟨_, _, rfl, k, rfl⟩)
theorem IsVs.cut {F : Hp} {ds : List D} {vs : List V} (h : IsVs W F ds vs) (lo hi : Option Int) : IsVs W F (cutL ds lo hi) (cutV vs lo hi) := by
  unfold cutL cutV
  rw [← h.len]
  exact (h.drop _).take _
theorem cutL_len {α : Type} (xs : List α) (lo hi : Option Int) : (cutL xs lo hi).length ≤ xs.length := by
  unfold cutL
  rw [List.length_take, List.length_drop]
  omega
theorem IsVs.at {F : Hp} {ds : List D} {vs : List V} {i : Int} {d : D} (h : IsVs W F ds vs) (e : atI ds i = some d) : ∃ v, atI vs i = some v ∧ IsV W F d v := by
  unfold atI at e ⊢
  rw [h.len]
  cases q : ixN ds.length i with
  | none => rw [q] at e; cases e
  | some j =>
    rw [q] at e
    exact h.get e

mutual
noncomputable def Tr (W : Wd) (F H : Hp) : O → V → List Addr → Prop
  | .fr d, v, A => A = [] ∧ IsV W F d v
  | .tp os, v, A => ∃ p vs, v = .ref p ∧ F p = some (.tup vs) ∧ TrL W F H os vs A
  | .fl ds, v, A => ∃ p vs, v = .ref p ∧ H p = some (.lst vs) ∧ A = [p] ∧ IsVs W F ds vs ∧ ds.length ≤ 16777216
  | .ol os, v, A => ∃ p vs B, v = .ref p ∧ H p = some (.lst vs) ∧ A = p :: B ∧ TrL W F H os vs B ∧ os.length ≤ 16777216
  | .fd ks ds, v, A => ∃ p kvs, v = .ref p ∧ H p = some (.dK kvs) ∧ A = [p] ∧ kvs.map (·.1) = ks ∧ IsVs W F ds (kvs.map (·.2)) ∧ ds.length ≤ 16777216
  | .od ks os, v, A => ∃ p kvs B, v = .ref p ∧ H p = some (.dK kvs) ∧ A = p :: B ∧ kvs.map (·.1) = ks ∧ TrL W F H os (kvs.map (·.2)) B ∧ os.length ≤ 16777216
  | .oo c fs os, v, A => ∃ p dx kvs B, v = .ref p ∧ H p = some (.ins (W.cl c) dx kvs) ∧ F dx = some (.own p) ∧ A = p :: B ∧ kvs.map (·.1) = fs ∧ TrL W F H os (kvs.map (·.2)) B
noncomputable def TrL (W : Wd) (F H : Hp) : List O → List V → List Addr → Prop
  | [], vs, A => vs = [] ∧ A = []
  | o :: os, vs, A => ∃ v r A1 A2, vs = v :: r ∧ A = A1 ++ A2 ∧ Tr W F H o v A1 ∧ TrL W F H os r A2
end
mutual
theorem Tr.frame {F F' H H' : Hp} (g : Same F F') : ∀ {o : O} {v : V} {A : List Addr}, Tr W F H o v A → (∀ b ∈ A, ∀ x, H b = some x → H' b = some x) → Tr W F' H' o v A
  | .fr d, _, _, h, k => by simp only [Tr] at h ⊢; exact ⟨h.1, h.2.mono g⟩
  | .tp os, _, _, h, k => by
    simp only [Tr] at h ⊢
    obtain ⟨p, vs, e, h1, h2⟩ := h
    exact ⟨p, vs, e, g _ _ h1, TrL.frame g h2 k⟩
  | .fl ds, _, _, h, k => by
    simp only [Tr] at h ⊢
    obtain ⟨p, vs, e, h1, rfl, h2, h3⟩ := h
    exact ⟨p, vs, e, k p (List.mem_singleton.mpr rfl) _ h1, rfl, h2.mono g, h3⟩
  | .ol os, _, _, h, k => by
    simp only [Tr] at h ⊢
    obtain ⟨p, vs, B, e, h1, rfl, h2, h3⟩ := h
    exact ⟨p, vs, B, e, k p (List.mem_cons_self) _ h1, rfl, TrL.frame g h2 fun b hb => k b (List.mem_cons_of_mem _ hb), h3⟩
  | .fd ks ds, _, _, h, k => by
    simp only [Tr] at h ⊢
    obtain ⟨p, vs, e, h1, rfl, h2, h3, h4⟩ := h
    exact ⟨p, vs, e, k p (List.mem_singleton.mpr rfl) _ h1, rfl, h2, h3.mono g, h4⟩
  | .od ks os, _, _, h, k => by
    simp only [Tr] at h ⊢
    obtain ⟨p, vs, B, e, h1, rfl, h2, h3, h4⟩ := h
    exact ⟨p, vs, B, e, k p (List.mem_cons_self) _ h1, rfl, h2, TrL.frame g h3 fun b hb => k b (List.mem_cons_of_mem _ hb), h4⟩
  | .oo c fs os, _, _, h, k => by
    simp only [Tr] at h ⊢
    obtain ⟨p, dx, vs, B, e, h1, h0, rfl, h2, h3⟩ := h
    exact ⟨p, dx, vs, B, e, k p (List.mem_cons_self) _ h1, g _ _ h0, rfl, h2, TrL.frame g h3 fun b hb => k b (List.mem_cons_of_mem _ hb)⟩
theorem TrL.frame {F F' H H' : Hp} (g : Same F F') : ∀ {os : List O} {vs : List V} {A : List Addr}, TrL W F H os vs A → (∀ b ∈ A, ∀ x, H b = some x → H' b = some x) → TrL W F' H' os vs A
  | [], _, _, h, _ => by simp only [TrL] at h ⊢; exact h
  | o :: os, _, _, h, k => by
    simp only [TrL] at h ⊢
    obtain ⟨v, r, A1, A2, e, rfl, h1, h2⟩ := h
    exact ⟨v, r, A1, A2, e, rfl, Tr.frame g h1 fun b hb => k b (List.mem_append_left _ hb), TrL.frame g h2 fun b hb => k b (List.mem_append_right _ hb)⟩
end
mutual
theorem Tr.cell {F H : Hp} : ∀ {o : O} {v : V} {A : List Addr}, Tr W F H o v A → ∀ b ∈ A, ∃ x, H b = some x
  | .fr d, _, _, h, b, hb => by simp only [Tr] at h; rw [h.1] at hb; cases hb
  | .tp os, _, _, h, b, hb => by
    simp only [Tr] at h
    obtain ⟨p, vs, e, h1, h2⟩ := h
    exact TrL.cell h2 b hb
  | .fl ds, _, _, h, b, hb => by
    simp only [Tr] at h
    obtain ⟨p, vs, e, h1, rfl, h2, h3⟩ := h
    rw [List.mem_singleton.mp hb]; exact ⟨_, h1⟩
  | .ol os, _, _, h, b, hb => by
    simp only [Tr] at h
    obtain ⟨p, vs, B, e, h1, rfl, h2, h3⟩ := h
    rcases List.mem_cons.mp hb with rfl | hb
    · exact ⟨_, h1⟩
    · exact TrL.cell h2 b hb
  | .fd ks ds, _, _, h, b, hb => by
    simp only [Tr] at h
    obtain ⟨p, vs, e, h1, rfl, h2, h3⟩ := h
    rw [List.mem_singleton.mp hb]; exact ⟨_, h1⟩
  | .od ks os, _, _, h, b, hb => by
    simp only [Tr] at h
    obtain ⟨p, vs, B, e, h1, rfl, h2, h3, h4⟩ := h
    rcases List.mem_cons.mp hb with rfl | hb
    · exact ⟨_, h1⟩
    · exact TrL.cell h3 b hb
  | .oo c fs os, _, _, h, b, hb => by
    simp only [Tr] at h
    obtain ⟨p, dx, vs, B, e, h1, h0, rfl, h2, h3⟩ := h
    rcases List.mem_cons.mp hb with rfl | hb
    · exact ⟨_, h1⟩
    · exact TrL.cell h3 b hb
theorem TrL.cell {F H : Hp} : ∀ {os : List O} {vs : List V} {A : List Addr}, TrL W F H os vs A → ∀ b ∈ A, ∃ x, H b = some x
  | [], _, _, h, b, hb => by simp only [TrL] at h; rw [h.2] at hb; cases hb
  | o :: os, _, _, h, b, hb => by
    simp only [TrL] at h
    obtain ⟨v, r, A1, A2, e, rfl, h1, h2⟩ := h
    rcases List.mem_append.mp hb with hb | hb
    · exact Tr.cell h1 b hb
    · exact TrL.cell h2 b hb
end
mutual
theorem Tr.fz {F F' H : Hp} (g : Same F F') : ∀ {o : O} {v : V} {A : List Addr}, Tr W F H o v A → (∀ b ∈ A, ∀ x, H b = some x → F' b = some x) → IsV W F' o.fz v
  | .fr d, _, _, h, k => by simp only [Tr] at h; simp only [O.fz]; exact h.2.mono g
  | .tp os, _, _, h, k => by
    simp only [Tr] at h; simp only [O.fz, IsV]
    obtain ⟨p, vs, e, h1, h2⟩ := h
    exact ⟨p, vs, e, g _ _ h1, TrL.fz g h2 k⟩
  | .fl ds, _, _, h, k => by
    simp only [Tr] at h; simp only [O.fz, IsV]
    obtain ⟨p, vs, e, h1, rfl, h2, h3⟩ := h
    exact ⟨p, vs, e, k p (List.mem_singleton.mpr rfl) _ h1, h2.mono g, h3⟩
  | .ol os, _, _, h, k => by
    simp only [Tr] at h; simp only [O.fz, IsV]
    obtain ⟨p, vs, B, e, h1, rfl, h2, h3⟩ := h
    exact ⟨p, vs, e, k p (List.mem_cons_self) _ h1, TrL.fz g h2 fun b hb => k b (List.mem_cons_of_mem _ hb), by rw [fzs_len]; exact h3⟩
  | .fd ks ds, _, _, h, k => by
    simp only [Tr] at h; simp only [O.fz, IsV]
    obtain ⟨p, vs, e, h1, rfl, h2, h3, h4⟩ := h
    exact ⟨p, vs, e, k p (List.mem_singleton.mpr rfl) _ h1, h2, h3.mono g, h4⟩
  | .od ks os, _, _, h, k => by
    simp only [Tr] at h; simp only [O.fz, IsV]
    obtain ⟨p, vs, B, e, h1, rfl, h2, h3, h4⟩ := h
    exact ⟨p, vs, e, k p (List.mem_cons_self) _ h1, h2, TrL.fz g h3 fun b hb => k b (List.mem_cons_of_mem _ hb), by rw [fzs_len]; exact h4⟩
  | .oo c fs os, _, _, h, k => by
    simp only [Tr] at h; simp only [O.fz, IsV]
    obtain ⟨p, dx, vs, B, e, h1, h0, rfl, h2, h3⟩ := h
    exact ⟨p, dx, vs, e, k p (List.mem_cons_self) _ h1, g _ _ h0, h2, TrL.fz g h3 fun b hb => k b (List.mem_cons_of_mem _ hb)⟩
theorem TrL.fz {F F' H : Hp} (g : Same F F') : ∀ {os : List O} {vs : List V} {A : List Addr}, TrL W F H os vs A → (∀ b ∈ A, ∀ x, H b = some x → F' b = some x) → IsVs W F' (fzs os) vs
  | [], _, _, h, _ => by simp only [TrL] at h; simp only [fzs, IsVs]; exact h.1
  | o :: os, _, _, h, k => by
    simp only [TrL] at h; simp only [fzs, IsVs]
    obtain ⟨v, r, A1, A2, e, rfl, h1, h2⟩ := h
    exact ⟨v, r, e, Tr.fz g h1 fun b hb => k b (List.mem_append_left _ hb), TrL.fz g h2 fun b hb => k b (List.mem_append_right _ hb)⟩
end

theorem Tr.now {F H : Hp} (g : Same F H) {o : O} {v : V} {A : List Addr} (h : Tr W F H o v A) : IsV W H o.fz v := h.fz g fun _ _ _ e => e

noncomputable def adds (F H : Hp) (A : List Addr) : Hp := fun b => if b ∈ A then H b else F b
theorem adds_same {F H : Hp} {A : List Addr} (h : ∀ b ∈ A, F b = none) : Same F (adds F H A) := fun b o e => by
  unfold adds
  rw [if_neg (fun z => by rw [h b z] at e; cases e)]; exact e
theorem adds_in {F H : Hp} {A : List Addr} : ∀ b ∈ A, ∀ x, H b = some x → adds F H A b = some x := fun b hb x e => by unfold adds; rw [if_pos hb]; exact e
theorem adds_le {F H : Hp} {A : List Addr} (g : Same F H) : Same (adds F H A) H := fun b o e => by
  unfold adds at e
  split at e
  · exact e
  · exact g _ _ e
theorem Tr.frozen {F H : Hp} {o : O} {v : V} {A : List Addr} (h : Tr W F H o v A) (k : ∀ b ∈ A, F b = none) : IsV W (adds F H A) o.fz v := h.fz (adds_same k) adds_in

structure Rep (W : Wd) (F H : Hp) (s : Sl) (σ : L2.St) (A : Nat → List Addr) : Prop where
  fh : Same F H
  slot : ∀ i o, s[i]? = some (some o) → ∃ v, σ[i]? = some (some v) ∧ Tr W F H o v (A i)
  own : ∀ i, ∀ a ∈ A i, F a = none ∧ ∃ x, H a = some x
  dis : ∀ i j, ∀ a ∈ A i, a ∈ A j → i = j
  nd : ∀ i, (A i).Nodup
  len : s.length = σ.length
noncomputable def Ow (A : Nat → List Addr) (b : Addr) : Prop := ∃ i, b ∈ A i

structure Ex (F H : Hp) (P : Addr → Prop) (F' H' : Hp) (P' : Addr → Prop) : Prop where
  sF : Same F F'
  keep : ∀ b o, H b = some o → ¬ P b → H' b = some o
  dom : ∀ b o, H b = some o → ∃ o', H' b = some o'
  frz : ∀ b o, F' b = some o → (∃ o', F b = some o') ∨ H b = none ∨ P b
  cells : ∀ b, P' b → P b ∨ H b = none
theorem Ex.refl {F H : Hp} {P : Addr → Prop} : Ex F H P F H P := ⟨fun _ _ h => h, fun _ _ h _ => h, fun _ o h => ⟨o, h⟩, fun _ o h => .inl ⟨o, h⟩, fun _ h => .inl h⟩
theorem Ex.none {F H F' H' : Hp} {P P' : Addr → Prop} (e : Ex F H P F' H' P') {b : Addr} (h : H' b = none) : H b = none := by
  cases q : H b with
  | none => rfl
  | some o => obtain ⟨o', z⟩ := e.dom b o q; rw [h] at z; cases z
theorem Ex.trans {F H F1 H1 F2 H2 : Hp} {P P1 P2 : Addr → Prop} (a : Ex F H P F1 H1 P1) (b : Ex F1 H1 P1 F2 H2 P2) : Ex F H P F2 H2 P2 := by
  refine ⟨a.sF.trans b.sF, fun x o h n => ?_, fun x o h => ?_, fun x o h => ?_, fun x h => ?_⟩
  · refine b.keep x o (a.keep x o h n) fun z => ?_
    rcases a.cells x z with z | z
    · exact n z
    · rw [h] at z; cases z
  · obtain ⟨o', h'⟩ := a.dom x o h
    exact b.dom x o' h'
  · rcases b.frz x o h with ⟨o', z⟩ | z | z
    · exact a.frz x o' z
    · exact .inr (.inl (a.none z))
    · rcases a.cells x z with z | z
      · exact .inr (.inr z)
      · exact .inr (.inl z)
  · rcases b.cells x h with z | z
    · exact a.cells x z
    · exact .inr (a.none z)
theorem Ex.less {F H F' H' : Hp} {P P' P'' : Addr → Prop} (a : Ex F H P F' H' P') (h : ∀ b, P'' b → P' b) : Ex F H P F' H' P'' := ⟨a.sF, a.keep, a.dom, a.frz, fun b z => a.cells b (h b z)⟩
theorem Ex.more {F H F' H' : Hp} {P P' Q : Addr → Prop} (a : Ex F H P F' H' P') (h : ∀ b, P b → Q b) : Ex F H Q F' H' P' := ⟨a.sF, fun b o e n => a.keep b o e fun z => n (h b z), a.dom, fun b o e => by
  rcases a.frz b o e with z | z | z
  · exact .inl z
  · exact .inr (.inl z)
  · exact .inr (.inr (h b z)), fun b z => by
  rcases a.cells b z with z | z
  · exact .inl (h b z)
  · exact .inr z⟩

structure By (F H : Hp) (P : Addr → Prop) (B : List Addr) : Prop where
  fr : ∀ b ∈ B, F b = Option.none
  ob : ∀ b ∈ B, ∃ x, H b = some x
  nP : ∀ b ∈ B, ¬ P b
theorem By.ex {F H F' H' : Hp} {P P' : Addr → Prop} {B : List Addr} (h : By F H P B) (e : Ex F H P F' H' P') : By F' H' P' B := by
  refine ⟨fun b hb => ?_, fun b hb => ?_, fun b hb z => ?_⟩
  · cases q : F' b with
    | none => rfl
    | some o =>
      obtain ⟨x, hx⟩ := h.ob b hb
      rcases e.frz b o q with ⟨o', z⟩ | z | z
      · rw [h.fr b hb] at z; cases z
      · rw [hx] at z; cases z
      · exact absurd z (h.nP b hb)
  · obtain ⟨x, hx⟩ := h.ob b hb
    exact e.dom b x hx
  · obtain ⟨x, hx⟩ := h.ob b hb
    rcases e.cells b z with z | z
    · exact h.nP b hb z
    · rw [hx] at z; cases z
theorem By.imp {F H : Hp} {P P' : Addr → Prop} {B : List Addr} (h : By F H P B) (k : ∀ b, P' b → P b) : By F H P' B := ⟨h.fr, h.ob, fun b hb z => h.nP b hb (k b z)⟩
theorem By.app {F H : Hp} {P : Addr → Prop} {B C : List Addr} (h : By F H P B) (k : By F H P C) : By F H P (B ++ C) := ⟨fun b hb => (List.mem_append.mp hb).elim (h.fr b) (k.fr b), fun b hb => (List.mem_append.mp hb).elim (h.ob b) (k.ob b), fun b hb => (List.mem_append.mp hb).elim (h.nP b) (k.nP b)⟩
theorem By.tr {F H F' H' : Hp} {P P' : Addr → Prop} {B : List Addr} (h : By F H P B) (e : Ex F H P F' H' P') {o : O} {v : V} (t : Tr W F H o v B) : Tr W F' H' o v B := t.frame e.sF fun b hb x hx => e.keep b x hx (h.nP b hb)
end L3

set_option Elab.async false
set_option linter.all false
set_option maxRecDepth 100000
namespace L3
open PySem L2 PySem.Spec PyProof.Rows

inductive IK where
  | seq | rng | enum | zip | rvd
  deriving DecidableEq
inductive CE where
  | v (i : Nat)
  | b (i : Nat)
  | m (i : Nat)
  | c (d : D)
  | g (x : Str) (d : D)
  | bin (op : BO) (a b : CE)
  | cmp (op : CO) (a b : CE)
  | chn (o1 o2 : CO) (a b c : CE)
  | not (a : CE)
  | t (a : CE)
  | tn (a : CE)
  | tb (k : Bool) (es : List CE)
  | ife (t a b : CE)
  | lst (es : List CE)
  | lsd (es : List CE)
  | tup (es : List CE)
  | dsp (es : List CE)
  | ix (a i : CE)
  | sl (a : CE) (lo hi : List CE)
  | rev (a : CE)
  | call (x : Str) (mk : List Bool) (f : Fn) (es : List CE)
  | callB (x : Str) (f : Fn) (es : List CE)
  | b1 (b : B1) (a : CE)
  | b2 (b : B2) (a c : CE)
  | isi (a : CE) (k : TyK)
  | get2 (o a d : CE)
  | mu (m : MU) (p : CE) (es : List CE)
  | lc (elt : CE) (n : Nat) (k : IK) (its ifs : List CE)

inductive CT where
  | v (i : Nat)
  | tup (is : List Nat)
  | sub (p k : CE)
inductive CS where
  | ret (e : CE)
  | retN
  | asg (t : CT) (e : CE)
  | aug (i : Nat) (e : CE)
  | ife (t : CE) (a b : List CS)
  | loop (t : CT) (k : IK) (its : List CE) (b : List CS)
  | whl (n : Nat) (t : CE) (b : List CS)
  | ex (e : CE)
  | pass
  | brk

mutual
noncomputable def quiet : CE → Bool
  | .v _ => false
  | .b _ => true
  | .c _ => true
  | .g _ _ => true
  | .bin _ a b => quiet a && quiet b
  | .cmp _ a b => quiet a && quiet b
  | .ix a b => quiet a && quiet b
  | .sl a lo hi => quiet a && quiets lo && quiets hi
  | .rev a => quiet a
  | .lst es => quiets es
  | .tup es => quiets es
  | .lsd es => quiets es
  | .call _ mk _ es => mk.all (! ·) && quiets es
  | .b1 _ a => quiet a
  | _ => false
noncomputable def quiets : List CE → Bool
  | [] => true
  | e :: es => quiet e && quiets es
end
noncomputable def Rv.one (r : Rv) (k : O → Sl → Rv) : Rv :=
  match r with
  | .ok x s => k x s
  | .bw x s => k x s
  | .ex x s => .ex x s
  | .no => .no
noncomputable def Rv.two (r : Rv) (q : Bool) (g : Sl → Rv) (k : O → O → Sl → Rv) : Rv :=
  match r with
  | .ok x s => (g s).one fun y s2 => k x y s2
  | .bw x s => if q = true then (g s).one fun y s2 => k x y s2 else .no
  | .ex x s => .ex x s
  | .no => .no
noncomputable def isStr : O → Bool
  | .fr (.str _) => true
  | _ => false
noncomputable def isDc : O → Bool
  | .fr (.dc _ _) => true
  | .fd _ _ => true
  | _ => false

noncomputable def Rv.of (o : Option O) (s : Sl) : Rv :=
  match o with
  | some x => .ok x s
  | none => .no

noncomputable def Rv.at (o : Option O) (s : Sl) : Rv :=
  match o with
  | some (.fr d) => .ok (.fr d) s
  | some x => .bw x s
  | none => .no
noncomputable def Rv.ob (o : Option Bool) (s : Sl) : Rv :=
  match o with
  | some b => .ok (fb b) s
  | none => .no
noncomputable def Rv.bool (r : Rv) (k : Bool → Sl → Rv) : Rv :=
  match r with
  | .ok (.fr (.bl b)) s => k b s
  | .ex x s => .ex x s
  | _ => .no
noncomputable def Rl.cons (o : O) (r : Rl) : Rl :=
  match r with
  | .ok os s => .ok (o :: os) s
  | .ex x s => .ex x s
  | .no => .no

noncomputable def Rv.part (r : Rv) (k : Option Int → Sl → Rv) : Rv :=
  match r with
  | .ok (.fr (.int i)) s => k (some i) s
  | .ex x s => .ex x s
  | _ => .no
inductive Rp where
  | ok (ks : List Key) (ds : List D) (s : Sl)
  | ex (x : Exn) (s : Sl)
  | no
noncomputable def Rp.cons (k : Key) (d : D) (r : Rp) : Rp :=
  match r with
  | .ok ks ds s => .ok (k :: ks) (d :: ds) s
  | .ex x s => .ex x s
  | .no => .no
noncomputable def isLs : O → Bool
  | .fl _ => true
  | .ol _ => true
  | _ => false
noncomputable def lsAt (s : Sl) (i : Nat) (st : List Nat) : Bool :=
  match s[i]? with
  | some (some o) => match getO o st with
    | some x => isLs x
    | none => false
  | _ => false
noncomputable def isB : CE → Option Nat
  | .b i => some i
  | _ => none
noncomputable def putA : List Bool → List CE → List O → Sl → Sl
  | true :: mk, .b i :: es, o :: os, s => putA mk es os (s.set i (some o))
  | _ :: mk, _ :: es, _ :: os, s => putA mk es os s
  | _, _, _, s => s
inductive Ri where
  | ok (ds : List D) (s : Sl)
  | ex (x : Exn) (s : Sl)
  | no
noncomputable def seqD : D → Option (List D)
  | .str t => some (t.map fun c => .str [c])
  | .tp xs => some xs
  | .ls xs => some xs
  | .kt xs => some xs
  | .kl xs => some xs
  | _ => none
noncomputable def rngD : List D → Option (List D)
  | [.int j] => if -(2 ^ 62) ≤ j ∧ j < 2 ^ 62 then some ((List.range j.toNat).map fun (k : Nat) => .int (k : Int)) else none
  | [.int i, .int j] => if (-(2 ^ 62) ≤ i ∧ i < 2 ^ 62) ∧ (-(2 ^ 62) ≤ j ∧ j < 2 ^ 62) then some ((List.range (j - i).toNat).map fun (k : Nat) => .int (i + (k : Int))) else none
  | _ => none
noncomputable def enumD (n : Nat) : List D → List D
  | [] => []
  | d :: ds => .tp [.int n, d] :: enumD (n + 1) ds

noncomputable def itD (k : IK) (ds : List D) : Option (List D) :=
  match k, ds with
  | .seq, [d] => seqD d
  | .rng, ds => rngD ds
  | .enum, [.str t] => some (enumD 0 (t.map fun c => .str [c]))
  | .enum, [.ls xs] => some (enumD 0 xs)
  | .zip, [.ls xs, .ls ys] => some ((xs.zip ys).map fun p => .tp [p.1, p.2])
  | .rvd, [.ls xs] => some xs.reverse
  | .rvd, [.tp xs] => some xs.reverse
  | _, _ => none
noncomputable def Rl.it (k : IK) (r : Rl) : Ri :=
  match r with
  | .ok os s => match itD k (fzs os) with
    | some ds => .ok ds s
    | none => .no
  | .ex x s => .ex x s
  | .no => .no

noncomputable def bindN (n : Nat) (d : D) : Option Sl :=
  match n, d with
  | 1, d => some [some (.fr d)]
  | 2, .tp [a, b] => some [some (.fr a), some (.fr b)]
  | _, _ => none
noncomputable def lcLoop (n : Nat) (t : Sl → Rv) (f : Sl → Rv) : List D → List D → Sl → Rv
  | [], acc, s => .ok (.fl acc) s
  | d :: ds, acc, s => match bindN n d with
    | some l => match t (l ++ s) with
      | .ok (.fr (.bl true)) s1 => match f s1 with
        | .ok o s2 => if acc.length < 16777216 then lcLoop n t f ds (acc ++ [o.fz]) (s2.drop n) else .no
        | _ => .no
      | .ok (.fr (.bl false)) s1 => lcLoop n t f ds acc (s1.drop n)
      | _ => .no
    | none => .no
noncomputable def Ri.lc (r : Ri) (n : Nat) (t : Sl → Rv) (f : Sl → Rv) : Rv :=
  match r with
  | .ok ds s => lcLoop n t f ds [] s
  | .ex x s => .ex x s
  | .no => .no
noncomputable def idx? : O → O → Option Nat
  | .ol xs, .fr (.int i) => ixN xs.length i
  | .tp xs, .fr (.int i) => ixN xs.length i
  | _, _ => none
noncomputable def keyD : List D → Option (List Key)
  | [] => some []
  | .str t :: ds => (keyD ds).map (.inr (S t) :: ·)
  | .int i :: ds => (keyD ds).map (.inl i :: ·)
  | _ => none
noncomputable def dget (ks : List Key) (xs : List D) (k : Key) : Option D := ((ks.zip xs).find? fun kv => decide (kv.1 = k)).map (·.2)
noncomputable def dput (ks : List Key) (xs : List D) (k : Key) (x : D) : List Key × List D :=
  if (ks.any fun k' => decide (k' = k)) = true then (ks, (ks.zip xs).map fun kv => if kv.1 = k then x else kv.2) else (ks ++ [k], xs ++ [x])
noncomputable def dputs : List Key → List D → List Key → List D → List Key × List D
  | ks, xs, k :: more, x :: ys => dputs (dput ks xs k x).1 (dput ks xs k x).2 more ys
  | ks, xs, _, _ => (ks, xs)
noncomputable def get2O (x y z : O) : Option O :=
  match y with
  | .fr (.str k) => match x with
    | .fr (.dc ks xs) => some (.fr ((dget ks xs (.inr (S k))).getD z.fz))
    | .fd ks xs => some (.fr ((dget ks xs (.inr (S k))).getD z.fz))
    | _ => none
  | _ => none
noncomputable def scalD : D → Bool
  | .non => true
  | .bl _ => true
  | .int _ => true
  | .str _ => true
  | _ => false

noncomputable def Fr.scal (r : Fr) (s : Sl) : Rv :=
  match r with
  | .ok (.fr d) _ => if scalD d = true then .ok (.fr d) s else .no
  | _ => .no
mutual
noncomputable def dE : CE → Sl → Rv
  | .v i, s => match s[i]? with
    | some (some o) => .ok (.fr o.fz) (s.set i (some (.fr o.fz)))
    | _ => .no
  | .b i, s => match s[i]? with
    | some (some (.fr d)) => .ok (.fr d) s
    | some (some o) => .bw o s
    | _ => .no
  | .m i, s => match s[i]? with
    | some (some o) => .ok o (s.set i none)
    | _ => .no
  | .c d, s => .ok (.fr d) s
  | .g _ d, s => .ok (.fr d) s
  | .bin op a b, s => (dE a s).two (quiet b) (dE b) fun x y s2 => .of (binO op x y) s2
  | .cmp op a b, s => (dE a s).two (quiet b) (dE b) fun x y s2 => .ob (cmpO op x y) s2
  | .chn o1 o2 a b c, s => (dE a s).two (quiet b) (dE b) fun x y s2 => match x, y with
    | .fr (.int _), .fr (.int _) => match cmpO o1 x y with
      | some true => (dE c s2).one fun z s3 => .ob (cmpO o2 y z) s3
      | some false => .ok (fb false) s2
      | none => .no
    | _, _ => .no
  | .not a, s => (dE a s).bool fun c s1 => .ok (fb (!c)) s1
  | .t a, s => (dE a s).one fun x s1 => .ob (truD x.fz) s1
  | .tn a, s => (dE a s).bool fun c s1 => .ok (fb (!c)) s1
  | .tb k es, s => dTb k es s
  | .ife t a b, s => (dE t s).bool fun c s1 => if c = true then dE a s1 else dE b s1
  | .lst es, s => match dEs es s with
    | .ok os s1 => if os.length ≤ 16777216 then .ok (.fl (fzs os)) s1 else .no
    | .ex x s1 => .ex x s1
    | .no => .no
  | .lsd es, s => match dEs es s with
    | .ok os s1 => if os.length ≤ 16777216 then .ok (.ol os) s1 else .no
    | .ex x s1 => .ex x s1
    | .no => .no
  | .tup es, s => match dEs es s with
    | .ok os s1 => if os.length ≤ 16777216 then .ok (.fr (.tp (fzs os))) s1 else .no
    | .ex x s1 => .ex x s1
    | .no => .no
  | .dsp es, s => match dPs es s with
    | .ok ks ds s1 => if ks.length ≤ 15 then .ok (.fd (dputs [] [] ks ds).1 (dputs [] [] ks ds).2) s1 else .no
    | .ex x s1 => .ex x s1
    | .no => .no
  | .ix a b, s => (dE a s).two (quiet b) (dE b) fun x y s2 => .at (ixO x y) s2
  | .sl a lo hi, s => match dE a s with
    | .ok x s1 => dOp lo s1 fun l s2 => dOp hi s2 fun h s3 => .of (slO x l h) s3
    | .bw x s1 => if (quiets lo && quiets hi) = true then dOp lo s1 fun l s2 => dOp hi s2 fun h s3 => .of (slO x l h) s3 else .no
    | .ex x s1 => .ex x s1
    | .no => .no
  | .rev a, s => (dE a s).one fun x s1 => .of (revO x) s1
  | .call _ mk f es, s => match dAs mk es s with
    | .ok os s1 => match f os with
      | .ok o os' => .ok o (putA mk es os' s1)
      | .ex x os' => .ex x (putA mk es os' s1)
      | .no => .no
    | .ex x s1 => .ex x s1
    | .no => .no
  | .callB _ f es, s => if quiets es = true then match dQs es s with
    | .ok os s1 => (f (os.map fun o => .fr o.fz)).scal s1
    | .ex x s1 => .ex x s1
    | .no => .no
    else .no
  | .b1 b a, s => (dE a s).one fun x s1 => .of (b1O b x) s1
  | .b2 b a c, s => (dE a s).two (quiet c) (dE c) fun x y s2 => .of (b2O b x y) s2
  | .isi a k, s => (dE a s).one fun x s1 => .ob (isiO x k) s1
  | .get2 o a d, s => match dE o s with
    | .ok x s1 => if isDc x = true then match dE a s1 with
      | .ok y s2 => match dE d s2 with
        | .ok z s3 => .of (get2O x y z) s3
        | .ex x s3 => .ex x s3
        | _ => .no
      | .ex x s2 => .ex x s2
      | _ => .no
      else .no
    | .ex x s1 => .ex x s1
    | _ => .no
  | .mu m p es, s => match pathOf p s with
    | some (i, st) => if (lsAt s i st && (st.isEmpty || quiets es)) = true then match dEs es s with
      | .ok os s1 => match s1[i]? with
        | some (some o) => match getO o st with
          | some x => match muO m x os with
            | some (x', r) => .ok r (s1.set i (some (setO o st x')))
            | none => .no
          | none => .no
        | _ => .no
      | .ex x s1 => .ex x s1
      | .no => .no
      else .no
    | none => .no
  | .lc elt n k its ifs, s => ((dEs its s).it k).lc n (fun s => dTb true ifs s) (dE elt)
noncomputable def dEs : List CE → Sl → Rl
  | [], s => .ok [] s
  | e :: es, s => match dE e s with
    | .ok o s1 => (dEs es s1).cons o
    | .ex x s1 => .ex x s1
    | _ => .no
noncomputable def dQs : List CE → Sl → Rl
  | [], s => .ok [] s
  | e :: es, s => match dE e s with
    | .ok o s1 => (dQs es s1).cons o
    | .bw o s1 => (dQs es s1).cons o
    | .ex x s1 => .ex x s1
    | _ => .no
noncomputable def dAs : List Bool → List CE → Sl → Rl
  | _, [], s => .ok [] s
  | mk, e :: es, s => match (if mk.head? = some true then isB e else none) with
    | some i => match s[i]? with
      | some (some o) => (dAs mk.tail es (s.set i none)).cons o
      | _ => .no
    | none => match dE e s with
      | .ok o s1 => (dAs mk.tail es s1).cons (.fr o.fz)
      | .ex x s1 => .ex x s1
      | _ => .no
noncomputable def dPs : List CE → Sl → Rp
  | [], s => .ok [] [] s
  | k :: e :: es, s => match dE k s with
    | .ok y s1 => match dE e s1 with
      | .ok z s2 => match keyD [y.fz] with
        | some [key] => (dPs es s2).cons key z.fz
        | _ => .no
      | .ex x s2 => .ex x s2
      | _ => .no
    | .ex x s1 => .ex x s1
    | _ => .no
  | [_], _ => .no
noncomputable def dOp : List CE → Sl → (Option Int → Sl → Rv) → Rv
  | [], s, k => k none s
  | e :: es, s, k => if es.isEmpty = true then (dE e s).part k else .no
noncomputable def dBo : Bool → List CE → Sl → Rv
  | _, [], _ => .no
  | k, e :: es, s => if es.isEmpty = true then dE e s else (dE e s).bool fun c s1 => if c = k then dBo k es s1 else .ok (fb c) s1
noncomputable def dTb : Bool → List CE → Sl → Rv
  | k, [], s => .ok (fb k) s
  | k, e :: es, s => (dE e s).bool fun c s1 => if c = k then dTb k es s1 else .ok (fb c) s1
noncomputable def pathOf : CE → Sl → Option (Nat × List Nat)
  | .b i, s => match s[i]? with
    | some (some _) => some (i, [])
    | _ => none
  | .ix p k, s => match pathOf p s with
    | some (i, st) => match s[i]? with
      | some (some o) => match getO o st with
        | some x => if quiet k = true then match dE k s with
          | .ok y _ => match idx? x y with
            | some j => some (i, st ++ [j])
            | none => none
          | _ => none
          else none
        | none => none
      | _ => none
    | none => none
  | _, _ => none
end
end L3

set_option Elab.async false
set_option linter.all false
set_option maxRecDepth 100000
namespace L3
open PySem L2 PySem.Spec PyProof.Rows

noncomputable def setN : List Nat → List O → Sl → Option Sl
  | [], [], s => some s
  | i :: is, o :: os, s => setN is os (s.set i (some o))
  | _, _, _ => none
noncomputable def unO : O → Option (List O)
  | .fr (.tp ds) => some (ds.map .fr)
  | .tp os => some os
  | .fr (.ls ds) => some (ds.map .fr)
  | .fl ds => some (ds.map .fr)
  | .ol os => some os
  | _ => none
noncomputable def bindD (t : CT) (d : D) (s : Sl) : Option Sl :=
  match t with
  | .v i => some (s.set i (some (.fr d)))
  | .tup is => match d with
    | .tp ds => setN is (ds.map .fr) s
    | _ => none
  | .sub _ _ => none

noncomputable def putO (x y o : O) : Option O :=
  match x, y with
  | .fl xs, .fr (.int n) => (ixN xs.length n).map fun j => .fl (xs.set j o.fz)
  | .ol xs, .fr (.int n) => (ixN xs.length n).map fun j => .ol (xs.set j o)
  | _, _ => none
noncomputable def asgT (t : CT) (o : O) (s : Sl) : Option Sl :=
  match t with
  | .v i => some (s.set i (some o))
  | .tup is => match unO o with
    | some os => setN is os s
    | none => none
  | .sub p k => match pathOf p s with
    | some (i, st) => match s[i]? with
      | some (some z) => match getO z st with
        | some x => if quiet k = true then match dE k s with
          | .ok y _ => match putO x y o with
            | some x' => some (s.set i (some (setO z st x')))
            | none => none
          | _ => none
          else none
        | none => none
      | _ => none
    | none => none
noncomputable def forLoop (bd : D → Sl → Option Sl) (body : Sl → Fw) : List D → Sl → Fw
  | [], s => .nx s
  | d :: ds, s => match bd d s with
    | some s1 => match body s1 with
      | .nx s2 => forLoop bd body ds s2
      | .ct s2 => forLoop bd body ds s2
      | .bk s2 => .nx s2
      | .rt o s2 => .rt o s2
      | .ex x s2 => .ex x s2
      | .no => .no
    | none => .no
noncomputable def whLoop (t : Sl → Rv) (body : Sl → Fw) : Nat → Sl → Fw
  | 0, _ => .no
  | n + 1, s => match t s with
    | .ok (.fr (.bl true)) s1 => match body s1 with
      | .nx s2 => whLoop t body n s2
      | .ct s2 => whLoop t body n s2
      | .bk s2 => .nx s2
      | .rt o s2 => .rt o s2
      | .ex x s2 => .ex x s2
      | .no => .no
    | .ok (.fr (.bl false)) s1 => .nx s1
    | .ex x s1 => .ex x s1
    | _ => .no
mutual
noncomputable def dS : CS → Sl → Fw
  | .ret e, s => match dE e s with
    | .ok o s1 => .rt o s1
    | .ex x s1 => .ex x s1
    | _ => .no
  | .retN, s => .rt (.fr .non) s
  | .asg t e, s => match dE e s with
    | .ok o s1 => match asgT t o s1 with
      | some s2 => .nx s2
      | none => .no
    | .ex x s1 => .ex x s1
    | _ => .no
  | .aug i e, s => match s[i]? with
    | some (some (.fr (.int a))) => match dE e s with
      | .ok (.fr (.int b)) s1 => .nx (s1.set i (some (.fr (.int (a + b)))))
      | .ex x s1 => .ex x s1
      | _ => .no
    | _ => .no
  | .ife t a b, s => match dE t s with
    | .ok (.fr (.bl true)) s1 => dSs a s1
    | .ok (.fr (.bl false)) s1 => dSs b s1
    | .ex x s1 => .ex x s1
    | _ => .no
  | .loop t k its b, s => match (dEs its s).it k with
    | .ok ds s1 => forLoop (bindD t) (dSs b) ds s1
    | .ex x s1 => .ex x s1
    | .no => .no
  | .whl n t b, s => whLoop (dE t) (dSs b) n s
  | .ex e, s => match dE e s with
    | .ok _ s1 => .nx s1
    | .bw _ s1 => .nx s1
    | .ex x s1 => .ex x s1
    | .no => .no
  | .pass, s => .nx s
  | .brk, s => .bk s
noncomputable def dSs : List CS → Sl → Fw
  | [], s => .nx s
  | c :: cs, s => match dS c s with
    | .nx s1 => dSs cs s1
    | .rt o s1 => .rt o s1
    | .bk s1 => .bk s1
    | .ct s1 => .ct s1
    | .ex x s1 => .ex x s1
    | .no => .no
end
noncomputable def argsOf (n : Nat) (s : Sl) : List O := (s.take n).map fun x => x.getD (.fr .non)
noncomputable def mutOk : List Bool → Sl → Bool
  | [], _ => true
  | m :: mk, x :: s => (!m || x.isSome) && mutOk mk s
  | m :: mk, [] => !m && mutOk mk []

noncomputable def fnD (mk : List Bool) (np nl : Nat) (body : List CS) : Fn := fun os =>
  match dSs body (os.map some ++ List.replicate (nl - np) none) with
  | .nx s => if mutOk mk s = true then .ok (.fr .non) (mkArgs mk os (argsOf np s)) else .no
  | .rt o s => if mutOk mk s = true then .ok o (mkArgs mk os (argsOf np s)) else .no
  | .ex x s => if mutOk mk s = true then .ex x (mkArgs mk os (argsOf np s)) else .no
  | _ => .no
where mkArgs : List Bool → List O → List O → List O
  | true :: mk, _ :: os, n :: ns => n :: mkArgs mk os ns
  | _ :: mk, o :: os, _ :: ns => o :: mkArgs mk os ns
  | _, os, _ => os
end L3

set_option Elab.async false
set_option linter.all false
set_option maxRecDepth 100000
namespace L3
open PySem L2 PySem.Spec PyProof.Rows
variable {W : Wd}


structure Al (F H F' H' : Hp) (B : List Addr) : Prop where
  sF : Same F F'
  sH : Same H H'
  fh : Same F' H'
  frz : ∀ b o, F' b = some o → (∃ o', F b = some o') ∨ H b = none
  nB : ∀ b ∈ B, H b = none ∧ F' b = none ∧ ∃ x, H' b = some x
  nd : B.Nodup
theorem Al.refl {F H : Hp} (g : Same F H) : Al F H F H [] := ⟨fun _ _ h => h, fun _ _ h => h, g, fun _ o h => .inl ⟨o, h⟩, (fun _ h => by cases h), .nil⟩
theorem Al.rep {F H F' H' : Hp} {B : List Addr} {s : Sl} {σ : L2.St} {A : Nat → List Addr} (a : Al F H F' H' B) (R : Rep W F H s σ A) : Rep W F' H' s σ A := by
  refine ⟨a.fh, fun i o h => ?_, fun i b hb => ?_, R.dis, R.nd, R.len⟩
  · obtain ⟨v, h1, h2⟩ := R.slot i o h
    exact ⟨v, h1, h2.frame a.sF fun b _ x hx => a.sH _ _ hx⟩
  · obtain ⟨h1, x, h2⟩ := R.own i b hb
    refine ⟨?_, x, a.sH _ _ h2⟩
    cases q : F' b with
    | none => rfl
    | some o =>
      rcases a.frz b o q with ⟨o', z⟩ | z
      · rw [h1] at z; cases z
      · rw [h2] at z; cases z
theorem Al.ex {F H F' H' : Hp} {B : List Addr} {P : Addr → Prop} (a : Al F H F' H' B) : Ex F H P F' H' (fun b => P b ∨ b ∈ B) := by
  refine ⟨a.sF, fun b o h _ => a.sH _ _ h, fun b o h => ⟨o, a.sH _ _ h⟩, fun b o h => ?_, fun b h => ?_⟩
  · rcases a.frz b o h with z | z
    · exact .inl z
    · exact .inr (.inl z)
  · rcases h with h | h
    · exact .inl h
    · exact .inr (a.nB b h).1
theorem Al.by_ {F H F' H' : Hp} {B : List Addr} {s : Sl} {σ : L2.St} {A : Nat → List Addr} (a : Al F H F' H' B) (R : Rep W F H s σ A) : By F' H' (Ow A) B := by
  refine ⟨fun b hb => (a.nB b hb).2.1, fun b hb => (a.nB b hb).2.2, fun b hb ⟨i, z⟩ => ?_⟩
  obtain ⟨_, x, h⟩ := R.own i b z
  rw [(a.nB b hb).1] at h; cases h

theorem Al.cell {F H : Hp} {p : Addr} {o : HO} (g : Same F H) (hp : H p = none) : Al F H F (upd H p o) [p] := by
  have hF : F p = none := by
    cases q : F p with
    | none => rfl
    | some u => rw [g _ _ q] at hp; cases hp
  have sH : Same H (upd H p o) := same_upd hp
  exact ⟨fun _ _ h => h, sH, fun b u h => sH _ _ (g _ _ h), fun b u h => .inl ⟨u, h⟩, fun b hb => by rw [List.mem_singleton.mp hb]; exact ⟨hp, hF, _, upd_same⟩, List.pairwise_singleton _ _⟩

theorem Al.froz {F H : Hp} {p : Addr} {o : HO} (g : Same F H) (hp : H p = none) : Al F H (upd F p o) (upd H p o) [] := by
  have hF : F p = none := by
    cases q : F p with
    | none => rfl
    | some u => rw [g _ _ q] at hp; cases hp
  refine ⟨same_upd hF, same_upd hp, fun b u h => ?_, fun b u h => ?_, (fun _ h => by cases h), .nil⟩
  · unfold upd at h ⊢
    split
    · rw [if_pos (by assumption)] at h; exact h
    · rw [if_neg (by assumption)] at h; exact g _ _ h
  · by_cases e : b = p
    · subst e; exact .inr hp
    · rw [upd_ne e] at h; exact .inl ⟨u, h⟩

noncomputable def OS (W : Wd) (r : R2) (f : O → O → Option O) : Prop := ∀ (F H : Hp) (x y : O) (v u : V) (B1 B2 : List Addr) (o : O) (Q : VK), Same F H → Tr W F H x v B1 → Tr W F H y u B2 → f x y = some o →
  (∀ w F' H' B, Al F H F' H' B → Tr W F' H' o w B → Q w H') → r v u H Q
theorem tr_fr {F H : Hp} {d : D} {v : V} (h : IsV W F d v) : Tr W F H (.fr d) v [] := by unfold Tr; exact ⟨rfl, h⟩
theorem tr_int {F H : Hp} {i : Int} : Tr W F H (.fr (.int i)) (.int i) [] := tr_fr (by simp only [IsV])
theorem tr_bl {F H : Hp} {i : Bool} : Tr W F H (.fr (.bl i)) (.bl i) [] := tr_fr (by simp only [IsV])
theorem tr_non {F H : Hp} : Tr W F H (.fr .non) .non [] := tr_fr (by simp only [IsV])
theorem tr_str {F H : Hp} {t : List Nat} (h : t.length ≤ 16777216) : Tr W F H (.fr (.str t)) (.str (S t)) [] := tr_fr (by unfold IsV; exact ⟨rfl, h⟩)
theorem tr_fl {F H : Hp} {p : Addr} {ds : List D} {vs : List V} (h : H p = some (.lst vs)) (k : IsVs W F ds vs) (l : ds.length ≤ 16777216) : Tr W F H (.fl ds) (.ref p) [p] := by simp only [Tr]; exact ⟨p, vs, rfl, h, rfl, k, l⟩
theorem tr_tp {F H : Hp} {p : Addr} {ds : List D} {vs : List V} (h : F p = some (.tup vs)) (k : IsVs W F ds vs) : Tr W F H (.fr (.tp ds)) (.ref p) [] := tr_fr (by simp only [IsV]; exact ⟨p, vs, rfl, h, k⟩)

theorem vL_is {F H : Hp} {x : O} {v : V} {B : List Addr} {a : List D} (g : Same F H) (h : Tr W F H x v B) (e : vL x = some a) : ∃ p vs, v = .ref p ∧ H p = some (.lst vs) ∧ IsVs W F a vs ∧ a.length ≤ 16777216 := by
  unfold vL at e
  split at e
  · cases e
    simp only [Tr, IsV] at h
    obtain ⟨_, p, vs, e, h1, h2, h3⟩ := h
    exact ⟨p, vs, e, g _ _ h1, h2, h3⟩
  · cases e
    simp only [Tr] at h
    obtain ⟨p, vs, e, h1, _, h2, h3⟩ := h
    exact ⟨p, vs, e, h1, h2, h3⟩
  · cases e
theorem vK_is {F H : Hp} {x : O} {v : V} {B : List Addr} {a : List D} (g : Same F H) (h : Tr W F H x v B) (e : vK x = some a) : ∃ p vs, v = .ref p ∧ SqL W.K H p vs ∧ IsVs W F a vs ∧ a.length ≤ 16777216 := by
  unfold vK at e
  split at e
  · cases e
    simp only [Tr, IsV] at h
    obtain ⟨_, p, vs, e, h1, h2, h3⟩ := h
    exact ⟨p, vs, e, SqL.of (g _ _ h1), h2, h3⟩
  · cases e
    simp only [Tr, IsV] at h
    obtain ⟨_, p, vs, e, h1, h2, h3⟩ := h
    exact ⟨p, vs, e, h1.mono' g, h2, h3⟩
  · cases e
    simp only [Tr] at h
    obtain ⟨p, vs, e, h1, _, h2, h3⟩ := h
    exact ⟨p, vs, e, SqL.of h1, h2, h3⟩
  · cases e
theorem fz_int {F H : Hp} {x : O} {v : V} {B : List Addr} {i : Int} (h : Tr W F H x v B) (e : x.fz = .int i) : v = .int i := by
  cases x <;> simp only [O.fz, reduceCtorEq] at e
  subst e
  simp only [Tr, IsV] at h
  exact h.2
theorem fz_str {F H : Hp} {x : O} {v : V} {B : List Addr} {t : List Nat} (h : Tr W F H x v B) (e : x.fz = .str t) : v = .str (S t) ∧ t.length ≤ 16777216 := by
  cases x <;> simp only [O.fz, reduceCtorEq] at e
  subst e
  simp only [Tr, IsV] at h
  exact h.2
theorem fz_bl {F H : Hp} {x : O} {v : V} {B : List Addr} {t : Bool} (h : Tr W F H x v B) (e : x.fz = .bl t) : v = .bl t := by
  cases x <;> simp only [O.fz, reduceCtorEq] at e
  subst e
  simp only [Tr, IsV] at h
  exact h.2
theorem fz_non {F H : Hp} {x : O} {v : V} {B : List Addr} (h : Tr W F H x v B) (e : x.fz = .non) : v = .non := by
  cases x <;> simp only [O.fz, reduceCtorEq] at e
  subst e
  simp only [Tr, IsV] at h
  exact h.2

noncomputable def rCatW : R2 := fun x y H Q => ∃ a b xs ys, x = .ref a ∧ y = .ref b ∧ H a = some (.tup xs) ∧ H b = some (.tup ys) ∧ xs.length + ys.length ≤ 1000000 ∧
  (ys = [] → Q (.ref a) H) ∧ (xs = [] → Q (.ref b) H) ∧ ∀ p, H p = none → Q (.ref p) (upd H p (.tup (xs ++ ys)))
theorem op_catW {X : Cx} : OpR X (binaryOp .Add) rCatW := by
  intro pins s σ H x y v u Q I rx ry h
  obtain ⟨a, b, xs, ys, rfl, rfl, ha, hb, hz, q1, q2, q3⟩ := h
  by_cases hx : xs = []
  · subst hx
    cases rx
    cases ry
    obtain ⟨its, r1, p1, _⟩ := I.tuple (SqT.of ha)
    obtain ⟨its2, r2, p2, _⟩ := I.tuple (SqT.of hb)
    obtain ⟨⟨cls, dd, data, sl⟩, ho, hc, n, hd⟩ := id p1
    obtain ⟨⟨cls2, dd2, data2, sl2⟩, ho2, hc2, n2, hd2⟩ := id p2
    simp only at hc hd hc2 hd2
    subst hc hd hc2 hd2
    have e0 : its = [] := r1.nil_iff.mpr rfl
    exact concat_meets ⟨_, ho, rfl⟩ ⟨_, ho2, rfl⟩ noFill_tuple_add seq_tuple_add PySem.F.slot_tuple_add PySem.F.entry_tuple_add (PySem.F.args_tuple_add_2 _ _)
      (tuple_addW0 a b its.toArray its2.toArray n n2 dd dd2 sl sl2 (by simp [e0])) ⟨ho, ho2, .ref b, H, I, rfl, q2 rfl⟩
  · exact op_catT pins s σ H _ _ v u Q I rx ry ⟨a, b, xs, ys, rfl, rfl, SqT.of ha, SqT.of hb, hx, by rw [sizeLine_eq]; omega, fun e => q1 e, fun _ p hp => q3 p hp⟩
noncomputable def rSlW : V → Option Int → Option Int → Hp → VK → Prop := fun x lo hi H Q => ∃ a xs, x = .ref a ∧ H a = some (.tup xs) ∧ (cutV xs lo hi = xs → Q (.ref a) H) ∧ ∀ p, H p = none → Q (.ref p) (upd H p (.tup (cutV xs lo hi)))
theorem sl_tupW {X : Cx} : SlR X rSlW := by
  intro pins s σ H x v vl vu lo hi sl Q I rx hs pl pu h
  obtain ⟨a, xs, rfl, hx, q1, q2⟩ := h
  by_cases hw : HT.sIx xs.length 0 lo = 0 ∧ HT.sIx xs.length xs.length hi = xs.length
  · cases rx
    obtain ⟨its, r, ht, hz⟩ := I.tuple (SqT.of hx)
    have hlen : its.toArray.size = xs.length := by rw [List.size_toArray]; exact r.length.symm
    refine ⟨"tuple", _, PyProof.Rows.slot_tuple_getitem.lookup, ht.typeIs, ?_⟩
    refine HT.getItem_tuple_whole ht hs pl pu (by rw [hlen]; exact hw) ⟨.ref a, H, I, rfl, q1 ?_⟩
    unfold cutV
    rw [hw.1, hw.2, List.drop_zero, Nat.sub_zero, List.take_length]
  · exact sl_tup pins s σ H _ v vl vu lo hi sl Q I rx hs pl pu ⟨a, xs, rfl, SqT.of hx, hw, q2⟩
noncomputable def addR : R2 := fun x y H Q => rI0 (fun i j => .int (i + j)) x y H Q ∨ (∃ i j, x = .str (S i) ∧ y = .str (S j) ∧ i.length + j.length ≤ sizeLine ∧ Q (.str (S (i ++ j))) H) ∨ rCatW x y H Q ∨ rCat x y H Q
noncomputable def mulR : R2 := fun x y H Q => rI IntMulOk (fun i j => .int (i * j)) x y H Q ∨ rMulS x y H Q ∨ rMulL x y H Q
noncomputable def binR : BO → R2
  | .add => addR
  | .sub => rI0 fun i j => .int (i - j)
  | .mul => mulR
  | .fdiv => rI CDiv fun i j => .int (i / j)
  | .mod => rI (fun _ j => 0 < j) fun i j => .int (i % j)
  | .pow => rI CPow fun i j => .int (i ^ j.toNat)
  | .shr => rI (fun _ j => 0 ≤ j) fun i j => .int (i / 2 ^ j.toNat)
noncomputable def binC : BO → Operator
  | .add => .Add
  | .sub => .Sub
  | .mul => .Mult
  | .fdiv => .FloorDiv
  | .mod => .Mod
  | .pow => .Pow
  | .shr => .RShift
theorem opR_or {X : Cx} {f : Value → Value → Sem Value} {r r' : R2} (h : OpR X f r) (k : OpR X f r') : OpR X f (fun x y H Q => r x y H Q ∨ r' x y H Q) := by
  intro pins s σ H x y v u Q I rx ry z
  rcases z with z | z
  · exact h pins s σ H x y v u Q I rx ry z
  · exact k pins s σ H x y v u Q I rx ry z
theorem op_bin {X : Cx} (op : BO) : OpR X (binaryOp (binC op)) (binR op) := by
  cases op
  · exact opR_or op_add (opR_or op_addS (opR_or op_catW op_cat))
  · exact op_sub
  · exact opR_or op_mulI (opR_or op_mulS op_mulL)
  · exact op_fdiv
  · exact op_mod
  · exact op_pow
  · exact op_shr
theorem os_bin (op : BO) : OS W (binR op) (binO op) := by
  intro F H x y v u B1 B2 o Q g hx hy e q
  unfold binO at e
  split at e
  · rename_i i j ex ey
    have hv := fz_int hx ex
    have hu := fz_int hy ey
    subst hv; subst hu
    have fin : ∀ k, o = .fr (.int k) → Q (.int k) H := fun k z => by subst z; exact q _ F H [] (Al.refl g) tr_int
    cases op <;> simp only [intOp] at e
    · cases e; exact .inl ⟨i, j, rfl, rfl, fin _ rfl⟩
    · cases e; exact ⟨i, j, rfl, rfl, fin _ rfl⟩
    · split at e
      · cases e; exact .inl ⟨i, j, rfl, rfl, by assumption, fin _ rfl⟩
      · cases e
    · split at e
      · cases e; exact ⟨i, j, rfl, rfl, by assumption, fin _ rfl⟩
      · cases e
    · split at e
      · cases e; exact ⟨i, j, rfl, rfl, by assumption, fin _ rfl⟩
      · cases e
    · split at e
      · cases e; exact ⟨i, j, rfl, rfl, by assumption, fin _ rfl⟩
      · cases e
    · split at e
      · cases e; exact ⟨i, j, rfl, rfl, by assumption, fin _ rfl⟩
      · cases e
  · rename_i a b ex ey
    obtain ⟨hv, la⟩ := fz_str hx ex
    obtain ⟨hu, lb⟩ := fz_str hy ey
    subst hv; subst hu
    split at e
    · rename_i h
      obtain ⟨rfl, h⟩ := h
      cases e
      exact .inr (.inl ⟨a, b, rfl, rfl, by rw [PySem.sizeLine_eq]; exact h, q _ F H [] (Al.refl g) (tr_str (by rw [List.length_append]; exact h))⟩)
    · cases e
  · rename_i a n ex ey
    obtain ⟨hv, la⟩ := fz_str hx ex
    have hu := fz_int hy ey
    subst hv; subst hu
    split at e
    · rename_i h
      obtain ⟨rfl, h0, h1, h2⟩ := h
      cases e
      refine .inr (.inl ⟨a, n, rfl, rfl, h0, h1, h2, q _ F H [] (Al.refl g) (tr_str ?_)⟩)
      simpa [List.length_flatten, Nat.mul_comm] using h2
    · cases e
  · rename_i a b ex ey
    split at e
    · simp only [O.fz] at ex ey
      subst ex; subst ey
      simp only [Tr, IsV] at hx hy
      obtain ⟨_, p1, v1, e1, h1, k1⟩ := hx
      obtain ⟨_, p2, v2, e2, h2, k2⟩ := hy
      split at e
      · rename_i h
        obtain ⟨rfl, h⟩ := h
        cases e
        have kk := k1.app k2
        refine .inr (.inr (.inl ⟨p1, p2, v1, v2, e1, e2, g _ _ h1, g _ _ h2, by rw [k1.len, k2.len]; exact h, fun z => ?_, fun z => ?_, fun p hp => ?_⟩))
        · subst z
          rw [List.append_nil] at kk
          exact q _ F H [] (Al.refl g) (tr_tp h1 kk)
        · subst z
          exact q _ F H [] (Al.refl g) (tr_tp h2 kk)
        · exact q _ _ _ [] (Al.froz g hp) (tr_tp upd_same (kk.mono (Al.froz (F := F) g hp).sF))
      · cases e
    · cases e
  · rename_i ex ey
    split at e
    · rename_i a b e1 e2
      obtain ⟨p1, v1, rfl, h1, k1, l1⟩ := vL_is g hx e1
      obtain ⟨p2, v2, rfl, h2, k2, l2⟩ := vL_is g hy e2
      split at e
      · rename_i h
        obtain ⟨rfl, h⟩ := h
        cases e
        refine .inr (.inr (.inr ⟨p1, p2, v1, v2, rfl, rfl, h1, h2, by rw [k1.len, k2.len, PySem.sizeLine_eq]; exact h, fun p hp => ?_⟩))
        exact q _ F _ [p] (Al.cell g hp) (tr_fl upd_same (k1.app k2) (by rw [List.length_append]; exact h))
      · cases e
    · cases e
  · rename_i ex ey
    split at e
    · rename_i a e1
      obtain ⟨p1, v1, rfl, h1, k1, l1⟩ := vL_is g hx e1
      have hu := fz_int hy ey
      subst hu
      split at e
      · rename_i h
        obtain ⟨rfl, h0, h2, h3⟩ := h
        cases e
        refine .inr (.inr ⟨p1, v1, _, rfl, rfl, h1, h0, h2, by rw [k1.len]; exact h3, fun p hp => ?_⟩)
        refine q _ F _ [p] (Al.cell g hp) (tr_fl upd_same (k1.rep _) ?_)
        simpa [List.length_flatten, Nat.mul_comm] using h3
      · cases e
    · cases e
  · cases e
end L3

set_option Elab.async false
set_option linter.all false
set_option maxRecDepth 100000
namespace L3
open PySem L2 PySem.Spec PyProof.Rows
variable {W : Wd}

theorem sc_is {F : Hp} {d : D} {v x : V} (h : IsV W F d v) (e : d.sc = some x) : v = x ∧ flatV x = true := by
  cases d <;> simp only [D.sc, Option.some.injEq, reduceCtorEq] at e <;> subst e <;> simp only [IsV] at h
  · exact ⟨h, rfl⟩
  · exact ⟨h, rfl⟩
  · exact ⟨h, rfl⟩
  · exact ⟨h.1, rfl⟩
theorem scs_is {F : Hp} : ∀ {ds : List D} {vs xs : List V}, IsVs W F ds vs → scs ds = some xs → vs = xs ∧ xs.all flatV = true
  | [], _, _, h, e => by
    simp only [scs, Option.some.injEq] at e; subst e
    simp only [IsVs] at h
    exact ⟨h, rfl⟩
  | d :: ds, _, _, h, e => by
    simp only [IsVs] at h
    obtain ⟨v, r, rfl, h1, h2⟩ := h
    simp only [scs] at e
    split at e
    · rename_i x xs e1 e2
      simp only [Option.some.injEq] at e; subst e
      obtain ⟨rfl, f1⟩ := sc_is h1 e1
      obtain ⟨rfl, f2⟩ := scs_is h2 e2
      exact ⟨rfl, by rw [List.all_cons, f1, f2]; rfl⟩
    · cases e
mutual
theorem dat_is {H : Hp} : ∀ {d : D} {v : V} {e : Dat}, IsV W H d v → d.dat = some e → IsDt H e v
  | .non, _, _, h, e => by simp only [D.dat, Option.some.injEq] at e; subst e; simp only [IsV] at h; subst h; exact ⟨rfl, rfl⟩
  | .bl _, _, _, h, e => by simp only [D.dat, Option.some.injEq] at e; subst e; simp only [IsV] at h; subst h; exact ⟨rfl, rfl⟩
  | .int _, _, _, h, e => by simp only [D.dat, Option.some.injEq] at e; subst e; simp only [IsV] at h; subst h; exact ⟨rfl, rfl⟩
  | .str _, _, _, h, e => by simp only [D.dat, Option.some.injEq] at e; subst e; simp only [IsV] at h; obtain ⟨rfl, _⟩ := h; exact ⟨rfl, rfl⟩
  | .tp ds, _, _, h, e => by
    simp only [D.dat, Option.map_eq_some_iff] at e
    obtain ⟨es, e, rfl⟩ := e
    simp only [IsV] at h
    obtain ⟨p, vs, rfl, h1, h2⟩ := h
    simp only [IsDt]
    exact ⟨p, vs, rfl, h1, dats_is h2 e⟩
  | .ls ds, _, _, h, e => by
    simp only [D.dat, Option.map_eq_some_iff] at e
    obtain ⟨es, e, rfl⟩ := e
    simp only [IsV] at h
    obtain ⟨p, vs, rfl, h1, h2, _⟩ := h
    simp only [IsDt]
    exact ⟨p, vs, rfl, h1, dats_is h2 e⟩
  | .kt _, _, _, _, e => by simp only [D.dat, reduceCtorEq] at e
  | .kl _, _, _, _, e => by simp only [D.dat, reduceCtorEq] at e
  | .dc _ _, _, _, _, e => by simp only [D.dat, reduceCtorEq] at e
  | .ob _ _ _, _, _, _, e => by simp only [D.dat, reduceCtorEq] at e
  | .xo _ _ _, _, _, _, e => by simp only [D.dat, reduceCtorEq] at e
theorem dats_is {H : Hp} : ∀ {ds : List D} {vs : List V} {es : List Dat}, IsVs W H ds vs → dats ds = some es → IsDs H es vs
  | [], _, _, h, e => by simp only [dats, Option.some.injEq] at e; subst e; simp only [IsVs] at h; subst h; simp only [IsDs]
  | d :: ds, _, _, h, e => by
    simp only [IsVs] at h
    obtain ⟨v, r, rfl, h1, h2⟩ := h
    simp only [dats] at e
    split at e
    · rename_i x xs e1 e2
      simp only [Option.some.injEq] at e; subst e
      simp only [IsDs]
      exact ⟨_, _, rfl, dat_is h1 e1, dats_is h2 e2⟩
    · cases e
end
theorem dat_ref {F : Hp} {d : D} {v : V} {e : Dat} (h : IsV W F d v) (e1 : d.sc = none) (e2 : d.dat = some e) : ∃ a, v = .ref a := by
  cases d <;> simp only [D.sc, D.dat, reduceCtorEq] at e1 e2 <;> simp only [IsV] at h
  · obtain ⟨p, _, e, _⟩ := h; exact ⟨p, e⟩
  · obtain ⟨p, _, e, _⟩ := h; exact ⟨p, e⟩
theorem not_non {F : Hp} {d : D} {v : V} (h : IsV W F d v) (n : d ≠ .non) : v ≠ .non := by
  cases d <;> simp only [IsV] at h <;> first | exact absurd rfl n | skip
  · rw [h]; simp
  · rw [h]; simp
  · rw [h.1]; simp
  · obtain ⟨p, vs, e, _⟩ := h; rw [e]; simp
  · obtain ⟨p, vs, e, _⟩ := h; rw [e]; simp
  · obtain ⟨p, vs, e, _⟩ := h; rw [e]; simp
  · obtain ⟨p, vs, e, _⟩ := h; rw [e]; simp
  · obtain ⟨p, vs, e, _⟩ := h; rw [e]; simp
  · obtain ⟨p, dx, vs, e, _⟩ := h; rw [e]; simp
  · obtain ⟨p, vs, e, _⟩ := h; rw [e]; simp
theorem items_is {H : Hp} {d : D} {v : V} {ys : List D} (h : IsV W H d v) (e : itemsD d = some ys) : ∃ p vs, v = .ref p ∧ (SqL W.K H p vs ∨ SqT W.K H p vs) ∧ IsVs W H ys vs := by
  cases d <;> simp only [itemsD, Option.some.injEq, reduceCtorEq] at e <;> subst e <;> simp only [IsV] at h
  · obtain ⟨p, vs, e, h1, h2⟩ := h; exact ⟨p, vs, e, .inr (SqT.of h1), h2⟩
  · obtain ⟨p, vs, e, h1, h2, _⟩ := h; exact ⟨p, vs, e, .inl (SqL.of h1), h2⟩
  · obtain ⟨p, vs, e, h1, h2⟩ := h; exact ⟨p, vs, e, .inr h1, h2⟩
  · obtain ⟨p, vs, e, h1, h2, _⟩ := h; exact ⟨p, vs, e, .inl h1, h2⟩
noncomputable def cmpR (K : PySem.W.Frag) : CO → R2
  | .eq => fun x y H Q => rEq x y H Q ∨ rEqD x y H Q
  | .ne => fun x y H Q => rNe x y H Q ∨ rNeD x y H Q
  | .lt => rI0 fun i j => .bl (decide (i < j))
  | .le => rI0 fun i j => .bl (decide (i ≤ j))
  | .gt => rI0 fun i j => .bl (decide (j < i))
  | .ge => rI0 fun i j => .bl (decide (j ≤ i))
  | .isin => fun x y H Q => (∃ i j, x = .str i ∧ y = .str j ∧ Q (.bl !(Builtin.Str.occurrences j i 0 j.length 1).isEmpty) H) ∨ rIn K false x y H Q
  | .notin => fun x y H Q => (∃ i j, x = .str i ∧ y = .str j ∧ Q (.bl !(!(Builtin.Str.occurrences j i 0 j.length 1).isEmpty)) H) ∨ rIn K true x y H Q
  | .is => fun x y H Q => (y = .non ∧ Q (.bl (decide (x = .non))) H) ∨ rIsB x y H Q
  | .isnot => fun x y H Q => (y = .non ∧ Q (.bl (!decide (x = .non))) H) ∨ rIsNotB x y H Q
noncomputable def cmpC : CO → CmpOp
  | .eq => .Eq
  | .ne => .NotEq
  | .lt => .Lt
  | .le => .LtE
  | .gt => .Gt
  | .ge => .GtE
  | .isin => .In
  | .notin => .NotIn
  | .is => .Is
  | .isnot => .IsNot
theorem op_cmp {X : Cx} {K : PySem.W.Frag} (hK : X.K = K) (hu : X.A.units + 64 < cLine) (op : CO) : OpR X (compareOp (cmpC op)) (cmpR K op) := by
  cases op
  · exact opR_or op_eq (op_eqD hu)
  · exact opR_or op_ne (op_neD hu)
  · exact op_lt
  · exact op_le
  · exact op_gt
  · exact op_ge
  · exact opR_or op_in_str (op_inQK hK)
  · exact opR_or op_notin_str (op_notinQK hK)
  · exact opR_or op_isN op_isB
  · exact opR_or op_notN op_isnotB
theorem eq_is {F H : Hp} {x y : O} {v u : V} {B1 B2 : List Addr} {b : Bool} {Q : VK} (g : Same F H) (hx : Tr W F H x v B1) (hy : Tr W F H y u B2) (e : eqDD x.fz y.fz = some b) :
    (scal v u = true ∧ decide (v = u) = b) ∨ ∃ d e a c, v = .ref a ∧ u = .ref c ∧ IsDt H d (.ref a) ∧ IsDt H e (.ref c) ∧ depD d ≤ 50 ∧ eqD d e = b := by
  have h1 := hx.now g
  have h2 := hy.now g
  unfold eqDD at e
  split at e
  · rename_i x' y' e1 e2
    obtain ⟨rfl, _⟩ := sc_is h1 e1
    obtain ⟨rfl, _⟩ := sc_is h2 e2
    split at e
    · cases e; exact .inl ⟨by assumption, rfl⟩
    · cases e
  · rename_i e1 e2
    split at e
    · rename_i d' e' q1 q2
      split at e
      · cases e
        obtain ⟨a, rfl⟩ := dat_ref h1 e1 q1
        obtain ⟨c, rfl⟩ := dat_ref h2 e2 q2
        exact .inr ⟨d', e', a, c, rfl, rfl, dat_is h1 q1, dat_is h2 q2, by assumption, rfl⟩
      · cases e
    · cases e
  · cases e
theorem in_is {F H : Hp} {x y : O} {v u : V} {B1 B2 : List Addr} {b : Bool} (g : Same F H) (hx : Tr W F H x v B1) (hy : Tr W F H y u B2) (e : inDD x.fz y.fz = some b) :
    (∃ i j, v = .str i ∧ u = .str j ∧ (!(Builtin.Str.occurrences j i 0 j.length 1).isEmpty) = b) ∨ ∃ p xs, u = .ref p ∧ (SqL W.K H p xs ∨ SqT W.K H p xs) ∧ flatV v = true ∧ xs.all flatV = true ∧ inV v xs = b := by
  have h1 := hx.now g
  have h2 := hy.now g
  unfold inDD at e
  split at e
  · rename_i c l q1 q2
    cases e
    exact .inl ⟨S [c], S l, (fz_str hx q1).1, (fz_str hy q2).1, StrLaws.found_one (S l) c⟩
  · rename_i y' l q0 q1 q2
    cases e
    exact .inl ⟨S y', S l, (fz_str hx q1).1, (fz_str hy q2).1, rfl⟩
  · split at e
    · rename_i x' ys e1 e2
      split at e
      · rename_i vs e3
        cases e
        obtain ⟨rfl, f1⟩ := sc_is h1 e1
        obtain ⟨p, us, rfl, h3, h4⟩ := items_is h2 e2
        obtain ⟨rfl, f2⟩ := scs_is h4 e3
        exact .inr ⟨p, us, rfl, h3, f1, f2, rfl⟩
      · cases e
    · cases e
theorem is_is {F H : Hp} {x y : O} {v u : V} {B1 B2 : List Addr} {b : Bool} (g : Same F H) (hx : Tr W F H x v B1) (hy : Tr W F H y u B2) (e : isDD x.fz y.fz = some b) :
    (u = .non ∧ decide (v = .non) = b) ∨ ∃ c, u = .bl c ∧ ∃ b', v = .bl b' ∧ (b' == c) = b := by
  have h1 := hx.now g
  unfold isDD at e
  split at e
  · rename_i q
    refine .inl ⟨fz_non hy q, ?_⟩
    split at e
    · rename_i q1
      cases e
      rw [fz_non hx q1]; rfl
    · rename_i q1
      cases e
      exact decide_eq_false (not_non h1 q1)
  · rename_i c q
    split at e
    · rename_i b' q1
      cases e
      exact .inr ⟨c, fz_bl hy q, b', fz_bl hx q1, rfl⟩
    · cases e
  · cases e
theorem os_cmp (op : CO) : OS W (cmpR W.K op) (fun x y => (cmpO op x y).map fb) := by
  intro F H x y v u B1 B2 o Q g hx hy e q
  simp only [Option.map_eq_some_iff] at e
  obtain ⟨b, e, rfl⟩ := e
  have fin : Q (.bl b) H := q _ F H [] (Al.refl g) tr_bl
  cases op <;> simp only [cmpO] at e
  · rcases eq_is (Q := Q) g hx hy e with ⟨h1, h2⟩ | ⟨d, d', a, c, e1, e2, h1, h2, h3, h4⟩
    · exact .inl ⟨h1, by rw [h2]; exact fin⟩
    · exact .inr ⟨d, d', a, c, e1, e2, h1, h2, h3, by rw [h4]; exact fin⟩
  · simp only [Option.map_eq_some_iff] at e
    obtain ⟨b', e, rfl⟩ := e
    rcases eq_is (Q := Q) g hx hy e with ⟨h1, h2⟩ | ⟨d, d', a, c, e1, e2, h1, h2, h3, h4⟩
    · exact .inl ⟨h1, by rw [h2]; exact fin⟩
    · exact .inr ⟨d, d', a, c, e1, e2, h1, h2, h3, by rw [h4]; exact fin⟩
  · split at e
    · rename_i i j q1 q2
      cases e
      exact ⟨i, j, fz_int hx q1, fz_int hy q2, fin⟩
    · cases e
  · split at e
    · rename_i i j q1 q2
      cases e
      exact ⟨i, j, fz_int hx q1, fz_int hy q2, fin⟩
    · cases e
  · split at e
    · rename_i i j q1 q2
      cases e
      exact ⟨i, j, fz_int hx q1, fz_int hy q2, fin⟩
    · cases e
  · split at e
    · rename_i i j q1 q2
      cases e
      exact ⟨i, j, fz_int hx q1, fz_int hy q2, fin⟩
    · cases e
  · rcases in_is g hx hy e with ⟨c, l, e1, e2, h⟩ | ⟨p, xs, e1, h1, h2, h3, h4⟩
    · exact .inl ⟨c, l, e1, e2, by rw [h]; exact fin⟩
    · exact .inr ⟨p, xs, e1, h1, h2, h3, by rw [h4]; exact fin⟩
  · simp only [Option.map_eq_some_iff] at e
    obtain ⟨b', e, rfl⟩ := e
    rcases in_is g hx hy e with ⟨c, l, e1, e2, h⟩ | ⟨p, xs, e1, h1, h2, h3, h4⟩
    · exact .inl ⟨c, l, e1, e2, by rw [h]; exact fin⟩
    · exact .inr ⟨p, xs, e1, h1, h2, h3, by rw [h4]; exact fin⟩
  · rcases is_is g hx hy e with ⟨e1, h⟩ | ⟨c, e1, b', e2, h⟩
    · exact .inl ⟨e1, by rw [h]; exact fin⟩
    · exact .inr ⟨c, e1, b', e2, by rw [h]; exact fin⟩
  · simp only [Option.map_eq_some_iff] at e
    obtain ⟨b', e, rfl⟩ := e
    rcases is_is g hx hy e with ⟨e1, h⟩ | ⟨c, e1, b'', e2, h⟩
    · exact .inl ⟨e1, by rw [h]; exact fin⟩
    · exact .inr ⟨c, e1, b'', e2, by rw [h]; exact fin⟩
end L3

set_option Elab.async false
set_option linter.all false
set_option maxRecDepth 100000
namespace L3
open PySem L2 PySem.Spec PyProof.Rows
variable {W : Wd}

theorem TrL.len {F H : Hp} : ∀ {os : List O} {vs : List V} {A : List Addr}, TrL W F H os vs A → vs.length = os.length
  | [], _, _, h => by simp only [TrL] at h; rw [h.1]; rfl
  | o :: os, _, _, h => by
    simp only [TrL] at h
    obtain ⟨v, r, A1, A2, e, rfl, h1, h2⟩ := h
    rw [e, List.length_cons, List.length_cons, TrL.len h2]
theorem TrL.get {F H : Hp} : ∀ {os : List O} {vs : List V} {A : List Addr} {j : Nat} {o : O}, TrL W F H os vs A → os[j]? = some o → ∃ v B, vs[j]? = some v ∧ Tr W F H o v B ∧ ∀ b ∈ B, b ∈ A
  | [], _, _, _, _, _, e => by simp at e
  | o :: os, _, _, 0, _, h, e => by
    simp only [TrL] at h
    obtain ⟨v, r, A1, A2, rfl, rfl, h1, h2⟩ := h
    simp at e; subst e
    exact ⟨v, A1, rfl, h1, fun b hb => List.mem_append_left _ hb⟩
  | o :: os, _, _, j + 1, _, h, e => by
    simp only [TrL] at h
    obtain ⟨v, r, A1, A2, rfl, rfl, h1, h2⟩ := h
    obtain ⟨w, B, e1, e2, e3⟩ := TrL.get (j := j) h2 (by simpa using e)
    exact ⟨w, B, by simpa using e1, e2, fun b hb => List.mem_append_right _ (e3 b hb)⟩
theorem TrL.at {F H : Hp} {os : List O} {vs : List V} {A : List Addr} {i : Int} {o : O} (h : TrL W F H os vs A) (e : atI os i = some o) : ∃ v B, atI vs i = some v ∧ Tr W F H o v B ∧ ∀ b ∈ B, b ∈ A := by
  unfold atI at e ⊢
  rw [h.len]
  cases q : ixN os.length i with
  | none => rw [q] at e; cases e
  | some j =>
    rw [q] at e
    obtain ⟨v, B, h1, h2, h3⟩ := TrL.get h e
    exact ⟨v, B, h1, h2, h3⟩
noncomputable def rIxD : R2 := fun x y H Q => ∃ a v, x = .ref a ∧ DGet H a y (some v) ∧ Q v H
theorem ix_dict {X : Cx} (hu : X.A.units + 1 < cLine) : IxR X rIxD := by
  intro value slice pins s σ H x y v u Q I rx ry h hs
  obtain ⟨a, z, rfl, g, q⟩ := h
  obtain rfl : v = Value.ref a := rx
  have hT := dict_typeIs I g
  unfold subscriptTail
  refine wpAny_bind ?_
  rw [getitemInPython_of_ne hT.not_modules]
  refine wpAny_bind (wpAny_specialOf hT PySem.F.slot_dict_getitem.lookup ?_)
  have fin : wpAny (model X.prog X.w) X.A (subscripted slice false (.ref a) u) (fun r s₃ => wpAny (model X.prog X.w) X.A (letTemporaryGo value (.ref a) r >>= fun _ => pure r) (EP X pins σ Q) X.xe s₃) X.xe s := by
    rw [hs]
    exact wpAny_operating (wpAny_mono (d_getItem (Q := EP X pins σ Q) hu I g ry fun w' s3 I3 rw' => ⟨z, H, I3, rw', q⟩) (fun r s₃ h₃ => wpAny_bind (wpAny_letTemporaryGo (wpAny_pure h₃))) fun _ _ x => x)
  first
    | exact wpAny_pure (wpAny_bind fin)
    | exact wpAny_bind (wpAny_pure (wpAny_bind fin))
    | exact wpAny_bind fin
theorem ixR_or {X : Cx} {r r' : R2} (h : IxR X r) (k : IxR X r') : IxR X (fun x y H Q => r x y H Q ∨ r' x y H Q) := by
  intro value slice pins s σ H x y v u Q I rx ry z hs
  rcases z with z | z
  · exact h value slice pins s σ H x y v u Q I rx ry z hs
  · exact k value slice pins s σ H x y v u Q I rx ry z hs
noncomputable def ixR (K : PySem.W.Frag) : R2 := fun x y H Q => rIxL K x y H Q ∨ rIxT K x y H Q ∨ rIxSS x y H Q ∨ rIxD x y H Q
theorem ix_any {X : Cx} {K : PySem.W.Frag} (hK : X.K = K) (hu : X.A.units + 64 < cLine) : IxR X (ixR K) := ixR_or (ix_listK hK) (ixR_or (ix_tupK hK) (ixR_or ix_S (ix_dict (by omega))))
theorem dget_is {F : Hp} : ∀ {ks : List Key} {xs : List D} {kvs : List (Key × V)} {k : Key} {d : D}, kvs.map (·.1) = ks → IsVs W F xs (kvs.map (·.2)) → dget ks xs k = some d → ∃ v, valV kvs k = some v ∧ IsV W F d v
  | _, _, [], _, _, e, h, q => by
    subst e
    simp [dget] at q
  | _, xs, (k', v') :: kvs, k, d, e, h, q => by
    subst e
    simp only [List.map_cons] at h q
    cases xs with
    | nil => simp [dget] at q
    | cons x xs =>
      simp only [IsVs] at h
      obtain ⟨w, r, e1, h1, h2⟩ := h
      cases e1
      by_cases hk : k' = k
      · subst hk
        simp [dget] at q
        subst q
        exact ⟨v', by simp [valV], h1⟩
      · have q' : dget (kvs.map (·.1)) xs k = some d := by
          simpa [dget, List.find?_cons, hk] using q
        obtain ⟨v, e2, h3⟩ := dget_is rfl h2 q'
        refine ⟨v, ?_, h3⟩
        unfold valV at e2 ⊢
        rw [List.find?_cons]
        simpa [hk] using e2
theorem dget_none {F : Hp} : ∀ {ks : List Key} {xs : List D} {kvs : List (Key × V)} {k : Key}, kvs.map (·.1) = ks → IsVs W F xs (kvs.map (·.2)) → dget ks xs k = none → valV kvs k = none
  | _, _, [], _, e, h, q => by simp [valV]
  | _, xs, (k', v') :: kvs, k, e, h, q => by
    subst e
    simp only [List.map_cons] at h q
    cases xs with
    | nil => simp only [IsVs, reduceCtorEq] at h
    | cons x xs =>
      simp only [IsVs] at h
      obtain ⟨w, r, e1, h1, h2⟩ := h
      cases e1
      by_cases hk : k' = k
      · subst hk
        simp [dget] at q
      · have q' : dget (kvs.map (·.1)) xs k = none := by
          simpa [dget, List.find?_cons, hk] using q
        have e2 := dget_none rfl h2 q'
        unfold valV at e2 ⊢
        rw [List.find?_cons]
        simpa [hk] using e2

theorem os_ix {F H : Hp} {x y : O} {v u : V} {B1 B2 : List Addr} {o : O} {Q : VK} (g : Same F H) (hx : Tr W F H x v B1) (hy : Tr W F H y u B2) (e : ixO x y = some o) (q : ∀ w B, Tr W F H o w B → (∀ b ∈ B, b ∈ B1) → Q w H) : ixR W.K v u H Q := by
  unfold ixO at e
  split at e
  · rename_i i
    have hu : u = .int i := fz_int hy rfl
    subst hu
    split at e
    · rename_i xs
      simp only [Option.map_eq_some_iff] at e
      obtain ⟨d, e, rfl⟩ := e
      simp only [Tr, IsV] at hx
      obtain ⟨_, p, vs, rfl, h1, h2⟩ := hx
      obtain ⟨w, e1, h3⟩ := h2.at e
      exact .inr (.inl ⟨p, vs, i, w, rfl, rfl, SqT.of (g _ _ h1), e1, q w [] (tr_fr h3) (fun _ h => by cases h)⟩)
    · rename_i xs
      simp only [Option.map_eq_some_iff] at e
      obtain ⟨d, e, rfl⟩ := e
      simp only [Tr, IsV] at hx
      obtain ⟨_, p, vs, rfl, h1, h2, _⟩ := hx
      obtain ⟨w, e1, h3⟩ := h2.at e
      exact .inl ⟨p, vs, i, w, rfl, rfl, SqL.of (g _ _ h1), e1, q w [] (tr_fr h3) (fun _ h => by cases h)⟩
    · rename_i xs
      simp only [Option.map_eq_some_iff] at e
      obtain ⟨d, e, rfl⟩ := e
      simp only [Tr, IsV] at hx
      obtain ⟨_, p, vs, rfl, h1, h2⟩ := hx
      obtain ⟨w, e1, h3⟩ := h2.at e
      exact .inr (.inl ⟨p, vs, i, w, rfl, rfl, h1.mono' g, e1, q w [] (tr_fr h3) (fun _ h => by cases h)⟩)
    · rename_i xs
      simp only [Option.map_eq_some_iff] at e
      obtain ⟨d, e, rfl⟩ := e
      simp only [Tr, IsV] at hx
      obtain ⟨_, p, vs, rfl, h1, h2, _⟩ := hx
      obtain ⟨w, e1, h3⟩ := h2.at e
      exact .inl ⟨p, vs, i, w, rfl, rfl, h1.mono' g, e1, q w [] (tr_fr h3) (fun _ h => by cases h)⟩
    · rename_i t
      simp only [Option.map_eq_some_iff] at e
      obtain ⟨c, e, rfl⟩ := e
      obtain ⟨rfl, hl⟩ := fz_str hx rfl
      exact .inr (.inr (.inl ⟨t, i, c, rfl, rfl, by rw [sizeLine_eq]; exact hl, e, q _ [] (tr_str (by simp)) (fun _ h => by cases h)⟩))
    · rename_i xs
      simp only [Option.map_eq_some_iff] at e
      obtain ⟨d, e, rfl⟩ := e
      simp only [Tr] at hx
      obtain ⟨p, vs, rfl, h1, _, h2, _⟩ := hx
      obtain ⟨w, e1, h3⟩ := h2.at e
      exact .inl ⟨p, vs, i, w, rfl, rfl, SqL.of h1, e1, q w [] (tr_fr h3) (fun _ h => by cases h)⟩
    · rename_i xs
      simp only [Tr] at hx
      obtain ⟨p, vs, B, rfl, h1, rfl, h2, _⟩ := hx
      obtain ⟨w, B', e1, h3, h5⟩ := h2.at e
      exact .inl ⟨p, vs, i, w, rfl, rfl, SqL.of h1, e1, q w B' h3 fun b hb => List.mem_cons_of_mem _ (h5 b hb)⟩
    · rename_i xs
      simp only [Tr] at hx
      obtain ⟨p, vs, rfl, h1, h2⟩ := hx
      obtain ⟨w, B', e1, h3, h5⟩ := h2.at e
      exact .inr (.inl ⟨p, vs, i, w, rfl, rfl, SqT.of (g _ _ h1), e1, q w B' h3 h5⟩)
    · cases e
  · rename_i k
    obtain ⟨rfl, hl⟩ := fz_str hy rfl
    split at e
    · rename_i ks xs
      simp only [Option.map_eq_some_iff] at e
      obtain ⟨d, e, rfl⟩ := e
      simp only [Tr, IsV] at hx
      obtain ⟨_, p, kvs, rfl, h1, h2, h3, _⟩ := hx
      obtain ⟨w, e1, h4⟩ := dget_is (k := .inr (S k)) (d := d) h2 h3 (by unfold dget; rw [Option.map_eq_some_iff]; exact e)
      refine .inr (.inr (.inr ⟨p, w, rfl, ?_, q w [] (tr_fr h4) (fun _ h => by cases h)⟩))
      rw [← e1]
      exact DGet.k (k := .inr (S k)) (g _ _ h1)
    · rename_i ks xs
      simp only [Option.map_eq_some_iff] at e
      obtain ⟨d, e, rfl⟩ := e
      simp only [Tr] at hx
      obtain ⟨p, kvs, rfl, h1, _, h2, h3, _⟩ := hx
      obtain ⟨w, e1, h4⟩ := dget_is (k := .inr (S k)) (d := d) h2 h3 (by unfold dget; rw [Option.map_eq_some_iff]; exact e)
      refine .inr (.inr (.inr ⟨p, w, rfl, ?_, q w [] (tr_fr h4) (fun _ h => by cases h)⟩))
      rw [← e1]
      exact DGet.k (k := .inr (S k)) h1
    · cases e
  · cases e

theorem slR_or {X : Cx} {r r' : V → Option Int → Option Int → Hp → VK → Prop} (h : SlR X r) (k : SlR X r') : SlR X (fun x lo hi H Q => r x lo hi H Q ∨ r' x lo hi H Q) := by
  intro pins s σ H x v vl vu lo hi sl Q I rx hs pl pu z
  rcases z with z | z
  · exact h pins s σ H x v vl vu lo hi sl Q I rx hs pl pu z
  · exact k pins s σ H x v vl vu lo hi sl Q I rx hs pl pu z
noncomputable def slR (K : PySem.W.Frag) : V → Option Int → Option Int → Hp → VK → Prop := fun x lo hi H Q => (∃ l, x = .str (S l) ∧ l.length ≤ sizeLine ∧ Q (.str (S (cutN l lo hi))) H) ∨ rSlL K x lo hi H Q ∨ rSlW x lo hi H Q
theorem sl_any {X : Cx} {K : PySem.W.Frag} (hK : X.K = K) : SlR X (slR K) := slR_or sl_S (slR_or (sl_listK hK) sl_tupW)
theorem os_sl {F H : Hp} {x : O} {v : V} {B1 : List Addr} {lo hi : Option Int} {o : O} {Q : VK} (g : Same F H) (hx : Tr W F H x v B1) (e : slO x lo hi = some o) (q : ∀ w F' H' B, Al F H F' H' B → Tr W F' H' o w B → Q w H') : slR W.K v lo hi H Q := by
  unfold slO at e
  split at e
  · rename_i t
    cases e
    obtain ⟨rfl, hl⟩ := fz_str hx rfl
    exact .inl ⟨t, rfl, by rw [sizeLine_eq]; exact hl, q _ F H [] (Al.refl g) (tr_str (Nat.le_trans (cutL_len t lo hi) hl))⟩
  · rename_i xs
    cases e
    simp only [Tr, IsV] at hx
    obtain ⟨_, p, vs, rfl, h1, h2⟩ := hx
    have h3 := h2.cut lo hi
    refine .inr (.inr ⟨p, vs, rfl, g _ _ h1, fun z => ?_, fun p' hp => ?_⟩)
    · rw [z] at h3
      exact q _ F H [] (Al.refl g) (tr_tp h1 h3)
    · exact q _ _ _ [] (Al.froz g hp) (tr_tp upd_same (h3.mono (Al.froz (F := F) g hp).sF))
  · rename_i xs
    cases e
    simp only [Tr, IsV] at hx
    obtain ⟨_, p, vs, rfl, h1, h2, hl⟩ := hx
    exact .inr (.inl ⟨p, vs, rfl, SqL.of (g _ _ h1), fun p' hp => q _ F _ [p'] (Al.cell g hp) (tr_fl upd_same (h2.cut lo hi) (Nat.le_trans (cutL_len xs lo hi) hl))⟩)
  · rename_i xs
    cases e
    simp only [Tr, IsV] at hx
    obtain ⟨_, p, vs, rfl, h1, h2, hl⟩ := hx
    exact .inr (.inl ⟨p, vs, rfl, h1.mono' g, fun p' hp => q _ F _ [p'] (Al.cell g hp) (tr_fl upd_same (h2.cut lo hi) (Nat.le_trans (cutL_len xs lo hi) hl))⟩)
  · rename_i xs
    cases e
    simp only [Tr] at hx
    obtain ⟨p, vs, rfl, h1, _, h2, hl⟩ := hx
    exact .inr (.inl ⟨p, vs, rfl, SqL.of h1, fun p' hp => q _ F _ [p'] (Al.cell g hp) (tr_fl upd_same (h2.cut lo hi) (Nat.le_trans (cutL_len xs lo hi) hl))⟩)
  · cases e

theorem emp_eq {α β : Type} {vs : List α} {xs : List β} (h : vs.length = xs.length) : (!xs.isEmpty) = !vs.isEmpty := by
  cases vs <;> cases xs <;> first | rfl | cases h
theorem tru_is {F H : Hp} {x : O} {v : V} {B : List Addr} {b : Bool} (g : Same F H) (hx : Tr W F H x v B) (e : truD x.fz = some b) : TruV W.K v H b := by
  have h := hx.now g
  revert h e
  generalize x.fz = d
  intro e h
  cases d <;> simp only [truD, Option.some.injEq, reduceCtorEq] at e <;> subst e <;> simp only [IsV] at h
  · subst h; rfl
  · subst h; rfl
  · subst h; rfl
  · rename_i t
    obtain ⟨rfl, hl⟩ := h
    have e1 : (S t).length = t.length := by simp [S, Str.length]
    refine ⟨by rw [e1, sizeLine_eq]; exact hl, ?_⟩
    rw [e1]
    cases t <;> simp [bne]
    omega
  · obtain ⟨p, vs, rfl, h1, h2⟩ := h
    refine .inr (.inl ⟨vs, SqT.of h1, ?_⟩)
    exact emp_eq h2.len
  · obtain ⟨p, vs, rfl, h1, h2, _⟩ := h
    refine .inl ⟨vs, SqL.of h1, ?_⟩
    exact emp_eq h2.len
  · obtain ⟨p, vs, rfl, h1, h2⟩ := h
    refine .inr (.inl ⟨vs, h1, ?_⟩)
    exact emp_eq h2.len
  · obtain ⟨p, vs, rfl, h1, h2, _⟩ := h
    refine .inl ⟨vs, h1, ?_⟩
    exact emp_eq h2.len
  · obtain ⟨p, kvs, rfl, h1, h2, _⟩ := h
    refine .inr (.inr ⟨kvs, h1, ?_⟩)
    subst h2
    cases kvs <;> simp
end L3

set_option Elab.async false
set_option linter.all false
set_option maxRecDepth 100000
namespace L3
open PySem L2 PySem.Spec PyProof.Rows
variable {W : Wd}

theorem callR_or {X : Cx} {f : Value} {r r' : List V → Hp → VK → Prop} (h : CallR X f r) (k : CallR X f r') : CallR X f (fun xs H Q => r xs H Q ∨ r' xs H Q) := by
  intro pins s σ H xs us Q I rx z
  rcases z with z | z
  · exact h pins s σ H xs us Q I rx z
  · exact k pins s σ H xs us Q I rx z
noncomputable def b1R (K : PySem.W.Frag) : B1 → List V → Hp → VK → Prop
  | .len => fun xs H Q => rLenL K xs H Q ∨ ∃ l, xs = [.str (S l)] ∧ l.length ≤ sizeLine ∧ Q (.int l.length) H
  | .int => fun xs H Q => rIntB xs H Q ∨ ∃ c d : Nat, xs = [.str (S [c, d])] ∧ isFig c = true ∧ isFig d = true ∧ Q (.int (((c - 48) * 10 + (d - 48) : Nat) : Int)) H
  | .str => fun xs H Q => ∃ n : Nat, xs = [.int n] ∧ n < 100 ∧ Q (.str (S (dg n))) H
  | .list => fun xs H Q => (∃ p ys, xs = [.ref p] ∧ (SqL K H p ys ∨ SqT K H p ys) ∧ ∀ l, H l = none → Q (.ref l) (upd H l (.lst ys))) ∨ rListS xs H Q
  | .tuple => fun xs H Q => ∃ p ys, xs = [.ref p] ∧ ((SqL K H p ys ∧ ∀ l, H l = none → Q (.ref l) (upd H l (.tup ys))) ∨ (SqT K H p ys ∧ Q (.ref p) H))
  | .all => rAllB
noncomputable def b1N : B1 → Str
  | .len => "len"
  | .int => "int"
  | .str => "str"
  | .list => "list"
  | .tuple => "tuple"
  | .all => "all"
theorem pe_b1 {X : Cx} {K : PySem.W.Frag} {a : Expr} {ta : TE} {p pos : Pos} (b : B1) (hK : X.K = K) (hc : X.calm = true) (hg : Gl X (b1N b)) (hm : X.mg (b1N b) = none) (ha : PA X [a] (tCons ta tNil))
    (hs : starEach [a] X.env = (false, eval a X.env) :: starEach [] X.env) : PE X (.Call (.Name (b1N b) p) [a] [] pos) (tCB (b1R K b) (tCons ta tNil)) := by
  subst hK
  cases b
  · exact pe_callB (callR_or (call_lenLK rfl) call_lenS) hg hm bb_len ha (by decide) (by decide) hs rfl
  · exact pe_callTy (callR_or call_intB call_intS) hg hm bb_int ha (by decide) (by decide) hs rfl
  · exact pe_callTy call_strS hg hm bb_str ha (by decide) (by decide) hs rfl
  · exact pe_callTy (callR_or call_list_of (call_listS hc)) hg hm bb_list ha (by decide) (by decide) hs rfl
  · exact pe_callTy call_tuple_of hg hm bb_tuple ha (by decide) (by decide) hs rfl
  · exact pe_callB (call_allB hc) hg hm bb_all ha (by decide) (by decide) hs rfl
noncomputable def OS1 (W : Wd) (r : List V → Hp → VK → Prop) (f : O → Option O) : Prop := ∀ (F H : Hp) (x : O) (v : V) (B1 : List Addr) (o : O) (Q : VK), Same F H → Tr W F H x v B1 → f x = some o →
  (∀ w F' H' B, Al F H F' H' B → Tr W F' H' o w B → Q w H') → r [v] H Q
theorem bls_is {F : Hp} : ∀ {ds : List D} {vs : List V} {bs : List Bool}, IsVs W F ds vs → bls ds = some bs → vs = bs.map V.bl
  | [], _, _, h, e => by simp only [bls, Option.some.injEq] at e; subst e; simp only [IsVs] at h; exact h
  | d :: ds, _, _, h, e => by
    simp only [IsVs] at h
    obtain ⟨v, r, rfl, h1, h2⟩ := h
    cases d <;> simp only [bls, reduceCtorEq] at e
    simp only [Option.map_eq_some_iff] at e
    obtain ⟨bs, e, rfl⟩ := e
    simp only [IsV] at h1
    rw [h1, bls_is h2 e]; rfl
theorem len_is {H : Hp} {d : D} {v : V} {xs : List D} (h : IsV W H d v) (e : itemsD d = some xs) : ∃ p ys, v = .ref p ∧ (SqL W.K H p ys ∨ SqT W.K H p ys) ∧ ys.length = xs.length := by
  obtain ⟨p, vs, e1, h1, h2⟩ := items_is h e
  exact ⟨p, vs, e1, h1, h2.len⟩
theorem vals_chars {F : Hp} : ∀ t : List Nat, IsVs W F (t.map fun c => D.str [c]) (t.map fun c => V.str (S [c]))
  | [] => by simp only [List.map_nil, IsVs]
  | c :: t => by simp only [List.map_cons, IsVs]; exact ⟨_, _, rfl, ⟨rfl, by simp⟩, vals_chars t⟩
theorem os_b1 (b : B1) : OS1 W (b1R W.K b) (b1O b) := by
  intro F H x v B o Q g hx e q
  have hn := hx.now g
  have qi : ∀ i, o = fi i → Q (.int i) H := fun i z => by subst z; exact q _ F H [] (Al.refl g) tr_int
  cases b <;> simp only [b1O] at e
  · split at e
    · rename_i t ex
      cases e
      obtain ⟨rfl, hl⟩ := fz_str hx ex
      exact .inr ⟨t, rfl, by rw [sizeLine_eq]; exact hl, qi _ rfl⟩
    all_goals first
      | cases e; done
      | rename_i xs ex
        cases e
        rw [ex] at hn
        obtain ⟨p, ys, rfl, h1, h2⟩ := len_is (xs := xs) hn rfl
        exact .inl ⟨p, ys, rfl, h1, by rw [h2]; exact qi _ rfl⟩
  · split at e
    · rename_i b ex
      cases e
      exact .inl ⟨b, by rw [fz_bl hx ex], qi _ rfl⟩
    · rename_i c d ex
      split at e
      · rename_i h
        cases e
        obtain ⟨rfl, hl⟩ := fz_str hx ex
        exact .inr ⟨c, d, rfl, h.1, h.2, qi _ rfl⟩
      · cases e
    · cases e
  · split at e
    · rename_i i ex
      split at e
      · rename_i h
        cases e
        have hv := fz_int hx ex
        refine ⟨i.toNat, by rw [hv, Int.toNat_of_nonneg h.1], by omega, q _ F H [] (Al.refl g) (tr_str ?_)⟩
        have : ∀ m ∈ List.range 100, (dg m).length ≤ 16777216 := by decide +kernel
        exact this _ (List.mem_range.mpr (by omega))
      · cases e
    · cases e
  · split at e
    · rename_i xs ex
      cases e
      obtain ⟨p, vs, rfl, h1, h2, h3⟩ := vK_is g hx ex
      exact .inl ⟨p, vs, rfl, .inl h1, fun l hl => q _ F _ [l] (Al.cell g hl) (tr_fl upd_same h2 h3)⟩
    · split at e
      · rename_i t ex
        split at e
        · rename_i h
          cases e
          obtain ⟨rfl, hl⟩ := fz_str hx ex
          exact .inr ⟨t, rfl, h, fun p hp => q _ F _ [p] (Al.cell g hp) (tr_fl upd_same (vals_chars t) (by rw [List.length_map]; exact hl))⟩
        · cases e
      · cases e
  · split at e
    · rename_i xs ex
      cases e
      obtain ⟨p, vs, rfl, h1, h2, h3⟩ := vK_is g hx ex
      exact ⟨p, vs, rfl, .inl ⟨h1, fun l hl => q _ _ _ [] (Al.froz g hl) (tr_tp upd_same (h2.mono (Al.froz (F := F) g hl).sF))⟩⟩
    · cases e
  · split at e
    · rename_i xs ex
      simp only [Option.map_eq_some_iff] at e
      obtain ⟨bs, e, rfl⟩ := e
      rw [ex] at hn
      simp only [IsV] at hn
      obtain ⟨p, vs, rfl, h1, h2, _⟩ := hn
      rw [bls_is h2 e] at h1
      exact ⟨p, bs, rfl, h1, q _ F H [] (Al.refl g) tr_bl⟩
    · cases e
noncomputable def b2N : B2 → Str
  | .max => "max"
  | .min => "min"
noncomputable def b2R : B2 → List V → Hp → VK → Prop
  | .max => fun xs H Q => ∃ i j, xs = [.int i, .int j] ∧ Q (.int (if j > i then j else i)) H
  | .min => fun xs H Q => ∃ i j, xs = [.int i, .int j] ∧ Q (.int (if j < i then j else i)) H
theorem pe_b2 {X : Cx} {a c : Expr} {ta tc : TE} {p pos : Pos} (b : B2) (hc : X.calm = true) (hg : Gl X (b2N b)) (hm : X.mg (b2N b) = none) (ha : PA X [a, c] (tCons ta (tCons tc tNil)))
    (hs : starEach [a, c] X.env = (false, eval a X.env) :: starEach [c] X.env) (hs2 : starEach [c] X.env = (false, eval c X.env) :: starEach [] X.env) : PE X (.Call (.Name (b2N b) p) [a, c] [] pos) (tCB (b2R b) (tCons ta (tCons tc tNil))) := by
  have h : (backTo pos (starEach [c] X.env)).any (·.1) = false := by rw [hs2]; rfl
  cases b
  · exact pe_callB (call_max2 hc) hg hm bb_max ha (by decide) (by decide) hs h
  · exact pe_callB (call_min2 hc) hg hm bb_min ha (by decide) (by decide) hs h
theorem os_b2 (b : B2) : OS W (fun v u H Q => b2R b [v, u] H Q) (b2O b) := by
  intro F H x y v u B1 B2 o Q g hx hy e q
  unfold b2O at e
  split at e
  · rename_i i j ex ey
    have hv := fz_int hx ex
    have hu := fz_int hy ey
    subst hv; subst hu
    cases b <;> simp only [Option.some.injEq] at e <;> subst e
    · exact ⟨i, j, rfl, q _ F H [] (Al.refl g) tr_int⟩
    · exact ⟨i, j, rfl, q _ F H [] (Al.refl g) tr_int⟩
  · cases e

noncomputable def tyN : TyK → String
  | .str => "str"
  | .int => "int"
  | .bool => "bool"
  | .list => "list"
  | .tuple => "tuple"
  | .dict => "dict"
  | .cls _ _ => ""
theorem ty_is {H : Hp} {d : D} {v : V} {n : String} (h : IsV W H d v) (e : tyD d = some n) : TyOf W.K H v (.type n) := by
  cases d <;> simp only [tyD, Option.some.injEq, reduceCtorEq] at e <;> subst e <;> simp only [IsV] at h
  · subst h; exact .non
  · subst h; exact .bl _
  · subst h; exact .int _
  · obtain ⟨rfl, _⟩ := h; exact .str _
  · obtain ⟨p, vs, rfl, h1, h2⟩ := h; exact .tup h1
  · obtain ⟨p, vs, rfl, h1, h2⟩ := h; exact .lst h1
  · obtain ⟨p, vs, rfl, h1, h2⟩ := h; exact .dK h1
theorem isi_is {K : PySem.W.Frag} {n : String} {k : TyK} {b : Bool} {d : D} (h0 : tyD d = some n) (e : (match tyD d, k with
  | some n, .str => some (n == "str")
  | some n, .int => some (n == "int" || n == "bool")
  | some n, .bool => some (n == "bool")
  | some n, .list => some (n == "list")
  | some n, .tuple => some (n == "tuple")
  | some n, .dict => some (n == "dict")
  | _, _ => none) = some b) : PySem.W.kitOne K (.type n) (.type (tyN k)) = some b := by
  cases d <;> simp only [tyD, Option.some.injEq, reduceCtorEq] at h0 <;> subst h0 <;> cases k <;> simp only [tyD, Option.some.injEq, reduceCtorEq] at e <;> subst e <;> rfl
theorem os_isi {k : TyK} {F H : Hp} {x : O} {v : V} {B : List Addr} {b : Bool} {Q : VK} (g : Same F H) (hx : Tr W F H x v B) (e : isiO x k = some b) (q : Q (.bl b) H) : rIsA W.K (tyN k) [v, .ty (tyN k)] H Q := by
  have hn := hx.now g
  cases h0 : tyD x.fz with
  | none => unfold isiO at e; rw [h0] at e; simp at e
  | some n => exact ⟨v, _, b, rfl, ty_is hn h0, isi_is h0 e, q⟩

end L3

set_option Elab.async false
set_option linter.all false
set_option maxRecDepth 100000
namespace L3
open PySem L2 PySem.Spec PyProof.Rows
variable {W : Wd} {E : XS}


noncomputable def IsX (W : Wd) (F : Hp) (x : Exn) (c : Value) (d : Option Addr) : Prop := c = .ref (W.cl x.c) ∧ ∃ dd kvs, d = some dd ∧ F dd = some (.xd kvs) ∧ kvs.map (·.1) = x.fs ∧ IsVs W F x.ds (kvs.map (·.2))
structure EPo (W : Wd) (F H : Hp) (A : Nat → List Addr) (s : Sl) (σ : L2.St) (q : Bool) (o : O) (s' : Sl) (v : V) (F' H' : Hp) (A' : Nat → List Addr) (B : List Addr) : Prop where
  rep : Rep W F' H' s' σ A'
  ex : Ex F H (Ow A) F' H' (fun b => Ow A' b ∨ b ∈ B)
  tr : Tr W F' H' o v B
  by_ : By F' H' (Ow A') B
  nd : B.Nodup
  qt : q = true → s' = s ∧ A' = A ∧ Same H H'
structure BPo (W : Wd) (F H : Hp) (A : Nat → List Addr) (s : Sl) (σ : L2.St) (q : Bool) (o : O) (s' : Sl) (v : V) (F' H' : Hp) (A' : Nat → List Addr) (B : List Addr) : Prop where
  rep : Rep W F' H' s' σ A'
  ex : Ex F H (Ow A) F' H' (Ow A')
  tr : Tr W F' H' o v B
  nF : ∀ b ∈ B, F' b = none
  qt : q = true → s' = s ∧ A' = A ∧ Same H H'
structure XPo (W : Wd) (F H : Hp) (A : Nat → List Addr) (σ : L2.St) (x : Exn) (s' : Sl) (c : Value) (d : Option Addr) (F' H' : Hp) (A' : Nat → List Addr) : Prop where
  rep : Rep W F' H' s' σ A'
  ex : Ex F H (Ow A) F' H' (Ow A')
  xr : IsX W F' x c d
noncomputable def Po (W : Wd) (E : XS) (F H : Hp) (A : Nat → List Addr) (s : Sl) (σ : L2.St) (q : Bool) (Q : VK) : Rv → Prop
  | .ok o s' => ∀ v F' H' A' B, EPo W F H A s σ q o s' v F' H' A' B → Q v H'
  | .bw o s' => ∀ v F' H' A' B, BPo W F H A s σ q o s' v F' H' A' B → Q v H'
  | .ex x s' => ∀ c d F' H' A', XPo W F H A σ x s' c d F' H' A' → E c d σ H'
  | .no => False
noncomputable def SE (W : Wd) (E : XS) (q : Bool) (t : TE) (m : Sl → Rv) : Prop := ∀ (F H : Hp) (s : Sl) (σ : L2.St) (A : Nat → List Addr) (Q : VK), Rep W F H s σ A → Po W E F H A s σ q Q (m s) → t σ H Q

theorem Po.chain {F H F2 H2 : Hp} {A A2 : Nat → List Addr} {s s2 : Sl} {σ : L2.St} {q q' : Bool} {Q : VK} {r : Rv} (e : Ex F H (Ow A) F2 H2 (Ow A2)) (hq : q = true → (s2 = s ∧ A2 = A ∧ Same H H2) ∧ q' = true)
    (h : Po W E F H A s σ q Q r) : Po W E F2 H2 A2 s2 σ q' Q r := by
  cases r with
  | ok o s' =>
    intro v F' H' A' B p
    refine h v F' H' A' B ⟨p.rep, e.trans p.ex, p.tr, p.by_, p.nd, fun z => ?_⟩
    obtain ⟨⟨a, b, c⟩, d⟩ := hq z
    obtain ⟨a', b', c'⟩ := p.qt d
    exact ⟨a'.trans a, b'.trans b, c.trans c'⟩
  | bw o s' =>
    intro v F' H' A' B p
    refine h v F' H' A' B ⟨p.rep, e.trans p.ex, p.tr, p.nF, fun z => ?_⟩
    obtain ⟨⟨a, b, c⟩, d⟩ := hq z
    obtain ⟨a', b', c'⟩ := p.qt d
    exact ⟨a'.trans a, b'.trans b, c.trans c'⟩
  | ex x s' =>
    intro c d F' H' A' p
    exact h c d F' H' A' ⟨p.rep, e.trans p.ex, p.xr⟩
  | no => exact h
theorem Po.refl {F H : Hp} {A : Nat → List Addr} {s : Sl} {σ : L2.St} {q q' : Bool} {Q : VK} {r : Rv} (hq : q = true → q' = true) (h : Po W E F H A s σ q Q r) : Po W E F H A s σ q' Q r := h.chain Ex.refl fun z => ⟨⟨rfl, rfl, fun _ _ h => h⟩, hq z⟩

theorem Po.al {F H F' H' : Hp} {A : Nat → List Addr} {s : Sl} {σ : L2.St} {q : Bool} {Q : VK} {o : O} {v : V} {B : List Addr} (R : Rep W F H s σ A) (a : Al F H F' H' B) (t : Tr W F' H' o v B) (h : Po W E F H A s σ q Q (.ok o s)) : Q v H' :=
  h v F' H' A B ⟨a.rep R, a.ex, t, a.by_ R, a.nd, fun _ => ⟨rfl, rfl, a.sH⟩⟩
theorem Po.of {F H : Hp} {A : Nat → List Addr} {s : Sl} {σ : L2.St} {q : Bool} {Q : VK} {o : Option O} (R : Rep W F H s σ A) (h : Po W E F H A s σ q Q (.of o s)) : ∃ x, o = some x ∧ ∀ w F' H' B, Al F H F' H' B → Tr W F' H' x w B → Q w H' := by
  cases o with
  | none => exact h.elim
  | some x => exact ⟨x, rfl, fun w F' H' B a t => Po.al R a t h⟩
theorem nf_keep {F1 H1 F2 H2 : Hp} {A1 A2 : Nat → List Addr} {s2 : Sl} {σ : L2.St} {x : O} {v : V} {B1 : List Addr} (t : Tr W F1 H1 x v B1) (n : ∀ b ∈ B1, F1 b = none) (e : Ex F1 H1 (Ow A1) F2 H2 (Ow A2)) (R : Rep W F2 H2 s2 σ A2) (ea : A2 = A1) : ∀ b ∈ B1, F2 b = none := fun b hb => by
  cases q : F2 b with
  | none => rfl
  | some o =>
    obtain ⟨y, hy⟩ := t.cell b hb
    rcases e.frz b o q with ⟨o', u⟩ | u | u
    · rw [n b hb] at u; cases u
    · rw [hy] at u; cases u
    · subst ea
      obtain ⟨i, u⟩ := u
      rw [(R.own i b u).1] at q; cases q
theorem se_two {ta tb : TE} {ma mb : Sl → Rv} {qa qb : Bool} {k : O → O → Sl → Rv} {r : R2} (ha : SE W E qa ta ma) (hb : SE W E qb tb mb)
    (hk : ∀ F H s σ A x y v u B1 B2 Q, Rep W F H s σ A → Tr W F H x v B1 → Tr W F H y u B2 → (∀ b ∈ B1, F b = none) → Po W E F H A s σ true Q (k x y s) → r v u H Q) : SE W E (qa && qb) (tOp r ta tb) (fun s => (ma s).two qb mb k) := by
  intro F H s σ A Q R h
  refine ha F H s σ A _ R ?_
  show Po W E F H A s σ qa (fun x H1 => tb σ H1 fun y H2 => r x y H2 Q) (ma s)
  have h : Po W E F H A s σ (qa && qb) Q ((ma s).two qb mb k) := h
  revert h
  cases ma s with
  | ok x s1 =>
    intro h v F1 H1 A1 B1 p1
    refine hb F1 H1 s1 σ A1 _ p1.rep ?_
    have h : Po W E F H A s σ (qa && qb) Q ((mb s1).one fun y s2 => k x y s2) := h
    have x1 : Ex F H (Ow A) F1 H1 (Ow A1) := p1.ex.less fun _ z => .inl z
    revert h
    cases mb s1 with
    | ok y s2 =>
      intro h u F2 H2 A2 B2 p2
      refine hk F2 H2 s2 σ A2 x y v u B1 B2 Q p2.rep (p1.by_.tr p2.ex p1.tr) p2.tr (p1.by_.ex p2.ex).fr (Po.chain (x1.trans (p2.ex.less fun _ z => .inl z)) (fun z => ?_) h)
      rw [Bool.and_eq_true] at z
      obtain ⟨a, b, c⟩ := p1.qt z.1
      obtain ⟨a', b', c'⟩ := p2.qt z.2
      exact ⟨⟨a'.trans a, b'.trans b, c.trans c'⟩, rfl⟩
    | bw y s2 =>
      intro h u F2 H2 A2 B2 p2
      refine hk F2 H2 s2 σ A2 x y v u B1 B2 Q p2.rep (p1.by_.tr p2.ex p1.tr) p2.tr (p1.by_.ex p2.ex).fr (Po.chain (x1.trans p2.ex) (fun z => ?_) h)
      rw [Bool.and_eq_true] at z
      obtain ⟨a, b, c⟩ := p1.qt z.1
      obtain ⟨a', b', c'⟩ := p2.qt z.2
      exact ⟨⟨a'.trans a, b'.trans b, c.trans c'⟩, rfl⟩
    | ex x s2 =>
      intro h c d F' H' A' p
      exact h c d F' H' A' ⟨p.rep, x1.trans p.ex, p.xr⟩
    | no => exact fun h => h
  | bw x s1 =>
    intro h v F1 H1 A1 B1 p1
    cases hq : qb with
    | false => subst hq; exact h.elim
    | true =>
    subst hq
    refine hb F1 H1 s1 σ A1 _ p1.rep ?_
    have h : Po W E F H A s σ (qa && true) Q ((mb s1).one fun y s2 => k x y s2) := h
    revert h
    cases mb s1 with
    | ok y s2 =>
      intro h u F2 H2 A2 B2 p2
      obtain ⟨a', b', c'⟩ := p2.qt rfl
      refine hk F2 H2 s2 σ A2 x y v u B1 B2 Q p2.rep (p1.tr.frame p2.ex.sF fun b _ z hz => c' _ _ hz) p2.tr (nf_keep p1.tr p1.nF (p2.ex.less fun _ z => .inl z) p2.rep b') (Po.chain (p1.ex.trans (p2.ex.less fun _ z => .inl z)) (fun z => ?_) h)
      rw [Bool.and_eq_true] at z
      obtain ⟨a, b, c⟩ := p1.qt z.1
      exact ⟨⟨a'.trans a, b'.trans b, c.trans c'⟩, rfl⟩
    | bw y s2 =>
      intro h u F2 H2 A2 B2 p2
      obtain ⟨a', b', c'⟩ := p2.qt rfl
      refine hk F2 H2 s2 σ A2 x y v u B1 B2 Q p2.rep (p1.tr.frame p2.ex.sF fun b _ z hz => c' _ _ hz) p2.tr (nf_keep p1.tr p1.nF p2.ex p2.rep b') (Po.chain (p1.ex.trans p2.ex) (fun z => ?_) h)
      rw [Bool.and_eq_true] at z
      obtain ⟨a, b, c⟩ := p1.qt z.1
      exact ⟨⟨a'.trans a, b'.trans b, c.trans c'⟩, rfl⟩
    | ex x s2 =>
      intro h c d F' H' A' p
      exact h c d F' H' A' ⟨p.rep, p1.ex.trans p.ex, p.xr⟩
    | no => exact fun h => h
  | ex x s1 =>
    intro h c d F' H' A' p
    exact h c d F' H' A' p
  | no => exact fun h => h
theorem se_one {ta : TE} {ma : Sl → Rv} {qa : Bool} {k : O → Sl → Rv} {r : V → Hp → VK → Prop} (ha : SE W E qa ta ma)
    (hk : ∀ F H s σ A x v B1 Q, Rep W F H s σ A → Tr W F H x v B1 → Po W E F H A s σ true Q (k x s) → r v H Q) : SE W E qa (fun σ H Q => ta σ H fun x H1 => r x H1 Q) (fun s => (ma s).one k) := by
  intro F H s σ A Q R h
  refine ha F H s σ A _ R ?_
  have h : Po W E F H A s σ qa Q ((ma s).one k) := h
  revert h
  cases ma s with
  | ok x s1 =>
    intro h v F1 H1 A1 B1 p1
    exact hk F1 H1 s1 σ A1 x v B1 Q p1.rep p1.tr (Po.chain (p1.ex.less fun _ z => .inl z) (fun z => ⟨p1.qt z, rfl⟩) h)
  | bw x s1 =>
    intro h v F1 H1 A1 B1 p1
    exact hk F1 H1 s1 σ A1 x v B1 Q p1.rep p1.tr (Po.chain p1.ex (fun z => ⟨p1.qt z, rfl⟩) h)
  | ex x s1 =>
    intro h c d F' H' A' p
    exact h c d F' H' A' p
  | no => exact fun h => h
theorem se_bool {ta : TE} {ma : Sl → Rv} {qa q2 : Bool} {k : Bool → Sl → Rv} {r : Bool → L2.St → Hp → VK → Prop} (ha : SE W E qa ta ma)
    (hk : ∀ F H s σ A b Q, Rep W F H s σ A → Po W E F H A s σ q2 Q (k b s) → r b σ H Q) : SE W E (qa && q2) (fun σ H Q => ta σ H fun x H1 => ∃ b, x = .bl b ∧ r b σ H1 Q) (fun s => (ma s).bool k) := by
  intro F H s σ A Q R h
  refine ha F H s σ A _ R ?_
  have h : Po W E F H A s σ (qa && q2) Q ((ma s).bool k) := h
  revert h
  unfold Rv.bool
  split
  · rename_i b s1 e
    rw [e]
    intro h v F1 H1 A1 B1 p1
    have hv : v = .bl b := fz_bl p1.tr rfl
    exact ⟨b, hv, hk F1 H1 s1 σ A1 b Q p1.rep (Po.chain (p1.ex.less fun _ z => .inl z) (fun z => by rw [Bool.and_eq_true] at z; exact ⟨p1.qt z.1, z.2⟩) h)⟩
  · rename_i e
    rw [e]
    intro h c d F' H' A' p
    exact h c d F' H' A' p
  · exact fun h => h.elim

theorem se_v (i : Nat) : SE W E false (tVar i) (dE (.v i)) := by
  intro F H s σ A Q R h
  simp only [dE] at h
  cases e : s[i]? with
  | none => rw [e] at h; exact h.elim
  | some o =>
    cases o with
    | none => rw [e] at h; exact h.elim
    | some o =>
      rw [e] at h
      obtain ⟨v, hv, t⟩ := R.slot i o e
      refine ⟨v, hv, h v (adds F H (A i)) H (fun j => if j = i then [] else A j) [] ?_⟩
      have own := fun b hb => (R.own i b hb).1
      have sF : Same F (adds F H (A i)) := adds_same own
      have iv : IsV W (adds F H (A i)) o.fz v := t.frozen own
      refine ⟨⟨adds_le R.fh, fun j o' ej => ?_, fun j a ha => ?_, fun j k a ha hb => ?_, fun j => ?_, by rw [List.length_set]; exact R.len⟩, ⟨sF, fun b o h _ => h, fun b o h => ⟨o, h⟩, fun b o hb => ?_, fun b hb => ?_⟩, tr_fr iv, ⟨(fun _ h => by cases h), (fun _ h => by cases h), (fun _ h => by cases h)⟩, .nil, fun z => by cases z⟩
      · by_cases hj : j = i
        · subst hj
          have hl : j < s.length := by
            rcases Nat.lt_or_ge j s.length with z | z
            · exact z
            · rw [List.getElem?_eq_none z] at e; cases e
          rw [List.getElem?_set_self hl] at ej
          cases ej
          refine ⟨v, hv, ?_⟩
          rw [if_pos rfl]
          exact tr_fr iv
        · rw [List.getElem?_set_ne (fun z => hj z.symm)] at ej
          obtain ⟨w, hw, tw⟩ := R.slot j o' ej
          refine ⟨w, hw, ?_⟩
          rw [if_neg hj]
          exact tw.frame sF fun b _ x hx => hx
      · by_cases hj : j = i
        · rw [if_pos hj] at ha; cases ha
        · rw [if_neg hj] at ha
          obtain ⟨h1, x, h2⟩ := R.own j a ha
          refine ⟨?_, x, h2⟩
          unfold adds
          rw [if_neg (fun z => hj (R.dis j i a ha z))]
          exact h1
      · by_cases hj : j = i
        · rw [if_pos hj] at ha; cases ha
        · by_cases hk : k = i
          · rw [if_pos hk] at hb; cases hb
          · rw [if_neg hj] at ha
            rw [if_neg hk] at hb
            exact R.dis j k a ha hb
      · by_cases hj : j = i
        · rw [if_pos hj]; exact .nil
        · rw [if_neg hj]; exact R.nd j
      · unfold adds at hb
        split at hb
        · rename_i z; exact .inr (.inr ⟨i, z⟩)
        · exact .inl ⟨o, hb⟩
      · rcases hb with ⟨j, hb⟩ | hb
        · have hb : b ∈ (if j = i then [] else A j) := hb
          by_cases hj : j = i
          · rw [if_pos hj] at hb; cases hb
          · rw [if_neg hj] at hb; exact .inl ⟨j, hb⟩
        · cases hb
theorem se_b (i : Nat) : SE W E true (tVar i) (dE (.b i)) := by
  intro F H s σ A Q R h
  simp only [dE] at h
  cases e : s[i]? with
  | none => rw [e] at h; exact h.elim
  | some o =>
    cases o with
    | none => rw [e] at h; exact h.elim
    | some o =>
      rw [e] at h
      obtain ⟨v, hv, t⟩ := R.slot i o e
      refine ⟨v, hv, ?_⟩
      have hb : ∀ o', Po W E F H A s σ true Q (.bw o' s) → o' = o → Q v H := fun o' h' e => by
        subst e
        exact h' v F H A (A i) ⟨R, Ex.refl, t, fun b hb => (R.own i b hb).1, fun _ => ⟨rfl, rfl, fun _ _ h => h⟩⟩
      cases o with
      | fr d =>
        simp only [Tr] at t
        exact Po.al R (Al.refl R.fh) (tr_fr t.2) h
      | tp xs => exact hb _ h rfl
      | fl xs => exact hb _ h rfl
      | ol xs => exact hb _ h rfl
      | fd ks xs => exact hb _ h rfl
      | od ks xs => exact hb _ h rfl
      | oo c fs xs => exact hb _ h rfl
theorem se_con {v : V} {d : D} (hd : ∀ F, IsV W F d v) : SE W E true (tC v) (fun s => .ok (.fr d) s) := by
  intro F H s σ A Q R h
  exact Po.al R (Al.refl R.fh) (tr_fr (hd F)) h

theorem se_bin {ta tb : TE} {a b : CE} {op : BO} (ha : SE W E (quiet a) ta (dE a)) (hb : SE W E (quiet b) tb (dE b)) : SE W E (quiet (.bin op a b)) (tOp (binR op) ta tb) (dE (.bin op a b)) := by
  have := se_two (k := fun x y s2 => .of (binO op x y) s2) (r := binR op) ha hb fun F H s σ A x y v u B1 B2 Q R t1 t2 _ h => by
    obtain ⟨o, e, q⟩ := Po.of R h
    exact os_bin op F H x y v u B1 B2 o Q R.fh t1 t2 e q
  intro F H s σ A Q R h
  simp only [dE, quiet] at h
  exact this F H s σ A Q R h
theorem Po.ob {F H : Hp} {A : Nat → List Addr} {s : Sl} {σ : L2.St} {q : Bool} {Q : VK} {o : Option Bool} (R : Rep W F H s σ A) (h : Po W E F H A s σ q Q (.ob o s)) : ∃ b, o = some b ∧ Q (.bl b) H := by
  cases o with
  | none => exact h.elim
  | some b => exact ⟨b, rfl, Po.al R (Al.refl R.fh) tr_bl h⟩
theorem se_cmp {ta tb : TE} {a b : CE} {op : CO} (ha : SE W E (quiet a) ta (dE a)) (hb : SE W E (quiet b) tb (dE b)) : SE W E (quiet (.cmp op a b)) (tOp (cmpR W.K op) ta tb) (dE (.cmp op a b)) := by
  have := se_two (k := fun x y s2 => .ob (cmpO op x y) s2) (r := cmpR W.K op) ha hb fun F H s σ A x y v u B1 B2 Q R t1 t2 _ h => by
    cases e : cmpO op x y with
    | none => rw [e] at h; exact h.elim
    | some b =>
      rw [e] at h
      refine os_cmp op F H x y v u B1 B2 (fb b) Q R.fh t1 t2 (by simp only [e, Option.map_some]) fun w F' H' B a t => Po.al R a t h
  intro F H s σ A Q R h
  simp only [dE, quiet] at h
  exact this F H s σ A Q R h
theorem se_ix {ta tb : TE} {a b : CE} (ha : SE W E (quiet a) ta (dE a)) (hb : SE W E (quiet b) tb (dE b)) : SE W E (quiet (.ix a b)) (tOp (ixR W.K) ta tb) (dE (.ix a b)) := by
  have := se_two (k := fun x y s2 => .at (ixO x y) s2) (r := ixR W.K) ha hb fun F H s σ A x y v u B1 B2 Q R t1 t2 f1 h => by
    cases e : ixO x y with
    | none => rw [e] at h; exact h.elim
    | some o =>
      rw [e] at h
      refine os_ix R.fh t1 t2 e fun w B t sb => ?_
      have hb : Po W E F H A s σ true Q (.bw o s) → Q w H := fun h => h w F H A B ⟨R, Ex.refl, t, fun b hb => f1 b (sb b hb), fun _ => ⟨rfl, rfl, fun _ _ h => h⟩⟩
      cases o with
      | fr d =>
        simp only [Tr] at t
        exact Po.al R (Al.refl R.fh) (tr_fr t.2) h
      | tp xs => exact hb h
      | fl xs => exact hb h
      | ol xs => exact hb h
      | fd ks xs => exact hb h
      | od ks xs => exact hb h
      | oo c fs xs => exact hb h
  intro F H s σ A Q R h
  simp only [dE, quiet] at h
  exact this F H s σ A Q R h
theorem se_rev {ta : TE} {a : CE} (ha : SE W E (quiet a) ta (dE a)) : SE W E (quiet (.rev a)) (tRevS W.K ta) (dE (.rev a)) := by
  have := se_one (k := fun x s1 => .of (revO x) s1) (r := fun x H1 Q => ∃ a xs, x = .ref a ∧ SqL W.K H1 a xs ∧ ∀ p, H1 p = none → Q (.ref p) (upd H1 p (.lst xs.reverse))) ha fun F H s σ A x v B1 Q R t h => by
    obtain ⟨o, e, q⟩ := Po.of R h
    unfold revO at e
    simp only [Option.map_eq_some_iff] at e
    obtain ⟨xs, e, rfl⟩ := e
    obtain ⟨p, vs, rfl, h1, h2, h3⟩ := vK_is R.fh t e
    exact ⟨p, vs, rfl, h1, fun l hl => q _ F _ [l] (Al.cell R.fh hl) (tr_fl upd_same h2.rev (by rw [List.length_reverse]; exact h3))⟩
  intro F H s σ A Q R h
  simp only [dE, quiet] at h
  exact this F H s σ A Q R h
theorem se_not {ta : TE} {a : CE} (ha : SE W E (quiet a) ta (dE a)) : SE W E (quiet (.not a)) (tNotV ta) (dE (.not a)) := by
  have := se_bool (q2 := false) (k := fun c s1 => .ok (fb (!c)) s1) (r := fun b σ H Q => Q (.bl (!b)) H) ha fun F H s σ A b Q R h => Po.al R (Al.refl R.fh) tr_bl h
  intro F H s σ A Q R h
  simp only [dE, quiet] at h
  exact this F H s σ A Q R (h.refl fun z => by cases z)
end L3

set_option Elab.async false
set_option linter.all false
set_option maxRecDepth 100000
namespace L3
open PySem L2 PySem.Spec PyProof.Rows
variable {W : Wd} {E : XS}

theorem Rep.fz {F H : Hp} {s : Sl} {σ : L2.St} {A : Nat → List Addr} {B : List Addr} (R : Rep W F H s σ A) (b : By F H (Ow A) B) : Rep W (adds F H B) H s σ A := by
  have sF : Same F (adds F H B) := adds_same b.fr
  refine ⟨adds_le R.fh, fun i o e => ?_, fun i a ha => ?_, R.dis, R.nd, R.len⟩
  · obtain ⟨v, h1, h2⟩ := R.slot i o e
    exact ⟨v, h1, h2.frame sF fun _ _ _ h => h⟩
  · obtain ⟨h1, h2⟩ := R.own i a ha
    refine ⟨?_, h2⟩
    unfold adds
    rw [if_neg (fun z => b.nP a z ⟨i, ha⟩)]
    exact h1
theorem Ex.fz {F H F' H' : Hp} {P P' : Addr → Prop} {B : List Addr} (e : Ex F H P F' H' (fun b => P' b ∨ b ∈ B)) (h : ∀ b ∈ B, F' b = Option.none) : Ex F H P (adds F' H' B) H' P' := by
  refine ⟨e.sF.trans (adds_same h), e.keep, e.dom, fun b o hb => ?_, fun b hb => e.cells b (.inl hb)⟩
  unfold adds at hb
  split at hb
  · rename_i z
    rcases e.cells b (.inr z) with y | y
    · exact .inr (.inr y)
    · exact .inr (.inl y)
  · exact e.frz b o hb

structure APo (W : Wd) (F H : Hp) (A : Nat → List Addr) (s : Sl) (σ : L2.St) (q : Bool) (os : List O) (s' : Sl) (vs : List V) (F' H' : Hp) (A' : Nat → List Addr) (B : List Addr) : Prop where
  rep : Rep W F' H' s' σ A'
  ex : Ex F H (Ow A) F' H' (fun b => Ow A' b ∨ b ∈ B)
  tr : TrL W F' H' os vs B
  by_ : By F' H' (Ow A') B
  nd : B.Nodup
  qt : q = true → s' = s ∧ A' = A ∧ Same H H'
noncomputable def PoA (W : Wd) (E : XS) (F H : Hp) (A : Nat → List Addr) (s : Sl) (σ : L2.St) (q : Bool) (Q : List V → Hp → Prop) : Rl → Prop
  | .ok os s' => ∀ vs F' H' A' B, APo W F H A s σ q os s' vs F' H' A' B → Q vs H'
  | .ex x s' => ∀ c d F' H' A', XPo W F H A σ x s' c d F' H' A' → E c d σ H'
  | .no => False
noncomputable def SA (W : Wd) (E : XS) (q : Bool) (t : TA) (m : Sl → Rl) : Prop := ∀ (F H : Hp) (s : Sl) (σ : L2.St) (A : Nat → List Addr) (Q : List V → Hp → Prop), Rep W F H s σ A → PoA W E F H A s σ q Q (m s) → t σ H Q
theorem sa_nil : SA W E (quiets []) tNil (dEs []) := by
  intro F H s σ A Q R h
  simp only [dEs] at h
  refine h [] F H A [] ⟨R, Ex.refl.less fun b z => ?_, by unfold TrL; exact ⟨rfl, rfl⟩, ⟨(fun _ h => by cases h), (fun _ h => by cases h), (fun _ h => by cases h)⟩, .nil, fun _ => ⟨rfl, rfl, fun _ _ h => h⟩⟩
  rcases z with z | z
  · exact z
  · cases z
theorem nodup_app {B1 B2 : List Addr} (h1 : B1.Nodup) (h2 : B2.Nodup) (h : ∀ b ∈ B1, b ∉ B2) : (B1 ++ B2).Nodup := by
  unfold List.Nodup at *
  rw [List.pairwise_append]
  exact ⟨h1, h2, fun a ha b hb e => by subst e; exact h a ha hb⟩
theorem sa_cons {te : TE} {ta : TA} {e : CE} {es : List CE} (h1 : SE W E (quiet e) te (dE e)) (h2 : SA W E (quiets es) ta (dEs es)) : SA W E (quiets (e :: es)) (tCons te ta) (dEs (e :: es)) := by
  intro F H s σ A Q R h
  simp only [dEs, quiets] at h
  refine h1 F H s σ A _ R ?_
  revert h
  cases dE e s with
  | ok o s1 =>
    intro h v F1 H1 A1 B1 p1
    refine h2 F1 H1 s1 σ A1 _ p1.rep ?_
    have h : PoA W E F H A s σ (quiet e && quiets es) Q ((dEs es s1).cons o) := h
    have x1 : Ex F H (Ow A) F1 H1 (Ow A1) := p1.ex.less fun _ z => .inl z
    revert h
    cases dEs es s1 with
    | ok os s2 =>
      intro h vs F2 H2 A2 B2 p2
      have by2 : By F2 H2 (Ow A2) B1 := (p1.by_.ex p2.ex).imp fun b z => .inl z
      refine h (v :: vs) F2 H2 A2 (B1 ++ B2) ⟨p2.rep, ?_, ?_, ?_, ?_, fun z => ?_⟩
      · refine ⟨x1.sF.trans p2.ex.sF, (x1.trans p2.ex).keep, (x1.trans p2.ex).dom, (x1.trans p2.ex).frz, fun b z => ?_⟩
        rcases z with z | z
        · exact (x1.trans p2.ex).cells b (.inl z)
        · rcases List.mem_append.mp z with z | z
          · exact p1.ex.cells b (.inr z)
          · exact (x1.trans p2.ex).cells b (.inr z)
      · simp only [TrL]
        exact ⟨v, vs, B1, B2, rfl, rfl, p1.by_.tr p2.ex p1.tr, p2.tr⟩
      · exact by2.app p2.by_
      · exact nodup_app p1.nd p2.nd fun b hb => fun z => (p1.by_.ex p2.ex).nP b hb (.inr z)
      · rw [Bool.and_eq_true] at z
        obtain ⟨a, b, c⟩ := p1.qt z.1
        obtain ⟨a', b', c'⟩ := p2.qt z.2
        exact ⟨a'.trans a, b'.trans b, c.trans c'⟩
    | ex x s2 =>
      intro h c d F' H' A' p
      exact h c d F' H' A' ⟨p.rep, x1.trans p.ex, p.xr⟩
    | no => exact fun h => h
  | bw o s1 => exact fun h => h.elim
  | ex x s1 =>
    intro h c d F' H' A' p
    exact h c d F' H' A' p
  | no => exact fun h => h

theorem se_lst {ta : TA} {es : List CE} (h1 : SA W E (quiets es) ta (dEs es)) : SE W E (quiet (.lst es)) (tLst ta) (dE (.lst es)) := by
  intro F H s σ A Q R h
  simp only [dE, quiet] at h
  refine h1 F H s σ A _ R ?_
  revert h
  cases dEs es s with
  | ok os s1 =>
    intro h vs F1 H1 A1 B p
    dsimp only at h
    split at h
    · rename_i hl
      refine ⟨by rw [p.tr.len, sizeLine_eq]; exact hl, fun l hl' => ?_⟩
      refine Po.al (p.rep.fz p.by_) (Al.cell (adds_le p.rep.fh) hl') (tr_fl upd_same (p.tr.fz (adds_same p.by_.fr) adds_in) (by rw [fzs_len]; exact hl)) (Po.chain (q' := true) (p.ex.fz p.by_.fr) (fun z => ⟨p.qt z, rfl⟩) h)
    · exact h.elim
  | ex x s1 =>
    intro h c d F' H' A' p
    exact h c d F' H' A' p
  | no => exact fun h => h
theorem se_tup {ta : TA} {es : List CE} (h1 : SA W E (quiets es) ta (dEs es)) : SE W E (quiet (.tup es)) (tTup ta) (dE (.tup es)) := by
  intro F H s σ A Q R h
  simp only [dE, quiet] at h
  refine h1 F H s σ A _ R ?_
  revert h
  cases dEs es s with
  | ok os s1 =>
    intro h vs F1 H1 A1 B p
    dsimp only at h
    split at h
    · rename_i hl
      refine ⟨by rw [p.tr.len, sizeLine_eq]; exact hl, fun l hl' => ?_⟩
      have a := Al.froz (o := .tup vs) (adds_le (A := B) p.rep.fh) hl'
      exact Po.al (p.rep.fz p.by_) a (tr_tp upd_same ((p.tr.fz (adds_same p.by_.fr) adds_in).mono a.sF)) (Po.chain (q' := true) (p.ex.fz p.by_.fr) (fun z => ⟨p.qt z, rfl⟩) h)
    · exact h.elim
  | ex x s1 =>
    intro h c d F' H' A' p
    exact h c d F' H' A' p
  | no => exact fun h => h

theorem Po.own {F H F1 H1 F' H' : Hp} {A A1 : Nat → List Addr} {s s1 : Sl} {σ : L2.St} {q : Bool} {Q : VK} {o : O} {v : V} {os : List O} {vs : List V} {B B' : List Addr} (p : APo W F H A s σ q os s1 vs F1 H1 A1 B) (a : Al F1 H1 F' H' B') (t : Tr W F' H' o v (B' ++ B))
    (h : Po W E F H A s σ q Q (.ok o s1)) : Q v H' := by
  have x1 : Ex F H (Ow A) F1 H1 (Ow A1) := p.ex.less fun _ z => .inl z
  have x2 := x1.trans (a.ex (P := Ow A1))
  refine h v F' H' A1 (B' ++ B) ⟨a.rep p.rep, ⟨x2.sF, x2.keep, x2.dom, x2.frz, fun b z => ?_⟩, t, ?_, ?_, fun z => ?_⟩
  · rcases z with z | z
    · exact x2.cells b (.inl z)
    · rcases List.mem_append.mp z with z | z
      · exact x2.cells b (.inr z)
      · exact p.ex.cells b (.inr z)
  · exact (a.by_ p.rep).app ((p.by_.ex a.ex).imp fun _ z => .inl z)
  · refine nodup_app a.nd p.nd fun b hb z => ?_
    obtain ⟨x, hx⟩ := p.by_.ob b z
    rw [(a.nB b hb).1] at hx; cases hx
  · obtain ⟨a1, b1, c1⟩ := p.qt z
    exact ⟨a1, b1, c1.trans a.sH⟩
theorem se_lsd {ta : TA} {es : List CE} (h1 : SA W E (quiets es) ta (dEs es)) : SE W E (quiet (.lsd es)) (tLst ta) (dE (.lsd es)) := by
  intro F H s σ A Q R h
  simp only [dE, quiet] at h
  refine h1 F H s σ A _ R ?_
  revert h
  cases dEs es s with
  | ok os s1 =>
    intro h vs F1 H1 A1 B p
    dsimp only at h
    split at h
    · rename_i hl
      refine ⟨by rw [p.tr.len, sizeLine_eq]; exact hl, fun l hl' => ?_⟩
      refine Po.own p (Al.cell p.rep.fh hl') ?_ h
      simp only [Tr]
      refine ⟨l, vs, B, rfl, upd_same, rfl, p.tr.frame (fun _ _ h => h) fun b _ x hx => ?_, hl⟩
      rw [upd_ne (ne_of_none hx hl')]; exact hx
    · exact h.elim
  | ex x s1 =>
    intro h c d F' H' A' p
    exact h c d F' H' A' p
  | no => exact fun h => h
end L3

set_option Elab.async false
set_option linter.all false
set_option maxRecDepth 100000
namespace L3
open PySem L2 PySem.Spec PyProof.Rows
variable {W : Wd} {E : XS}

structure CPo (W : Wd) (F H : Hp) (B : List Addr) (os' : List O) (vs : List V) (F' H' : Hp) (C : List Addr) : Prop where
  fh : Same F' H'
  args : TrL W F' H' os' vs C
  fr : ∀ b ∈ C, F' b = none
  nd : C.Nodup
  ex : Ex F H (· ∈ B) F' H' (· ∈ C)
structure RPo (W : Wd) (F H : Hp) (B : List Addr) (os' : List O) (o : O) (vs : List V) (v : V) (F' H' : Hp) (C B' : List Addr) : Prop where
  fh : Same F' H'
  args : TrL W F' H' os' vs C
  tr : Tr W F' H' o v B'
  fr : ∀ b ∈ C ++ B', F' b = none
  nd : (C ++ B').Nodup
  ex : Ex F H (· ∈ B) F' H' (· ∈ C ++ B')
noncomputable def PoF (W : Wd) (E : XK) (F H : Hp) (B : List Addr) (vs : List V) (Q : VK) : Fr → Prop
  | .ok o os' => ∀ v F' H' C B', RPo W F H B os' o vs v F' H' C B' → Q v H'
  | .ex x os' => ∀ c d F' H' C, CPo W F H B os' vs F' H' C → IsX W F' x c d → E c d H'
  | .no => False

noncomputable def NM : List Bool → List O → Prop
  | true :: mk, _ :: os => NM mk os
  | false :: mk, o :: os => (∃ d, o = .fr d) ∧ NM mk os
  | [], o :: os => (∃ d, o = .fr d) ∧ NM [] os
  | _, [] => True
theorem dAs_nm : ∀ {es : List CE} {mk : List Bool} {s s' : Sl} {os : List O}, dAs mk es s = .ok os s' → NM mk os ∧ os.length = es.length
  | [], mk, s, s', os, h => by
    simp only [dAs, Rl.ok.injEq] at h
    rw [← h.1]
    exact ⟨by cases mk with
      | nil => trivial
      | cons m mk => cases m <;> trivial, rfl⟩
  | e :: es, mk, s, s', os, h => by
    simp only [dAs] at h
    have fin : ∀ {s1 : Sl} {o : O}, (dAs mk.tail es s1).cons o = .ok os s' → (mk.head? = some true ∨ ∃ d, o = .fr d) → NM mk os ∧ os.length = (e :: es).length := fun {s1 o} h ho => by
      cases q2 : dAs mk.tail es s1 with
      | ok os2 s2 =>
        simp only [q2, Rl.cons, Rl.ok.injEq] at h
        obtain ⟨h3, h4⟩ := dAs_nm q2
        rw [← h.1, List.length_cons, List.length_cons, h4]
        refine ⟨?_, rfl⟩
        cases mk with
        | nil =>
          rcases ho with z | z
          · cases z
          · exact ⟨z, h3⟩
        | cons m mk =>
          cases m with
          | true => exact h3
          | false =>
            rcases ho with z | z
            · cases z
            · exact ⟨z, h3⟩
      | ex x s2 => simp only [q2, Rl.cons, reduceCtorEq] at h
      | no => simp only [q2, Rl.cons, reduceCtorEq] at h
    split at h
    · rename_i i ei
      split at h
      · refine fin h (.inl ?_)
        by_cases z : mk.head? = some true
        · exact z
        · rw [if_neg z] at ei; cases ei
      · cases h
    · cases q : dE e s with
      | ok o s1 => rw [q] at h; exact fin h (.inr ⟨_, rfl⟩)
      | _ => rw [q] at h; simp only [reduceCtorEq] at h

noncomputable def SpM (W : Wd) (mk : List Bool) (n : Nat) (f : Fn) : Sp := fun vs H Q E => vs.length = n ∧ ∃ F os B, NM mk os ∧ Same F H ∧ TrL W F H os vs B ∧ (∀ b ∈ B, F b = none) ∧ B.Nodup ∧ PoF W E F H B vs Q (f os)
noncomputable def Refs (σ : L2.St) : List Bool → List CE → List V → Prop
  | true :: mk, .b i :: es, v :: vs => σ[i]? = some (some v) ∧ Refs σ mk es vs
  | _ :: mk, _ :: es, _ :: vs => Refs σ mk es vs
  | _, _, _ => True
structure GPo (W : Wd) (F H : Hp) (A : Nat → List Addr) (s : Sl) (σ : L2.St) (q : Bool) (mk : List Bool) (es : List CE) (os : List O) (s' : Sl) (vs : List V) (F' H' : Hp) (A' : Nat → List Addr) (B : List Addr) : Prop where
  rep : Rep W F' H' s' σ A'
  ex : Ex F H (Ow A) F' H' (fun b => Ow A' b ∨ b ∈ B)
  tr : TrL W F' H' os vs B
  by_ : By F' H' (Ow A') B
  nd : B.Nodup
  refs : Refs σ mk es vs
  qt : q = true → s' = s ∧ A' = A ∧ Same H H' ∧ B = []
noncomputable def PoG (W : Wd) (E : XS) (F H : Hp) (A : Nat → List Addr) (s : Sl) (σ : L2.St) (q : Bool) (mk : List Bool) (es : List CE) (Q : List V → Hp → Prop) : Rl → Prop
  | .ok os s' => ∀ vs F' H' A' B, GPo W F H A s σ q mk es os s' vs F' H' A' B → Q vs H'
  | .ex x s' => ∀ c d F' H' A', XPo W F H A σ x s' c d F' H' A' → E c d σ H'
  | .no => False
noncomputable def SG (W : Wd) (E : XS) (q : Bool) (t : TA) (mk : List Bool) (es : List CE) : Prop := ∀ (F H : Hp) (s : Sl) (σ : L2.St) (A : Nat → List Addr) (Q : List V → Hp → Prop), Rep W F H s σ A → PoG W E F H A s σ q mk es Q (dAs mk es s) → t σ H Q
noncomputable def qG (mk : List Bool) (es : List CE) : Bool := mk.all (! ·) && quiets es
theorem sg_nil {mk : List Bool} : SG W E (qG mk []) tNil mk [] := by
  intro F H s σ A Q R h
  simp only [dAs] at h
  refine h [] F H A [] ⟨R, Ex.refl.less fun b z => ?_, by unfold TrL; exact ⟨rfl, rfl⟩, ⟨(fun _ h => by cases h), (fun _ h => by cases h), (fun _ h => by cases h)⟩, .nil, ?_, fun _ => ⟨rfl, rfl, fun _ _ h => h, rfl⟩⟩
  · rcases z with z | z
    · exact z
    · cases z
  · unfold Refs
    split <;> first | trivial | (rename_i h1 _; cases h1) | (rename_i h1; cases h1) | (simp_all)
theorem Rep.take {F H : Hp} {s : Sl} {σ : L2.St} {A : Nat → List Addr} {i : Nat} (R : Rep W F H s σ A) : Rep W F H (s.set i none) σ (fun j => if j = i then [] else A j) := by
  refine ⟨R.fh, fun j o e => ?_, fun j a ha => ?_, fun j k a ha hb => ?_, fun j => ?_, by rw [List.length_set]; exact R.len⟩
  · by_cases hj : j = i
    · subst hj
      rcases Nat.lt_or_ge j s.length with z | z
      · rw [List.getElem?_set_self z] at e; cases e
      · rw [List.getElem?_eq_none (by rw [List.length_set]; exact z)] at e; cases e
    · rw [List.getElem?_set_ne (fun z => hj z.symm)] at e
      rw [if_neg hj]
      exact R.slot j o e
  · by_cases hj : j = i
    · rw [if_pos hj] at ha; cases ha
    · rw [if_neg hj] at ha; exact R.own j a ha
  · by_cases hj : j = i
    · rw [if_pos hj] at ha; cases ha
    · by_cases hk : k = i
      · rw [if_pos hk] at hb; cases hb
      · rw [if_neg hj] at ha
        rw [if_neg hk] at hb
        exact R.dis j k a ha hb
  · by_cases hj : j = i
    · rw [if_pos hj]; exact .nil
    · rw [if_neg hj]; exact R.nd j
theorem ow_take {A : Nat → List Addr} {i : Nat} {b : Addr} (h : Ow (fun j => if j = i then [] else A j) b) : Ow A b := by
  obtain ⟨j, h⟩ := h
  have h : b ∈ (if j = i then [] else A j) := h
  by_cases hj : j = i
  · rw [if_pos hj] at h; cases h
  · rw [if_neg hj] at h; exact ⟨j, h⟩
theorem se_m (i : Nat) : SE W E false (tVar i) (dE (.m i)) := by
  intro F H s σ A Q R h
  simp only [dE] at h
  cases e : s[i]? with
  | none => rw [e] at h; exact h.elim
  | some o =>
    cases o with
    | none => rw [e] at h; exact h.elim
    | some o =>
      rw [e] at h
      obtain ⟨v, hv, t⟩ := R.slot i o e
      have by1 : By F H (Ow fun j => if j = i then [] else A j) (A i) := ⟨fun b hb => (R.own i b hb).1, fun b hb => (R.own i b hb).2, fun b hb ⟨j, z⟩ => by
        have z : b ∈ (if j = i then [] else A j) := z
        by_cases hj : j = i
        · rw [if_pos hj] at z; cases z
        · rw [if_neg hj] at z; exact hj (R.dis j i b z hb)⟩
      exact ⟨v, hv, h v F H _ (A i) ⟨R.take, Ex.refl.less fun b z => z.elim ow_take fun y => ⟨i, y⟩, t, by1, R.nd i, fun z => by cases z⟩⟩
theorem sg_cons {te : TE} {ta : TA} {mk : List Bool} {e : CE} {es : List CE} (h1 : SE W E (quiet e) te (dE e)) (hb : ∀ i, e = .b i → te = tVar i) (h2 : SG W E (qG mk.tail es) ta mk.tail es) : SG W E (qG mk (e :: es)) (tCons te ta) mk (e :: es) := by
  intro F H s σ A Q R h
  simp only [dAs] at h
  by_cases hm : mk.head? = some true ∧ (isB e).isSome = true
  · obtain ⟨hm, hi⟩ := hm
    cases e with
    | b i =>
      simp only [isB] at h
      rw [if_pos hm] at h
      have hte := hb i rfl
      subst hte
      dsimp only at h
      cases es' : s[i]? with
      | none => rw [es'] at h; exact h.elim
      | some o =>
        cases o with
        | none => rw [es'] at h; exact h.elim
        | some o =>
          rw [es'] at h
          dsimp only at h
          obtain ⟨v, hv, t⟩ := R.slot i o es'
          refine ⟨v, hv, ?_⟩
          have R1 := R.take (i := i)
          refine h2 F H (s.set i none) σ _ _ R1 ?_
          have by1 : By F H (Ow fun j => if j = i then [] else A j) (A i) := ⟨fun b hb => (R.own i b hb).1, fun b hb => (R.own i b hb).2, fun b hb ⟨j, z⟩ => by
            have z : b ∈ (if j = i then [] else A j) := z
            by_cases hj : j = i
            · rw [if_pos hj] at z; cases z
            · rw [if_neg hj] at z; exact hj (R.dis j i b z hb)⟩
          have x0 : Ex F H (Ow A) F H (Ow fun j => if j = i then [] else A j) := Ex.refl.less fun b z => ow_take z
          revert h
          cases dAs mk.tail es (s.set i none) with
          | ok os s2 =>
            intro h vs F2 H2 A2 B2 p2
            have x2 := x0.trans p2.ex
            refine h (v :: vs) F2 H2 A2 (A i ++ B2) ⟨p2.rep, ⟨x2.sF, x2.keep, x2.dom, x2.frz, fun b z => ?_⟩, ?_, ?_, ?_, ?_, fun z => ?_⟩
            · rcases z with z | z
              · exact x2.cells b (.inl z)
              · rcases List.mem_append.mp z with z | z
                · exact .inl ⟨i, z⟩
                · exact x2.cells b (.inr z)
            · simp only [TrL]
              exact ⟨v, vs, A i, B2, rfl, rfl, by1.tr p2.ex t, p2.tr⟩
            · exact ((by1.ex p2.ex).imp fun b z => .inl z).app p2.by_
            · exact nodup_app (R.nd i) p2.nd fun b hb z => (by1.ex p2.ex).nP b hb (.inr z)
            · cases mk with
              | nil => cases hm
              | cons m mk =>
                cases hm
                exact ⟨hv, p2.refs⟩
            · cases mk with
              | nil => cases hm
              | cons m mk =>
                cases hm
                simp [qG] at z
          | ex x s2 =>
            intro h c d F' H' A' p
            exact h c d F' H' A' ⟨p.rep, x0.trans p.ex, p.xr⟩
          | no => exact fun h => h
    | _ => cases hi
  · have hn : (if mk.head? = some true then isB e else none) = none := by
      by_cases z : mk.head? = some true
      · rw [if_pos z]
        cases q : isB e with
        | none => rfl
        | some i => exact absurd ⟨z, by rw [q]; rfl⟩ hm
      · rw [if_neg z]
    rw [hn] at h
    dsimp only at h
    refine h1 F H s σ A _ R ?_
    revert h
    cases dE e s with
    | ok o s1 =>
      intro h v F1 H1 A1 B1 p1
      have by1 := p1.by_
      have R1 := p1.rep.fz by1
      refine h2 (adds F1 H1 B1) H1 s1 σ A1 _ R1 ?_
      have x1 : Ex F H (Ow A) (adds F1 H1 B1) H1 (Ow A1) := p1.ex.fz by1.fr
      have iv : IsV W (adds F1 H1 B1) o.fz v := p1.tr.frozen by1.fr
      have h : PoG W E F H A s σ (qG mk (e :: es)) mk (e :: es) Q ((dAs mk.tail es s1).cons (.fr o.fz)) := h
      revert h
      cases dAs mk.tail es s1 with
      | ok os s2 =>
        intro h vs F2 H2 A2 B2 p2
        refine h (v :: vs) F2 H2 A2 B2 ⟨p2.rep, x1.trans p2.ex, ?_, p2.by_, p2.nd, ?_, fun z => ?_⟩
        · simp only [TrL]
          exact ⟨v, vs, [], B2, rfl, rfl, tr_fr (iv.mono p2.ex.sF), p2.tr⟩
        · cases mk with
          | nil => exact trivial
          | cons m mk =>
            cases m with
            | false => exact p2.refs
            | true =>
              cases e with
              | b i => exact absurd ⟨rfl, rfl⟩ hm
              | _ => exact p2.refs
        · have z1 : quiet e = true ∧ qG mk.tail es = true := by
            unfold qG at z ⊢
            simp only [quiets, Bool.and_eq_true] at z ⊢
            refine ⟨z.2.1, ?_, z.2.2⟩
            cases mk with
            | nil => exact z.1
            | cons m mk => simp only [List.all_cons, Bool.and_eq_true] at z; exact z.1.2
          obtain ⟨a, b, c⟩ := p1.qt z1.1
          obtain ⟨a', b', c', d'⟩ := p2.qt z1.2
          exact ⟨a'.trans a, b'.trans b, c.trans c', d'⟩
      | ex x s2 =>
        intro h c d F' H' A' p
        exact h c d F' H' A' ⟨p.rep, x1.trans p.ex, p.xr⟩
      | no => exact fun h => h
    | bw o s1 => exact fun h => h.elim
    | ex x s1 =>
      intro h c d F' H' A' p
      exact h c d F' H' A' p
    | no => exact fun h => h
theorem Rep.ex {F H F' H' : Hp} {P P' : Addr → Prop} {s : Sl} {σ : L2.St} {A : Nat → List Addr} (R : Rep W F H s σ A) (e : Ex F H P F' H' P') (g : Same F' H') (n : ∀ b, Ow A b → ¬ P b) : Rep W F' H' s σ A := by
  refine ⟨g, fun i o h => ?_, fun i a ha => ?_, R.dis, R.nd, R.len⟩
  · obtain ⟨v, h1, h2⟩ := R.slot i o h
    exact ⟨v, h1, h2.frame e.sF fun b hb x hx => e.keep b x hx (n b ⟨i, hb⟩)⟩
  · obtain ⟨h1, x, h2⟩ := R.own i a ha
    refine ⟨?_, e.dom a x h2⟩
    cases q : F' a with
    | none => rfl
    | some o =>
      rcases e.frz a o q with ⟨o', z⟩ | z | z
      · rw [h1] at z; cases z
      · rw [h2] at z; cases z
      · exact absurd z (n a ⟨i, ha⟩)
theorem Rep.put {F H : Hp} {s : Sl} {σ : L2.St} {A : Nat → List Addr} {i : Nat} {o : O} {v : V} {C : List Addr} (R : Rep W F H s σ A) (hv : σ[i]? = some (some v)) (t : Tr W F H o v C) (nd : C.Nodup) (fr : ∀ b ∈ C, F b = none) (n : ∀ b ∈ C, ¬ Ow A b) :
    Rep W F H (s.set i (some o)) σ (fun j => if j = i then C else A j) := by
  refine ⟨R.fh, fun j o' e => ?_, fun j a ha => ?_, fun j k a ha hb => ?_, fun j => ?_, by rw [List.length_set]; exact R.len⟩
  · by_cases hj : j = i
    · subst hj
      rw [if_pos rfl]
      rcases Nat.lt_or_ge j s.length with z | z
      · rw [List.getElem?_set_self z] at e
        cases e
        exact ⟨v, hv, t⟩
      · rw [List.getElem?_eq_none (by rw [List.length_set]; exact z)] at e; cases e
    · rw [List.getElem?_set_ne (fun z => hj z.symm)] at e
      rw [if_neg hj]
      exact R.slot j o' e
  · by_cases hj : j = i
    · rw [if_pos hj] at ha; exact ⟨fr a ha, t.cell a ha⟩
    · rw [if_neg hj] at ha; exact R.own j a ha
  · by_cases hj : j = i
    · by_cases hk : k = i
      · rw [hj, hk]
      · rw [if_pos hj] at ha
        rw [if_neg hk] at hb
        exact absurd ⟨k, hb⟩ (n a ha)
    · by_cases hk : k = i
      · rw [if_pos hk] at hb
        rw [if_neg hj] at ha
        exact absurd ⟨j, ha⟩ (n a hb)
      · rw [if_neg hj] at ha
        rw [if_neg hk] at hb
        exact R.dis j k a ha hb
  · by_cases hj : j = i
    · rw [if_pos hj]; exact nd
    · rw [if_neg hj]; exact R.nd j
theorem ow_put {A : Nat → List Addr} {i : Nat} {C : List Addr} {b : Addr} (h : Ow (fun j => if j = i then C else A j) b) : Ow A b ∨ b ∈ C := by
  obtain ⟨j, h⟩ := h
  have h : b ∈ (if j = i then C else A j) := h
  by_cases hj : j = i
  · rw [if_pos hj] at h; exact .inr h
  · rw [if_neg hj] at h; exact .inl ⟨j, h⟩
theorem putA_rep {F H : Hp} {σ : L2.St} : ∀ {mk : List Bool} {es : List CE} {os : List O} {vs : List V} {s : Sl} {A : Nat → List Addr} {C : List Addr}, Rep W F H s σ A → TrL W F H os vs C → C.Nodup → (∀ b ∈ C, F b = none) → (∀ b ∈ C, ¬ Ow A b) → Refs σ mk es vs →
    ∃ A', Rep W F H (putA mk es os s) σ A' ∧ ∀ b, Ow A' b → Ow A b ∨ b ∈ C
  | [], es, os, vs, s, A, C, R, _, _, _, _, _ => ⟨A, by simpa only [putA] using R, fun b z => .inl z⟩
  | m :: mk, [], os, vs, s, A, C, R, _, _, _, _, _ => ⟨A, by simpa only [putA] using R, fun b z => .inl z⟩
  | m :: mk, e :: es, [], vs, s, A, C, R, _, _, _, _, _ => ⟨A, by simpa only [putA] using R, fun b z => .inl z⟩
  | m :: mk, e :: es, o :: os, vs, s, A, C, R, t, nd, fr, n, rf => by
    simp only [TrL] at t
    obtain ⟨v, r, C1, C2, rfl, rfl, t1, t2⟩ := t
    have nd' := nd
    unfold List.Nodup at nd'
    rw [List.pairwise_append] at nd'
    have skip : Refs σ mk es r → putA (m :: mk) (e :: es) (o :: os) s = putA mk es os s → ∃ A', Rep W F H (putA (m :: mk) (e :: es) (o :: os) s) σ A' ∧ ∀ b, Ow A' b → Ow A b ∨ b ∈ C1 ++ C2 := fun rf eq => by
      rw [eq]
      obtain ⟨A', R', h'⟩ := putA_rep R t2 nd'.2.1 (fun b hb => fr b (List.mem_append_right _ hb)) (fun b hb => n b (List.mem_append_right _ hb)) rf
      exact ⟨A', R', fun b z => (h' b z).imp id fun y => List.mem_append_right _ y⟩
    cases m with
    | false => exact skip rf rfl
    | true =>
      cases e with
      | b i =>
        obtain ⟨hv, rf⟩ := rf
        have R1 := R.put hv t1 nd'.1 (fun b hb => fr b (List.mem_append_left _ hb)) (fun b hb => n b (List.mem_append_left _ hb))
        obtain ⟨A', R', h'⟩ := putA_rep (mk := mk) (es := es) R1 t2 nd'.2.1 (fun b hb => fr b (List.mem_append_right _ hb)) (fun b hb z => by
          rcases ow_put z with z | z
          · exact n b (List.mem_append_right _ hb) z
          · exact nd'.2.2 b z b hb rfl) rf
        refine ⟨A', R', fun b z => ?_⟩
        rcases h' b z with z | z
        · rcases ow_put z with z | z
          · exact .inl z
          · exact .inr (List.mem_append_left _ z)
        · exact .inr (List.mem_append_right _ z)
      | _ => exact skip rf rfl
theorem putA_q : ∀ {mk : List Bool} {es : List CE} {os : List O} {s : Sl}, mk.all (! ·) = true → putA mk es os s = s
  | [], _, _, _, _ => by simp only [putA]
  | m :: mk, [], _, _, _ => by simp only [putA]
  | m :: mk, e :: es, [], _, _ => by simp only [putA]
  | m :: mk, e :: es, o :: os, s, h => by
    simp only [List.all_cons, Bool.and_eq_true] at h
    have : m = false := by simpa using h.1
    subst this
    simp only [putA]
    exact putA_q h.2
theorem Ex.widen {F H F' H' : Hp} {P P' R : Addr → Prop} (e : Ex F H P F' H' P') : Ex F H (fun b => R b ∨ P b) F' H' (fun b => R b ∨ P' b) := ⟨e.sF, fun b o h n => e.keep b o h fun z => n (.inr z), e.dom, fun b o h => by
  rcases e.frz b o h with z | z | z
  · exact .inl z
  · exact .inr (.inl z)
  · exact .inr (.inr (.inr z)), fun b z => by
  rcases z with z | z
  · exact .inl (.inl z)
  · rcases e.cells b z with y | y
    · exact .inl (.inr y)
    · exact .inr y⟩
theorem se_call {ta : TA} {x : Str} {mk : List Bool} {f : Fn} {es : List CE} {n : Nat} (hn : es.length = n) (h1 : SG W E (qG mk es) ta mk es) : SE W E (quiet (.call x mk f es)) (tCallX (SpM W mk n f) E ta) (dE (.call x mk f es)) := by
  intro F H s σ A Q R h
  simp only [dE, quiet] at h
  refine h1 F H s σ A _ R ?_
  revert h
  cases eo : dAs mk es s with
  | ok os s1 =>
    intro h vs F1 H1 A1 B p
    have hlen : vs.length = es.length := by rw [p.tr.len, (dAs_nm eo).2]
    dsimp only at h
    refine ⟨hlen.trans hn, F1, os, B, (dAs_nm eo).1, p.rep.fh, p.tr, p.by_.fr, p.nd, ?_⟩
    revert h
    cases f os with
    | ok o os' =>
      intro h v F2 H2 C B' r
      have nB : ∀ b, Ow A1 b → ¬ b ∈ B := fun b z y => p.by_.nP b y z
      have R2 := p.rep.ex r.ex r.fh nB
      have nd' := r.nd
      unfold List.Nodup at nd'
      rw [List.pairwise_append] at nd'
      have nC : ∀ b ∈ C ++ B', ¬ Ow A1 b := fun b hb z => by
        rcases r.ex.cells b hb with y | y
        · exact nB b z y
        · obtain ⟨i, z⟩ := z
          obtain ⟨_, x, hx⟩ := p.rep.own i b z
          rw [y] at hx; cases hx
      obtain ⟨A2, R3, hA⟩ := putA_rep (mk := mk) (es := es) R2 r.args nd'.1 (fun b hb => r.fr b (List.mem_append_left _ hb)) (fun b hb => nC b (List.mem_append_left _ hb)) p.refs
      have xx := p.ex.trans (r.ex.widen (R := Ow A1))
      have nA2 : ∀ b ∈ B', ¬ Ow A2 b := fun b hb z => by
        rcases hA b z with y | y
        · exact nC b (List.mem_append_right _ hb) y
        · exact nd'.2.2 b y b hb rfl
      by_cases hq : (mk.all (! ·) && quiets es) = true
      · obtain ⟨a1, b1, c1, d1⟩ := p.qt hq
        subst a1; subst b1; subst d1
        rw [Bool.and_eq_true] at hq
        have e1 : putA mk es os' s1 = s1 := putA_q hq.1
        dsimp only at h
        rw [e1] at h
        refine h v F2 H2 A1 B' ⟨R2, xx.less fun b z => ?_, r.tr, ⟨fun b hb => r.fr b (List.mem_append_right _ hb), r.tr.cell, fun b hb => nC b (List.mem_append_right _ hb)⟩, nd'.2.1, fun _ => ⟨rfl, rfl, c1.trans fun b o hb => r.ex.keep b o hb (by simp)⟩⟩
        rcases z with z | z
        · exact .inl z
        · exact .inr (List.mem_append_right _ z)
      · refine h v F2 H2 A2 B' ⟨R3, xx.less fun b z => ?_, r.tr, ⟨fun b hb => r.fr b (List.mem_append_right _ hb), r.tr.cell, nA2⟩, nd'.2.1, fun z => absurd z hq⟩
        rcases z with z | z
        · rcases hA b z with y | y
          · exact .inl y
          · exact .inr (List.mem_append_left _ y)
        · exact .inr (List.mem_append_right _ z)
    | ex x os' =>
      intro h c d F2 H2 C r hx
      have nB : ∀ b, Ow A1 b → ¬ b ∈ B := fun b z y => p.by_.nP b y z
      have R2 := p.rep.ex r.ex r.fh nB
      have nC : ∀ b ∈ C, ¬ Ow A1 b := fun b hb z => by
        rcases r.ex.cells b hb with y | y
        · exact nB b z y
        · obtain ⟨i, z⟩ := z
          obtain ⟨_, x, hx⟩ := p.rep.own i b z
          rw [y] at hx; cases hx
      obtain ⟨A2, R3, hA⟩ := putA_rep (mk := mk) (es := es) R2 r.args r.nd r.fr nC p.refs
      have xx := p.ex.trans (r.ex.widen (R := Ow A1))
      exact h c d F2 H2 A2 ⟨R3, xx.less fun b z => hA b z, hx⟩
    | no => exact fun h => h
  | ex x s1 =>
    intro h c d F' H' A' p
    exact h c d F' H' A' p
  | no => exact fun h => h

structure QPo (W : Wd) (F H : Hp) (A : Nat → List Addr) (s : Sl) (σ : L2.St) (os : List O) (s' : Sl) (vs : List V) (F' H' : Hp) (B : List Addr) : Prop where
  rep : Rep W F' H' s σ A
  eq : s' = s
  ex : Ex F H (Ow A) F' H' (Ow A)
  sH : Same H H'
  tr : IsVs W H' (fzs os) vs
  trB : ∀ F1, Same F' F1 → (∀ b ∈ B, ∀ x, H' b = some x → F1 b = some x) → IsVs W F1 (fzs os) vs
  fr : ∀ b ∈ B, F' b = none ∧ ∃ x, H' b = some x
noncomputable def PoQ (W : Wd) (E : XS) (F H : Hp) (A : Nat → List Addr) (s : Sl) (σ : L2.St) (Q : List V → Hp → Prop) : Rl → Prop
  | .ok os s' => ∀ vs F' H' B, QPo W F H A s σ os s' vs F' H' B → Q vs H'
  | .ex x s' => ∀ c d F' H' A', XPo W F H A σ x s' c d F' H' A' → E c d σ H'
  | .no => False
noncomputable def SQ (W : Wd) (E : XS) (t : TA) (es : List CE) : Prop := ∀ (F H : Hp) (s : Sl) (σ : L2.St) (A : Nat → List Addr) (Q : List V → Hp → Prop), Rep W F H s σ A → quiets es = true → PoQ W E F H A s σ Q (dQs es s) → t σ H Q
theorem sq_nil : SQ W E tNil [] := by
  intro F H s σ A Q R _ h
  simp only [dQs] at h
  exact h [] F H [] ⟨R, rfl, Ex.refl, fun _ _ h => h, by simp only [fzs, IsVs], fun _ _ _ => by simp only [fzs, IsVs], fun _ h => by cases h⟩
theorem sq_cons {te : TE} {ta : TA} {e : CE} {es : List CE} (h1 : SE W E (quiet e) te (dE e)) (h2 : SQ W E ta es) : SQ W E (tCons te ta) (e :: es) := by
  intro F H s σ A Q R hq h
  simp only [quiets, Bool.and_eq_true] at hq
  simp only [dQs] at h
  refine h1 F H s σ A _ R ?_
  have main : ∀ (o : O) (s1 : Sl) (v : V) (F1 H1 : Hp) (A1 : Nat → List Addr) (B1 : List Addr), Rep W F1 H1 s1 σ A1 → Ex F H (Ow A) F1 H1 (Ow A1) → Tr W F1 H1 o v B1 → (∀ b ∈ B1, F1 b = none) → s1 = s → A1 = A → Same H H1 → PoQ W E F H A s σ Q ((dQs es s1).cons o) → ta σ H1 fun xs H2 => Q (v :: xs) H2 := by
    intro o s1 v F1 H1 A1 B1 R1 x1 t1 f1 e1 e2 g1 h
    subst e1; subst e2
    refine h2 F1 H1 s1 σ A1 _ R1 hq.2 ?_
    revert h
    cases dQs es s1 with
    | ok os s2 =>
      intro h vs F2 H2 B2 p
      have eo : ∀ b ∈ B1, F2 b = none := fun b hb => by
        cases q : F2 b with
        | none => rfl
        | some z =>
          obtain ⟨y, hy⟩ := t1.cell b hb
          rcases p.ex.frz b z q with ⟨o', u⟩ | u | u
          · rw [f1 b hb] at u; cases u
          · rw [hy] at u; cases u
          · obtain ⟨i, u⟩ := u
            rw [(p.rep.own i b u).1] at q; cases q
      have t2 : Tr W F2 H2 o v B1 := t1.frame p.ex.sF fun b hb x hx => p.sH _ _ hx
      refine h (v :: vs) F2 H2 (B1 ++ B2) ⟨p.rep, p.eq, x1.trans p.ex, g1.trans p.sH, ?_, fun F3 g3 k3 => ?_, fun b hb => ?_⟩
      · simp only [fzs, IsVs]
        exact ⟨v, vs, rfl, t2.now p.rep.fh, p.tr⟩
      · simp only [fzs, IsVs]
        exact ⟨v, vs, rfl, t2.fz g3 fun b hb => k3 b (List.mem_append_left _ hb), p.trB F3 g3 fun b hb => k3 b (List.mem_append_right _ hb)⟩
      · rcases List.mem_append.mp hb with z | z
        · exact ⟨eo b z, t2.cell b z⟩
        · exact p.fr b z
    | ex x s2 =>
      intro h c d F' H' A' p
      exact h c d F' H' A' ⟨p.rep, x1.trans p.ex, p.xr⟩
    | no => exact fun h => h
  revert h
  cases dE e s with
  | ok o s1 =>
    intro h v F1 H1 A1 B1 p1
    obtain ⟨e1, e2, g1⟩ := p1.qt hq.1
    exact main o s1 v F1 H1 A1 B1 p1.rep (p1.ex.less fun _ z => .inl z) p1.tr p1.by_.fr e1 e2 g1 h
  | bw o s1 =>
    intro h v F1 H1 A1 B1 p1
    obtain ⟨e1, e2, g1⟩ := p1.qt hq.1
    exact main o s1 v F1 H1 A1 B1 p1.rep p1.ex p1.tr p1.nF e1 e2 g1 h
  | ex x s1 => exact fun h => h
  | no => exact fun h => h
theorem trL_frs {F H : Hp} : ∀ {os : List O} {vs : List V}, IsVs W F (fzs os) vs → TrL W F H (os.map fun o => O.fr o.fz) vs []
  | [], vs, h => by simp only [fzs, IsVs] at h; unfold List.map; unfold TrL; exact ⟨h, rfl⟩
  | o :: os, vs, h => by
    simp only [fzs, IsVs] at h
    obtain ⟨v, r, rfl, h1, h2⟩ := h
    simp only [List.map_cons, TrL]
    exact ⟨v, r, [], [], rfl, rfl, tr_fr h1, trL_frs h2⟩
theorem nm_frs : ∀ os : List O, NM [] (os.map fun o => O.fr o.fz)
  | [] => trivial
  | o :: os => ⟨⟨_, rfl⟩, nm_frs os⟩
theorem scal_is {F F' : Hp} {d : D} {v : V} (h : IsV W F d v) (e : scalD d = true) : IsV W F' d v := by
  cases d <;> first | cases e; done | (simp only [IsV] at h ⊢; exact h)
theorem dQs_len : ∀ {es : List CE} {s s' : Sl} {os : List O}, dQs es s = .ok os s' → os.length = es.length
  | [], _, _, _, h => by simp only [dQs, Rl.ok.injEq] at h; rw [← h.1]; rfl
  | e :: es, s, s', os, h => by
    simp only [dQs] at h
    have fin : ∀ {s1 : Sl} {o : O}, (dQs es s1).cons o = .ok os s' → os.length = (e :: es).length := fun {s1 o} h => by
      cases q2 : dQs es s1 with
      | ok os2 s2 =>
        simp only [q2, Rl.cons, Rl.ok.injEq] at h
        rw [← h.1, List.length_cons, List.length_cons, dQs_len q2]
      | ex x s2 => simp only [q2, Rl.cons, reduceCtorEq] at h
      | no => simp only [q2, Rl.cons, reduceCtorEq] at h
    cases q : dE e s with
    | ok o s1 => rw [q] at h; exact fin h
    | bw o s1 => rw [q] at h; exact fin h
    | _ => rw [q] at h; simp only [reduceCtorEq] at h

noncomputable def less (F : Hp) (B : List Addr) : Hp := fun b => if b ∈ B then none else F b
theorem se_callB {ta : TA} {x : Str} {f : Fn} {es : List CE} {n : Nat} (hn : es.length = n) (h1 : SQ W E ta es) : SE W E (quiet (.callB x f es)) (tCallX (SpM W [] n f) E ta) (dE (.callB x f es)) := by
  intro F H s σ A Q R h
  simp only [dE, quiet] at h
  split at h
  · rename_i hq
    refine h1 F H s σ A _ R hq ?_
    revert h
    cases eo : dQs es s with
    | ok os s1 =>
      intro h vs F1 H1 B p
      dsimp only at h
      have hlen : vs.length = es.length := by rw [p.tr.len, fzs_len, dQs_len eo]
      have es1 := p.eq
      subst es1
      have sF1 : Same F1 (adds F1 H1 B) := adds_same fun b hb => (p.fr b hb).1
      have g1 : Same (adds F1 H1 B) H1 := adds_le p.rep.fh
      have iv := p.trB (adds F1 H1 B) sF1 adds_in
      refine ⟨hlen.trans hn, adds F1 H1 B, os.map fun o => .fr o.fz, [], nm_frs os, g1, trL_frs iv, (fun _ h => by cases h), .nil, ?_⟩
      have key : ∀ {F2 H2 : Hp} {P : Addr → Prop}, Same F2 H2 → Ex (adds F1 H1 B) H1 (· ∈ ([] : List Addr)) F2 H2 P → Rep W (less F2 B) H2 s1 σ A ∧ Ex F H (Ow A) (less F2 B) H2 (Ow A) := fun {F2 H2 P} g2 e2 => by
        have keep : Same H1 H2 := fun b o hb => e2.keep b o hb (by simp)
        have sF : Same F1 (less F2 B) := fun b o hb => by
          unfold less
          rw [if_neg (fun z => by rw [(p.fr b z).1] at hb; cases hb)]
          exact e2.sF _ _ (sF1 _ _ hb)
        have frz : ∀ b o, less F2 B b = some o → (∃ o', F1 b = some o') ∨ H1 b = none := fun b o hb => by
          unfold less at hb
          split at hb
          · cases hb
          · rename_i nb
            rcases e2.frz b o hb with ⟨o', z⟩ | z | z
            · unfold adds at z
              rw [if_neg nb] at z
              exact .inl ⟨o', z⟩
            · exact .inr z
            · cases z
        refine ⟨⟨fun b o hb => ?_, fun i o e => ?_, fun i a ha => ?_, p.rep.dis, p.rep.nd, p.rep.len⟩, p.ex.trans ⟨sF, fun b o hb _ => keep _ _ hb, fun b o hb => ⟨o, keep _ _ hb⟩, fun b o hb => (frz b o hb).imp id .inl, fun b hb => .inl hb⟩⟩
        · unfold less at hb
          split at hb
          · cases hb
          · exact g2 _ _ hb
        · obtain ⟨v, hv, t⟩ := p.rep.slot i o e
          exact ⟨v, hv, t.frame sF fun b _ y hy => keep _ _ hy⟩
        · obtain ⟨h1, y, h2⟩ := p.rep.own i a ha
          refine ⟨?_, y, keep _ _ h2⟩
          cases q : less F2 B a with
          | none => rfl
          | some o =>
            rcases frz a o q with ⟨o', z⟩ | z
            · rw [h1] at z; cases z
            · rw [h2] at z; cases z
      revert h
      cases f (os.map fun o => .fr o.fz) with
      | ok o os' =>
        intro h v F2 H2 C B' r
        cases o with
        | fr d =>
          simp only [Fr.scal] at h
          split at h
          · rename_i hs
            obtain ⟨R2, x2⟩ := key r.fh r.ex
            have rt := r.tr
            simp only [Tr] at rt
            exact Po.al R2 (Al.refl R2.fh) (tr_fr (scal_is rt.2 hs)) (Po.chain (q' := true) x2 (fun z => by cases z) h)
          · exact h.elim
        | _ => exact h.elim
      | ex x os' => exact fun h => h.elim
      | no => exact fun h => h
    | ex x s1 => exact fun h => h
    | no => exact fun h => h
  · exact h.elim
end L3

set_option Elab.async false
set_option linter.all false
set_option maxRecDepth 100000
namespace L3
open PySem L2 PySem.Spec PyProof.Rows
variable {W : Wd} {E : XS}

noncomputable def qB (Q : Bool → Hp → Prop) : VK := fun v H => ∃ b, v = .bl b ∧ Q b H
noncomputable def ST (W : Wd) (E : XS) (q : Bool) (t : TT) (m : Sl → Rv) : Prop := ∀ (F H : Hp) (s : Sl) (σ : L2.St) (A : Nat → List Addr) (Q : Bool → Hp → Prop), Rep W F H s σ A → Po W E F H A s σ q (qB Q) (m s) → t σ H Q
theorem Po.one {F H : Hp} {A : Nat → List Addr} {s : Sl} {σ : L2.St} {q : Bool} {Q Z : VK} {r : Rv} {k : O → Sl → Rv} (h : Po W E F H A s σ q Q (r.one k))
    (hz : ∀ F1 H1 s1 A1 x v B1, Rep W F1 H1 s1 σ A1 → Tr W F1 H1 x v B1 → Po W E F1 H1 A1 s1 σ true Q (k x s1) → Z v H1) : Po W E F H A s σ q Z r := by
  cases r with
  | ok x s1 =>
    intro v F1 H1 A1 B1 p1
    exact hz F1 H1 s1 A1 x v B1 p1.rep p1.tr (Po.chain (p1.ex.less fun _ z => .inl z) (fun z => ⟨p1.qt z, rfl⟩) h)
  | bw x s1 =>
    intro v F1 H1 A1 B1 p1
    exact hz F1 H1 s1 A1 x v B1 p1.rep p1.tr (Po.chain p1.ex (fun z => ⟨p1.qt z, rfl⟩) h)
  | ex x s1 => exact h
  | no => exact h
theorem Po.bool {F H : Hp} {A : Nat → List Addr} {s : Sl} {σ : L2.St} {q q1 q2 : Bool} {Q : VK} {Z : Bool → Hp → Prop} {r : Rv} {k : Bool → Sl → Rv} (h : Po W E F H A s σ q Q (r.bool k)) (hq : q = true → q1 = true ∧ q2 = true)
    (hz : ∀ F1 H1 s1 A1 b, Rep W F1 H1 s1 σ A1 → Po W E F1 H1 A1 s1 σ q2 Q (k b s1) → Z b H1) : Po W E F H A s σ q1 (qB Z) r := by
  revert h
  unfold Rv.bool
  split
  · rename_i b s1
    intro h v F1 H1 A1 B1 p1
    exact ⟨b, fz_bl p1.tr rfl, hz F1 H1 s1 A1 b p1.rep (Po.chain (p1.ex.less fun _ z => .inl z) (fun z => ⟨p1.qt (hq z).1, (hq z).2⟩) h)⟩
  · exact fun h => h
  · exact fun h => h.elim
theorem st_test {q : Bool} {te : TE} {m : Sl → Rv} (h : SE W E q te m) : ST W E q (tTest te) m := fun F H s σ A Q R p => h F H s σ A (qB Q) R p
theorem st_t {ta : TE} {a : CE} (ha : SE W E (quiet a) ta (dE a)) : ST W E false (tTruK W.K ta) (dE (.t a)) := by
  intro F H s σ A Q R h
  simp only [dE] at h
  refine ha F H s σ A _ R (Po.refl (q := false) (fun z => by cases z) (Po.one h fun F1 H1 s1 A1 x v B1 R1 t p => ?_))
  obtain ⟨b, e, b', hb, q⟩ := Po.ob R1 p
  cases hb
  exact ⟨b, tru_is R1.fh t e, q⟩
theorem st_tn {t : TT} {a : CE} (ha : ST W E false t (dE a)) : ST W E false (tNot t) (dE (.tn a)) := by
  intro F H s σ A Q R h
  simp only [dE] at h
  refine ha F H s σ A _ R (Po.bool (q2 := true) h (fun z => by cases z) fun F1 H1 s1 A1 b R1 p => ?_)
  obtain ⟨b', hb, q⟩ := Po.al R1 (Al.refl R1.fh) tr_bl p
  cases hb
  exact q
theorem st_tb1 {t : TT} {e : CE} {k : Bool} (ha : ST W E false t (dE e)) : ST W E false t (dTb k [e]) := by
  intro F H s σ A Q R h
  simp only [dTb] at h
  refine ha F H s σ A _ R (Po.bool (q2 := true) h (fun z => by cases z) fun F1 H1 s1 A1 b R1 p => ?_)
  by_cases hb : b = k
  · rw [if_pos hb] at p
    obtain ⟨b', hb', q⟩ := Po.al R1 (Al.refl R1.fh) tr_bl p
    cases hb'
    rw [hb]; exact q
  · rw [if_neg hb] at p
    obtain ⟨b', hb', q⟩ := Po.al R1 (Al.refl R1.fh) tr_bl p
    cases hb'
    exact q
theorem st_and {t u : TT} {e : CE} {es : List CE} (ha : ST W E false t (dE e)) (hb : ST W E false u (dTb true es)) : ST W E false (tAnd t u) (dTb true (e :: es)) := by
  intro F H s σ A Q R h
  simp only [dTb] at h
  refine ha F H s σ A _ R (Po.bool (q2 := false) h (fun z => by cases z) fun F1 H1 s1 A1 b R1 p => ?_)
  cases b with
  | true => rw [if_pos rfl]; rw [if_pos rfl] at p; exact hb F1 H1 s1 σ A1 Q R1 p
  | false =>
    rw [if_neg (by decide)] at p ⊢
    obtain ⟨b', hb', q⟩ := Po.al R1 (Al.refl R1.fh) tr_bl p
    cases hb'
    exact q
theorem st_or {t u : TT} {e : CE} {es : List CE} (ha : ST W E false t (dE e)) (hb : ST W E false u (dTb false es)) : ST W E false (tOr t u) (dTb false (e :: es)) := by
  intro F H s σ A Q R h
  simp only [dTb] at h
  refine ha F H s σ A _ R (Po.bool (q2 := false) h (fun z => by cases z) fun F1 H1 s1 A1 b R1 p => ?_)
  cases b with
  | false => rw [if_neg (by decide)]; rw [if_pos rfl] at p; exact hb F1 H1 s1 σ A1 Q R1 p
  | true =>
    rw [if_neg (by decide)] at p
    rw [if_pos rfl]
    obtain ⟨b', hb', q⟩ := Po.al R1 (Al.refl R1.fh) tr_bl p
    cases hb'
    exact q
theorem se_ife {t : TT} {ta tb : TE} {c a b : CE} (hc : ST W E false t (dE c)) (ha : SE W E (quiet a) ta (dE a)) (hb : SE W E (quiet b) tb (dE b)) : SE W E (quiet (.ife c a b)) (tIf t ta tb) (dE (.ife c a b)) := by
  intro F H s σ A Q R h
  simp only [dE, quiet] at h
  refine hc F H s σ A _ R (Po.bool (q2 := false) h (fun z => by cases z) fun F1 H1 s1 A1 b R1 p => ?_)
  cases b with
  | true => rw [if_pos rfl]; rw [if_pos rfl] at p; exact ha F1 H1 s1 σ A1 Q R1 (p.refl fun z => by cases z)
  | false => rw [if_neg (by decide)]; rw [if_neg (by decide)] at p; exact hb F1 H1 s1 σ A1 Q R1 (p.refl fun z => by cases z)

theorem se_bo1 {te : TE} {e : CE} {k : Bool} (h : SE W E (quiet e) te (dE e)) : SE W E false te (dBo k [e]) := by
  intro F H s σ A Q R p
  simp only [dBo, List.isEmpty_nil, if_true] at p
  exact h F H s σ A Q R (p.refl fun z => by cases z)
theorem se_boA {ta tb : TE} {e f : CE} {es : List CE} (ha : SE W E (quiet e) ta (dE e)) (hb : SE W E false tb (dBo true (f :: es))) : SE W E false (tAndV ta tb) (dBo true (e :: f :: es)) := by
  intro F H s σ A Q R h
  have h : Po W E F H A s σ false Q ((dE e s).bool fun c s1 => if c = true then dBo true (f :: es) s1 else .ok (fb c) s1) := h
  refine ha F H s σ A _ R (Po.refl (q := false) (fun z => by cases z) (Po.bool (q2 := false) h (fun z => by cases z) fun F1 H1 s1 A1 b R1 p => ?_))
  cases b with
  | true => rw [if_pos rfl]; rw [if_pos rfl] at p; exact hb F1 H1 s1 σ A1 Q R1 p
  | false => rw [if_neg (by decide)]; rw [if_neg (by decide)] at p; exact Po.al R1 (Al.refl R1.fh) tr_bl p
theorem se_boO {ta tb : TE} {e f : CE} {es : List CE} (ha : SE W E (quiet e) ta (dE e)) (hb : SE W E false tb (dBo false (f :: es))) : SE W E false (tOrV ta tb) (dBo false (e :: f :: es)) := by
  intro F H s σ A Q R h
  have h : Po W E F H A s σ false Q ((dE e s).bool fun c s1 => if c = false then dBo false (f :: es) s1 else .ok (fb c) s1) := h
  refine ha F H s σ A _ R (Po.refl (q := false) (fun z => by cases z) (Po.bool (q2 := false) h (fun z => by cases z) fun F1 H1 s1 A1 b R1 p => ?_))
  cases b with
  | false => rw [if_neg (by decide)]; rw [if_pos rfl] at p; exact hb F1 H1 s1 σ A1 Q R1 p
  | true => rw [if_pos rfl]; rw [if_neg (by decide)] at p; exact Po.al R1 (Al.refl R1.fh) tr_bl p

theorem Po.two {F H : Hp} {A : Nat → List Addr} {s : Sl} {σ : L2.St} {q qa qb q3 : Bool} {Q : VK} {r : Rv} {tb : TE} {mb : Sl → Rv} {k : O → O → Sl → Rv} {Y : V → V → Hp → Prop} (hb : SE W E qb tb mb) (h : Po W E F H A s σ q Q (r.two qb mb k)) (hq : q = true → qa = true ∧ qb = true ∧ q3 = true)
    (hz : ∀ F1 H1 s1 A1 x y v u B1 B2, Rep W F1 H1 s1 σ A1 → Tr W F1 H1 x v B1 → Tr W F1 H1 y u B2 → Po W E F1 H1 A1 s1 σ q3 Q (k x y s1) → Y v u H1) : Po W E F H A s σ qa (fun v H1 => tb σ H1 fun u H2 => Y v u H2) r := by
  cases r with
  | ok x s1 =>
    intro v F1 H1 A1 B1 p1
    refine hb F1 H1 s1 σ A1 _ p1.rep ?_
    have h : Po W E F H A s σ q Q ((mb s1).one fun y s2 => k x y s2) := h
    have x1 : Ex F H (Ow A) F1 H1 (Ow A1) := p1.ex.less fun _ z => .inl z
    revert h
    cases mb s1 with
    | ok y s2 =>
      intro h u F2 H2 A2 B2 p2
      refine hz F2 H2 s2 A2 x y v u B1 B2 p2.rep (p1.by_.tr p2.ex p1.tr) p2.tr (Po.chain (x1.trans (p2.ex.less fun _ z => .inl z)) (fun z => ?_) h)
      obtain ⟨a, b, c⟩ := p1.qt (hq z).1
      obtain ⟨a', b', c'⟩ := p2.qt (hq z).2.1
      exact ⟨⟨a'.trans a, b'.trans b, c.trans c'⟩, (hq z).2.2⟩
    | bw y s2 =>
      intro h u F2 H2 A2 B2 p2
      refine hz F2 H2 s2 A2 x y v u B1 B2 p2.rep (p1.by_.tr p2.ex p1.tr) p2.tr (Po.chain (x1.trans p2.ex) (fun z => ?_) h)
      obtain ⟨a, b, c⟩ := p1.qt (hq z).1
      obtain ⟨a', b', c'⟩ := p2.qt (hq z).2.1
      exact ⟨⟨a'.trans a, b'.trans b, c.trans c'⟩, (hq z).2.2⟩
    | ex x s2 =>
      intro h c d F' H' A' p
      exact h c d F' H' A' ⟨p.rep, x1.trans p.ex, p.xr⟩
    | no => exact fun h => h
  | bw x s1 =>
    intro v F1 H1 A1 B1 p1
    cases hqb : qb with
    | false => subst hqb; exact h.elim
    | true =>
    subst hqb
    refine hb F1 H1 s1 σ A1 _ p1.rep ?_
    have h : Po W E F H A s σ q Q ((mb s1).one fun y s2 => k x y s2) := h
    revert h
    cases mb s1 with
    | ok y s2 =>
      intro h u F2 H2 A2 B2 p2
      obtain ⟨a', b', c'⟩ := p2.qt rfl
      refine hz F2 H2 s2 A2 x y v u B1 B2 p2.rep (p1.tr.frame p2.ex.sF fun b _ z hz => c' _ _ hz) p2.tr (Po.chain (p1.ex.trans (p2.ex.less fun _ z => .inl z)) (fun z => ?_) h)
      obtain ⟨a, b, c⟩ := p1.qt (hq z).1
      exact ⟨⟨a'.trans a, b'.trans b, c.trans c'⟩, (hq z).2.2⟩
    | bw y s2 =>
      intro h u F2 H2 A2 B2 p2
      obtain ⟨a', b', c'⟩ := p2.qt rfl
      refine hz F2 H2 s2 A2 x y v u B1 B2 p2.rep (p1.tr.frame p2.ex.sF fun b _ z hz => c' _ _ hz) p2.tr (Po.chain (p1.ex.trans p2.ex) (fun z => ?_) h)
      obtain ⟨a, b, c⟩ := p1.qt (hq z).1
      exact ⟨⟨a'.trans a, b'.trans b, c.trans c'⟩, (hq z).2.2⟩
    | ex x s2 =>
      intro h c d F' H' A' p
      exact h c d F' H' A' ⟨p.rep, p1.ex.trans p.ex, p.xr⟩
    | no => exact fun h => h
  | ex x s1 => exact h
  | no => exact h
theorem se_chn {ta tb tc : TE} {a b c : CE} {o1 o2 : CO} (ha : SE W E (quiet a) ta (dE a)) (hb : SE W E (quiet b) tb (dE b)) (hc : SE W E (quiet c) tc (dE c)) : SE W E (quiet (.chn o1 o2 a b c)) (tChain (cmpR W.K o1) (cmpR W.K o2) ta tb tc) (dE (.chn o1 o2 a b c)) := by
  intro F H s σ A Q R h
  simp only [dE, quiet] at h
  refine ha F H s σ A _ R (Po.two (qa := quiet a) (q3 := false) (Q := Q) hb h (fun z => by cases z) fun F1 H1 s1 A1 x y v u B1 B2 R1 t1 t2 p => ?_)
  split at p
  · rename_i i j
    have hv : v = .int i := fz_int t1 rfl
    have hu : u = .int j := fz_int t2 rfl
    cases e : cmpO o1 (.fr (.int i)) (.fr (.int j)) with
    | none => rw [e] at p; exact p.elim
    | some k =>
      rw [e] at p
      refine os_cmp o1 F1 H1 _ _ v u B1 B2 (fb k) _ R1.fh t1 t2 (by simp only [e, Option.map_some]) fun w F2 H2 B al t => ?_
      have hw : w = .bl k := fz_bl t rfl
      refine ⟨k, hw, ?_⟩
      have R2 := al.rep R1
      have x2 : Ex F1 H1 (Ow A1) F2 H2 (Ow A1) := al.ex.less fun _ z => .inl z
      cases k with
      | true =>
        rw [if_pos rfl]
        dsimp only at p
        have p2 := Po.chain (F2 := F2) (H2 := H2) (A2 := A1) (s2 := s1) (q' := quiet c) x2 (fun z => by cases z) p
        refine hc F2 H2 s1 σ A1 _ R2 (Po.one p2 fun F3 H3 s3 A3 z w' B3 R3 t3 p3 => ?_)
        · cases e3 : cmpO o2 (.fr (.int j)) z with
          | none => rw [e3] at p3; exact p3.elim
          | some k3 =>
            rw [e3] at p3
            subst hu
            exact os_cmp o2 F3 H3 _ _ _ w' [] B3 (fb k3) _ R3.fh tr_int t3 (by simp only [e3, Option.map_some]) fun w F' H' B a t => Po.al R3 a t p3
      | false =>
        rw [if_neg (by decide)]
        dsimp only at p
        exact Po.al R2 (Al.refl R2.fh) tr_bl (Po.chain (q' := true) x2 (fun z => by cases z) p)
  · exact p.elim
end L3

set_option Elab.async false
set_option linter.all false
set_option maxRecDepth 100000
namespace L3
open PySem L2 PySem.Spec PyProof.Rows
variable {W : Wd} {E : XS}


noncomputable def IsPt (W : Wd) (E : XS) (es : List CE) (tl : TO) : Prop := (es = [] ∧ tl = tNoPart) ∨ ∃ e te, es = [e] ∧ tl = tPart te ∧ SE W E (quiet e) te (dE e)
theorem Po.part {F H : Hp} {A : Nat → List Addr} {s : Sl} {σ : L2.St} {q : Bool} {Q : VK} {es : List CE} {tl : TO} {k : Option Int → Sl → Rv} {Y : Option Int → Hp → Prop} (R : Rep W F H s σ A) (hp : IsPt W E es tl) (h : Po W E F H A s σ q Q (dOp es s k))
    (hz : ∀ F1 H1 s1 A1 l, Rep W F1 H1 s1 σ A1 → Ex F H (Ow A) F1 H1 (Ow A1) → (quiets es = true → s1 = s ∧ A1 = A ∧ Same H H1) → Po W E F H A s σ q Q (k l s1) → Y l H1) : tl σ H Y := by
  rcases hp with ⟨rfl, rfl⟩ | ⟨e, te, rfl, rfl, he⟩
  · exact hz F H s A none R Ex.refl (fun _ => ⟨rfl, rfl, fun _ _ h => h⟩) h
  · refine he F H s σ A _ R ?_
    simp only [dOp, List.isEmpty_nil, if_true] at h
    revert h
    unfold Rv.part
    split
    · rename_i i s1 e1
      rw [e1]
      intro h v F1 H1 A1 B p
      refine ⟨i, fz_int p.tr rfl, hz F1 H1 s1 A1 (some i) p.rep (p.ex.less fun _ z => .inl z) (fun z => p.qt ?_) h⟩
      simpa only [quiets, Bool.and_true] using z
    · rename_i e1
      rw [e1]
      exact fun h => h
    · exact fun h => h.elim
theorem se_sl {ta : TE} {a : CE} {lo hi : List CE} {tl th : TO} (ha : SE W E (quiet a) ta (dE a)) (hl : IsPt W E lo tl) (hh : IsPt W E hi th) : SE W E (quiet (.sl a lo hi)) (tSl (slR W.K) ta tl th) (dE (.sl a lo hi)) := by
  intro F H s σ A Q R h
  simp only [dE, quiet] at h
  refine ha F H s σ A _ R ?_
  revert h
  cases dE a s with
  | ok x s1 =>
    intro h v F1 H1 A1 B p
    dsimp only at h
    refine Po.part p.rep hl (Po.chain (q' := quiets lo && quiets hi) (p.ex.less fun _ z => .inl z) (fun z => ?_) h) fun F2 H2 s2 A2 l R2 x2 q2 h2 => ?_
    · simp only [Bool.and_eq_true] at z
      exact ⟨p.qt z.1.1, by simp only [Bool.and_eq_true]; exact ⟨z.1.2, z.2⟩⟩
    · refine Po.part R2 hh (Po.chain (q' := quiets hi) x2 (fun z => ?_) h2) fun F3 H3 s3 A3 u R3 x3 q3 h3 => ?_
      · simp only [Bool.and_eq_true] at z
        exact ⟨q2 z.1, z.2⟩
      · have by3 := ((p.by_.ex x2).ex x3)
        have t3 := (p.by_.ex x2).tr x3 (p.by_.tr x2 p.tr)
        have h4 := Po.chain (q' := true) x3 (fun z => ⟨q3 z, rfl⟩) h3
        obtain ⟨o, e, q⟩ := Po.of R3 h4
        exact os_sl R3.fh t3 e q
  | bw x s1 =>
    intro h v F1 H1 A1 B p
    dsimp only at h
    split at h
    · rename_i hq
      rw [Bool.and_eq_true] at hq
      refine Po.part p.rep hl (Po.chain (q' := quiets lo && quiets hi) p.ex (fun z => ?_) h) fun F2 H2 s2 A2 l R2 x2 q2 h2 => ?_
      · simp only [Bool.and_eq_true] at z
        exact ⟨p.qt z.1.1, by simp only [Bool.and_eq_true]; exact ⟨z.1.2, z.2⟩⟩
      · refine Po.part R2 hh (Po.chain (q' := quiets hi) x2 (fun z => ?_) h2) fun F3 H3 s3 A3 u R3 x3 q3 h3 => ?_
        · simp only [Bool.and_eq_true] at z
          exact ⟨q2 z.1, z.2⟩
        · have t3 := (p.tr.frame x2.sF fun b _ y hy => (q2 hq.1).2.2 _ _ hy).frame x3.sF fun b _ y hy => (q3 hq.2).2.2 _ _ hy
          have h4 := Po.chain (q' := true) x3 (fun z => ⟨q3 z, rfl⟩) h3
          obtain ⟨o, e, q⟩ := Po.of R3 h4
          exact os_sl R3.fh t3 e q
    · exact h.elim
  | ex x s1 => exact fun h => h
  | no => exact fun h => h

theorem se_b1 {ta : TE} {a : CE} {b : B1} (ha : SE W E (quiet a) ta (dE a)) : SE W E (quiet (.b1 b a)) (tCB (b1R W.K b) (tCons ta tNil)) (dE (.b1 b a)) := by
  have := se_one (k := fun x s1 => .of (b1O b x) s1) (r := fun v H Q => b1R W.K b [v] H Q) ha fun F H s σ A x v B1 Q R t h => by
    obtain ⟨o, e, q⟩ := Po.of R h
    exact os_b1 b F H x v B1 o Q R.fh t e q
  intro F H s σ A Q R h
  simp only [dE, quiet] at h
  exact this F H s σ A Q R h
theorem se_b2 {ta tc : TE} {a c : CE} {b : B2} (ha : SE W E (quiet a) ta (dE a)) (hc : SE W E (quiet c) tc (dE c)) : SE W E (quiet (.b2 b a c)) (tCB (b2R b) (tCons ta (tCons tc tNil))) (dE (.b2 b a c)) := by
  have := se_two (k := fun x y s2 => .of (b2O b x y) s2) (r := fun v u H Q => b2R b [v, u] H Q) ha hc fun F H s σ A x y v u B1 B2 Q R t1 t2 _ h => by
    obtain ⟨o, e, q⟩ := Po.of R h
    exact os_b2 b F H x y v u B1 B2 o Q R.fh t1 t2 e q
  intro F H s σ A Q R h
  simp only [dE, quiet] at h
  exact this F H s σ A Q R (h.refl fun z => by cases z)
theorem se_isi {ta : TE} {a : CE} {k : TyK} (ha : SE W E (quiet a) ta (dE a)) : SE W E (quiet (.isi a k)) (tCB (rIsA W.K (tyN k)) (tCons ta (tCons (tC (.ty (tyN k))) tNil))) (dE (.isi a k)) := by
  have := se_one (k := fun x s1 => .ob (isiO x k) s1) (r := fun v H Q => rIsA W.K (tyN k) [v, .ty (tyN k)] H Q) ha fun F H s σ A x v B1 Q R t h => by
    obtain ⟨b, e, q⟩ := Po.ob R h
    exact os_isi R.fh t e q
  intro F H s σ A Q R h
  simp only [dE, quiet] at h
  exact this F H s σ A Q R (h.refl fun z => by cases z)
theorem dc_is {F H : Hp} {x : O} {v : V} {B : List Addr} (g : Same F H) (t : Tr W F H x v B) (h : isDc x = true) : ∃ p ks xs kvs, v = .ref p ∧ H p = some (.dK kvs) ∧ kvs.map (·.1) = ks ∧ IsVs W F xs (kvs.map (·.2)) ∧ (∀ y z, get2O x y z = match y with
    | .fr (.str k) => some (.fr ((dget ks xs (.inr (S k))).getD z.fz))
    | _ => none) := by
  cases x with
  | fr d =>
    cases d with
    | dc ks xs =>
      simp only [Tr, IsV] at t
      obtain ⟨_, p, kvs, rfl, h1, h2, h3, _⟩ := t
      refine ⟨p, ks, xs, kvs, rfl, g _ _ h1, h2, h3, fun y z => ?_⟩
      unfold get2O
      cases y with
      | fr d => cases d <;> rfl
      | _ => rfl
    | _ => cases h
  | fd ks xs =>
    simp only [Tr] at t
    obtain ⟨p, kvs, rfl, h1, _, h2, h3, _⟩ := t
    refine ⟨p, ks, xs, kvs, rfl, h1, h2, h3, fun y z => ?_⟩
    unfold get2O
    cases y with
    | fr d => cases d <;> rfl
    | _ => rfl
  | _ => cases h
theorem se_get2 {to ta td : TE} {o a d : CE} (ho : SE W E (quiet o) to (dE o)) (ha : SE W E (quiet a) ta (dE a)) (hd : SE W E (quiet d) td (dE d)) : SE W E (quiet (.get2 o a d)) (tDGet2 to ta td) (dE (.get2 o a d)) := by
  intro F H s σ A Q R h
  simp only [dE, quiet] at h
  refine ho F H s σ A _ R ?_
  revert h
  cases dE o s with
  | ok x s1 =>
    intro h v F1 H1 A1 B1 p1
    dsimp only at h
    split at h
    · rename_i hx
      obtain ⟨p, _, _, kvs0, hv, h0, _⟩ := dc_is p1.rep.fh p1.tr hx
      refine ⟨p, hv, .inl ⟨kvs0, .inl h0⟩, ?_⟩
      refine ha F1 H1 s1 σ A1 _ p1.rep ?_
      have x1 : Ex F H (Ow A) F1 H1 (Ow A1) := p1.ex.less fun _ z => .inl z
      revert h
      cases dE a s1 with
      | ok y s2 =>
        intro h u F2 H2 A2 B2 p2
        dsimp only at h
        refine hd F2 H2 s2 σ A2 _ p2.rep ?_
        have x2 : Ex F1 H1 (Ow A1) F2 H2 (Ow A2) := p2.ex.less fun _ z => .inl z
        revert h
        cases dE d s2 with
        | ok z s3 =>
          intro h w F3 H3 A3 B3 p3
          dsimp only at h
          have x3 : Ex F2 H2 (Ow A2) F3 H3 (Ow A3) := p3.ex.less fun _ z => .inl z
          have t3 := (p1.by_.ex x2).tr x3 (p1.by_.tr x2 p1.tr)
          have ty := p2.by_.tr x3 p2.tr
          obtain ⟨p', ks, xs, kvs, hv', hk, e1, hvs, eg⟩ := dc_is p3.rep.fh t3 hx
          rw [hv] at hv'
          cases hv'
          rw [eg] at h
          split at h
          · rename_i kk
            have hu := (fz_str ty rfl).1
            subst hu
            refine ⟨valV kvs (.inr (S kk)), DGet.k (k := .inr (S kk)) hk, ?_⟩
            have h4 : Po W E F H A s σ false Q (.ok (.fr ((dget ks xs (.inr (S kk))).getD z.fz)) s3) := h
            have b3 := p3.by_
            have R4 := p3.rep.fz b3
            have h5 := Po.chain (q' := true) (s2 := s3) ((x1.trans x2).trans (p3.ex.fz b3.fr)) (fun z => by cases z) h4
            refine Po.al R4 (Al.refl R4.fh) (tr_fr ?_) h5
            cases e : dget ks xs (.inr (S kk)) with
            | none =>
              rw [dget_none e1 hvs e]
              exact p3.tr.frozen b3.fr
            | some dd =>
              obtain ⟨w', e2, h6⟩ := dget_is e1 hvs e
              rw [e2]
              exact h6.mono (adds_same b3.fr)
          · exact h.elim
        | bw z s3 => exact fun h => h.elim
        | ex x s3 =>
          intro h c d F' H' A' p
          exact h c d F' H' A' ⟨p.rep, (x1.trans x2).trans p.ex, p.xr⟩
        | no => exact fun h => h
      | bw y s2 => exact fun h => h.elim
      | ex x s2 =>
        intro h c d F' H' A' p
        exact h c d F' H' A' ⟨p.rep, x1.trans p.ex, p.xr⟩
      | no => exact fun h => h
    · exact h.elim
  | bw x s1 => exact fun h => h.elim
  | ex x s1 => exact fun h => h
  | no => exact fun h => h
end L3

set_option Elab.async false
set_option linter.all false
set_option maxRecDepth 100000
namespace L3
open PySem L2 PySem.Spec PyProof.Rows
variable {W : Wd} {E : XS}

theorem zipmap_is {F : Hp} {k : Key} {d : D} {v : V} (hv : IsV W F d v) : ∀ {kvs : List (Key × V)} {xs : List D}, IsVs W F xs (kvs.map (·.2)) → IsVs W F (((kvs.map (·.1)).zip xs).map fun kv => if kv.1 = k then d else kv.2) ((kvs.map fun kv => if kv.1 = k then (kv.1, v) else kv).map (·.2))
  | [], xs, h => by simp only [List.map_nil, List.zip_nil_left, IsVs]
  | (k', v') :: kvs, [], h => by simp only [List.map_cons, IsVs, reduceCtorEq] at h
  | (k', v') :: kvs, x :: xs, h => by
    simp only [List.map_cons, IsVs] at h
    obtain ⟨w, r, e, h1, h2⟩ := h
    cases e
    simp only [List.map_cons, List.zip_cons_cons, IsVs]
    by_cases hk : k' = k
    · simp only [hk, if_true]
      exact ⟨_, _, rfl, hv, zipmap_is hv h2⟩
    · simp only [hk, if_false]
      exact ⟨_, _, rfl, h1, zipmap_is hv h2⟩
theorem dput_is {F : Hp} {kvs : List (Key × V)} {ks : List Key} {xs : List D} {k : Key} {d : D} {v : V} (e : kvs.map (·.1) = ks) (h : IsVs W F xs (kvs.map (·.2))) (hv : IsV W F d v) :
    (putK kvs k v).map (·.1) = (dput ks xs k d).1 ∧ IsVs W F (dput ks xs k d).2 ((putK kvs k v).map (·.2)) := by
  subst e
  unfold putK dput
  have ea : ((kvs.map (·.1)).any fun k' => decide (k' = k)) = kvs.any fun kv => decide (kv.1 = k) := by rw [List.any_map]; rfl
  rw [ea]
  split
  · refine ⟨?_, zipmap_is hv h⟩
    rw [List.map_map]
    apply List.map_congr_left
    intro kv _
    show (if kv.1 = k then (kv.1, v) else kv).1 = kv.1
    split <;> rfl
  · refine ⟨by simp, ?_⟩
    rw [List.map_append]
    exact h.snoc hv
theorem dputs_is {F : Hp} : ∀ {more : List (Key × V)} {kvs : List (Key × V)} {ks : List Key} {xs : List D} {mk : List Key} {mx : List D}, kvs.map (·.1) = ks → IsVs W F xs (kvs.map (·.2)) → more.map (·.1) = mk → IsVs W F mx (more.map (·.2)) →
    (mergeK kvs more).map (·.1) = (dputs ks xs mk mx).1 ∧ IsVs W F (dputs ks xs mk mx).2 ((mergeK kvs more).map (·.2))
  | [], kvs, ks, xs, mk, mx, e, h, e2, h2 => by
    subst e2
    simp only [List.map_nil, dputs]
    exact ⟨e, h⟩
  | (k, v) :: more, kvs, ks, xs, mk, [], e, h, e2, h2 => by simp only [List.map_cons, IsVs, reduceCtorEq] at h2
  | (k, v) :: more, kvs, ks, xs, mk, x :: mx, e, h, e2, h2 => by
    subst e2
    simp only [List.map_cons, IsVs] at h2
    obtain ⟨w, r, e3, h3, h4⟩ := h2
    cases e3
    simp only [List.map_cons, dputs]
    obtain ⟨a, b⟩ := dput_is (k := k) e h h3
    have := dputs_is (more := more) a b rfl h4
    exact this
structure PPo (W : Wd) (F H : Hp) (A : Nat → List Addr) (σ : L2.St) (ks : List Key) (ds : List D) (s' : Sl) (kvs : List (Key × V)) (F' H' : Hp) (A' : Nat → List Addr) : Prop where
  rep : Rep W F' H' s' σ A'
  ex : Ex F H (Ow A) F' H' (Ow A')
  ks : kvs.map (·.1) = ks
  vs : IsVs W F' ds (kvs.map (·.2))
noncomputable def PoP (W : Wd) (E : XS) (F H : Hp) (A : Nat → List Addr) (σ : L2.St) (Q : List (V × V) → Hp → Prop) : Rp → Prop
  | .ok ks ds s' => ∀ kvs F' H' A', PPo W F H A σ ks ds s' kvs F' H' A' → Q (kvs.map fun kv => (kV kv.1, kv.2)) H'
  | .ex x s' => ∀ c d F' H' A', XPo W F H A σ x s' c d F' H' A' → E c d σ H'
  | .no => False
noncomputable def SP' (W : Wd) (E : XS) (trs : List (TE × TE)) (es : List CE) : Prop := ∀ (F H : Hp) (s : Sl) (σ : L2.St) (A : Nat → List Addr) (Q : List (V × V) → Hp → Prop), Rep W F H s σ A → PoP W E F H A σ Q (dPs es s) → tPairs trs σ H Q
theorem sp_nil : SP' W E [] [] := by
  intro F H s σ A Q R h
  simp only [dPs] at h
  exact h [] F H A ⟨R, Ex.refl, rfl, by simp only [List.map_nil, IsVs]⟩
theorem key_is {F H : Hp} {y : O} {v : V} {B : List Addr} {k : Key} (t : Tr W F H y v B) (e : keyD [y.fz] = some [k]) : v = kV k := by
  cases q : y.fz with
  | str x =>
    rw [q] at e
    simp only [keyD, Option.map_some, Option.some.injEq, List.cons.injEq, and_true] at e
    subst e
    exact (fz_str t q).1
  | int i =>
    rw [q] at e
    simp only [keyD, Option.map_some, Option.some.injEq, List.cons.injEq, and_true] at e
    subst e
    exact fz_int t q
  | _ => rw [q] at e; simp [keyD] at e
theorem sp_cons {tk tv : TE} {trs : List (TE × TE)} {k e : CE} {es : List CE} (hk : SE W E (quiet k) tk (dE k)) (he : SE W E (quiet e) tv (dE e)) (hs : SP' W E trs es) : SP' W E ((tk, tv) :: trs) (k :: e :: es) := by
  intro F H s σ A Q R h
  simp only [dPs] at h
  refine hk F H s σ A _ R ?_
  revert h
  cases dE k s with
  | ok y s1 =>
    intro h v F1 H1 A1 B1 p1
    dsimp only at h
    refine he F1 H1 s1 σ A1 _ p1.rep ?_
    have x1 : Ex F H (Ow A) F1 H1 (Ow A1) := p1.ex.less fun _ z => .inl z
    revert h
    cases dE e s1 with
    | ok z s2 =>
      intro h u F2 H2 A2 B2 p2
      dsimp only at h
      have R2 := p2.rep.fz p2.by_
      have x2 := x1.trans (p2.ex.fz p2.by_.fr)
      have iz : IsV W (adds F2 H2 B2) z.fz u := p2.tr.frozen p2.by_.fr
      refine hs (adds F2 H2 B2) H2 s2 σ A2 _ R2 ?_
      cases ek : keyD [y.fz] with
      | none => rw [ek] at h; exact h.elim
      | some l =>
        cases l with
        | nil => rw [ek] at h; exact h.elim
        | cons key l =>
          cases l with
          | cons _ _ => rw [ek] at h; exact h.elim
          | nil =>
            rw [ek] at h
            have hv := key_is p1.tr ek
            have h : PoP W E F H A σ Q ((dPs es s2).cons key z.fz) := h
            revert h
            cases dPs es s2 with
            | ok ks ds s3 =>
              intro h kvs F3 H3 A3 p3
              subst hv
              exact h ((key, u) :: kvs) F3 H3 A3 ⟨p3.rep, x2.trans p3.ex, by rw [List.map_cons, p3.ks], by rw [List.map_cons]; simp only [IsVs]; exact ⟨_, _, rfl, iz.mono p3.ex.sF, p3.vs⟩⟩
            | ex x s3 =>
              intro h c d F' H' A' p
              exact h c d F' H' A' ⟨p.rep, x2.trans p.ex, p.xr⟩
            | no => exact fun h => h
    | bw z s2 => exact fun h => h.elim
    | ex x s2 =>
      intro h c d F' H' A' p
      exact h c d F' H' A' ⟨p.rep, x1.trans p.ex, p.xr⟩
    | no => exact fun h => h
  | bw y s1 => exact fun h => h.elim
  | ex x s1 => exact fun h => h
  | no => exact fun h => h
theorem se_dsp {trs : List (TE × TE)} {es : List CE} (hs : SP' W E trs es) : SE W E (quiet (.dsp es)) (tDisp trs) (dE (.dsp es)) := by
  intro F H s σ A Q R h
  simp only [dE, quiet] at h
  intro p hp
  have a0 := Al.cell (o := .dK []) R.fh hp
  have R0 := a0.rep R
  have b0 := a0.by_ R
  refine hs F (upd H p (.dK [])) s σ A _ R0 ?_
  revert h
  cases dPs es s with
  | ok ks ds s1 =>
    intro h kvs F1 H1 A1 p1
    dsimp only at h
    split at h
    · rename_i hl
      have hp1 : H1 p = some (.dK []) := p1.ex.keep p _ upd_same (b0.nP p (List.mem_singleton.mpr rfl))
      have lk : kvs.length ≤ 15 := by rw [← p1.ks, List.length_map] at hl; exact hl
      refine ⟨hp1, kvs, rfl, lk, ?_⟩
      obtain ⟨e1, e2⟩ := dputs_is (W := W) (F := F1) (kvs := []) (ks := []) (xs := []) rfl (by simp only [List.map_nil, IsVs]) p1.ks p1.vs
      have b1 := b0.ex p1.ex
      have hF1 : F1 p = none := b1.fr p (List.mem_singleton.mpr rfl)
      have sF : Same F1 (upd H1 p (.dK (mergeK [] kvs))) := fun b o hb => by
        rw [upd_ne (ne_of_none hb hF1)]; exact p1.rep.fh _ _ hb
      have nP : ∀ b, Ow A1 b → b ≠ p := fun b z e => by subst e; exact b1.nP b (List.mem_singleton.mpr rfl) z
      have lm : (mergeK [] kvs).length ≤ kvs.length := by
        have : ∀ (more acc : List (Key × V)), (mergeK acc more).length ≤ acc.length + more.length := by
          intro more
          induction more with
          | nil => intro acc; simp [mergeK]
          | cons kv more ih =>
            intro acc
            have h1 := ih (putK acc kv.1 kv.2)
            have h2 : (putK acc kv.1 kv.2).length ≤ acc.length + 1 := by unfold putK; split <;> simp
            have h3 : mergeK acc (kv :: more) = mergeK (putK acc kv.1 kv.2) more := rfl
            rw [h3, List.length_cons]
            omega
        have := this kvs []
        simpa using this
      refine h (.ref p) F1 (upd H1 p (.dK (mergeK [] kvs))) A1 [p] ⟨⟨sF, fun i o hi => ?_, fun i a ha => ?_, p1.rep.dis, p1.rep.nd, p1.rep.len⟩, ⟨p1.ex.sF, fun b o hb n => ?_, fun b o hb => ?_, fun b o hb => ?_, fun b hb => ?_⟩, ?_, ⟨fun b hb => ?_, fun b hb => ?_, fun b hb z => ?_⟩, List.pairwise_singleton _ _, fun z => by cases z⟩
      · obtain ⟨v, h1, h2⟩ := p1.rep.slot i o hi
        exact ⟨v, h1, h2.frame (fun _ _ h => h) fun b hb x hx => by rw [upd_ne (nP b ⟨i, hb⟩)]; exact hx⟩
      · obtain ⟨h1, x, h2⟩ := p1.rep.own i a ha
        exact ⟨h1, x, by rw [upd_ne (nP a ⟨i, ha⟩)]; exact h2⟩
      · have hb' : upd H p (.dK []) b = some o := by rw [upd_ne (ne_of_none hb hp)]; exact hb
        rw [upd_ne (ne_of_none hb hp)]
        exact p1.ex.keep b o hb' n
      · by_cases e : b = p
        · subst e; exact ⟨_, upd_same⟩
        · rw [upd_ne e]
          exact p1.ex.dom b o (by rw [upd_ne e]; exact hb)
      · rcases p1.ex.frz b o hb with z | z | z
        · exact .inl z
        · by_cases e : b = p
          · subst e; rw [hF1] at hb; cases hb
          · rw [upd_ne e] at z; exact .inr (.inl z)
        · exact .inr (.inr z)
      · rcases hb with z | z
        · rcases p1.ex.cells b z with y | y
          · exact .inl y
          · by_cases e : b = p
            · subst e; exact .inr hp
            · rw [upd_ne e] at y; exact .inr y
        · rw [List.mem_singleton.mp z]; exact .inr hp
      · simp only [Tr]
        refine ⟨p, _, rfl, upd_same, rfl, e1, e2, ?_⟩
        have := e2.len
        rw [List.length_map] at this
        omega
      · rw [List.mem_singleton.mp hb]; exact hF1
      · rw [List.mem_singleton.mp hb]; exact ⟨_, upd_same⟩
      · exact b1.nP b hb z
    · exact h.elim
  | ex x s1 =>
    intro h c d F' H' A' p'
    have xx := (a0.ex (P := Ow A)).less (P'' := Ow A) fun _ z => .inl z
    exact h c d F' H' A' ⟨p'.rep, xx.trans p'.ex, p'.xr⟩
  | no => exact fun h => h
end L3

set_option Elab.async false
set_option linter.all false
set_option maxRecDepth 100000
namespace L3
open PySem L2 PySem.Spec PyProof.Rows
variable {W : Wd} {E : XS}

noncomputable def walkV (H : Hp) : V → List Nat → V → Prop
  | v, [], w => w = v
  | v, j :: st, w => ∃ p vs u, v = .ref p ∧ (H p = some (.lst vs) ∨ H p = some (.tup vs) ∨ ∃ C dx kvs, H p = some (.ins C dx kvs) ∧ vs = kvs.map (·.2)) ∧ vs[j]? = some u ∧ walkV H u st w
theorem walkV.mono {H H' : Hp} (g : Same H H') : ∀ {st : List Nat} {v w : V}, walkV H v st w → walkV H' v st w
  | [], _, _, h => h
  | j :: st, _, _, ⟨p, vs, u, e, h1, h2, h3⟩ => ⟨p, vs, u, e, by
      rcases h1 with h1 | h1 | ⟨C, dx, kvs, h1, e⟩
      · exact .inl (g _ _ h1)
      · exact .inr (.inl (g _ _ h1))
      · exact .inr (.inr ⟨C, dx, kvs, g _ _ h1, e⟩), h2, walkV.mono g h3⟩
theorem walkV.fn {H : Hp} : ∀ {st : List Nat} {v w w' : V}, walkV H v st w → walkV H v st w' → w = w'
  | [], _, _, _, h, k => by rw [show _ = _ from h, show _ = _ from k]
  | j :: st, _, _, _, ⟨p, vs, u, e, h1, h2, h3⟩, ⟨p', vs', u', e', k1, k2, k3⟩ => by
    rw [e] at e'
    cases e'
    have : vs = vs' := by
      rcases h1 with h1 | h1 | ⟨C, dx, kvs, h1, e⟩ <;> rcases k1 with k1 | k1 | ⟨C', dx', kvs', k1, e'⟩ <;> rw [h1] at k1 <;> cases k1
      · rfl
      · rfl
      · rw [e, e']
    subst this
    rw [h2] at k2
    cases k2
    exact walkV.fn h3 k3
theorem walkV.snoc {H : Hp} : ∀ {st : List Nat} {v w u : V} {j : Nat} {p : Addr} {vs : List V}, walkV H v st w → w = .ref p → (H p = some (.lst vs) ∨ H p = some (.tup vs) ∨ ∃ C dx kvs, H p = some (.ins C dx kvs) ∧ vs = kvs.map (·.2)) → vs[j]? = some u → walkV H v (st ++ [j]) u
  | [], _, _, _, _, p, vs, h, e, h1, h2 => ⟨p, vs, _, by rw [← show _ = _ from h]; exact e, h1, h2, rfl⟩
  | j :: st, _, _, _, _, p, vs, ⟨p', vs', u', e', k1, k2, k3⟩, e, h1, h2 => ⟨p', vs', u', e', k1, k2, walkV.snoc k3 e h1 h2⟩
theorem TrL.focus {F H : Hp} : ∀ {os : List O} {vs : List V} {B : List Addr} {j : Nat} {o : O}, TrL W F H os vs B → os[j]? = some o → ∃ u B1 M B2, vs[j]? = some u ∧ B = B1 ++ M ++ B2 ∧ Tr W F H o u M ∧
    ∀ F' H' o' M', Same F F' → (∀ b ∈ B1 ++ B2, ∀ y, H b = some y → H' b = some y) → Tr W F' H' o' u M' → TrL W F' H' (os.set j o') vs (B1 ++ M' ++ B2)
  | [], _, _, _, _, _, e => by simp at e
  | o :: os, _, _, 0, _, h, e => by
    simp only [TrL] at h
    obtain ⟨v, r, A1, A2, rfl, rfl, h1, h2⟩ := h
    simp at e; subst e
    refine ⟨v, [], A1, A2, rfl, rfl, h1, fun F' H' o' M' g k t => ?_⟩
    simp only [List.set_cons_zero, List.nil_append, TrL]
    exact ⟨v, r, M', A2, rfl, rfl, t, h2.frame g fun b hb => k b hb⟩
  | o :: os, _, _, j + 1, _, h, e => by
    simp only [TrL] at h
    obtain ⟨v, r, A1, A2, rfl, rfl, h1, h2⟩ := h
    obtain ⟨u, B1, M, B2, e1, rfl, t, k⟩ := TrL.focus (j := j) h2 (by simpa using e)
    refine ⟨u, A1 ++ B1, M, B2, by simpa using e1, by simp [List.append_assoc], t, fun F' H' o' M' g kk t' => ?_⟩
    simp only [List.set_cons_succ, TrL]
    refine ⟨v, r, A1, B1 ++ M' ++ B2, rfl, by simp [List.append_assoc], h1.frame g fun b hb => kk b (by simp [hb]), k F' H' o' M' g (fun b hb => kk b (by simp only [List.mem_append] at hb ⊢; rcases hb with z | z; exact .inl (.inr z); exact .inr z)) t'⟩
theorem Tr.focus {F H : Hp} (g0 : Same F H) : ∀ {st : List Nat} {o : O} {v : V} {A : List Addr} {x : O}, Tr W F H o v A → getO o st = some x → ∃ vx L M R, walkV H v st vx ∧ A = L ++ M ++ R ∧ Tr W F H x vx M ∧
    ∀ F' H' x' M', Same F F' → (∀ b ∈ L ++ R, ∀ y, H b = some y → H' b = some y) → Tr W F' H' x' vx M' → Tr W F' H' (setO o st x') v (L ++ M' ++ R)
  | [], o, v, A, x, h, e => by
    have : o = x := by cases o <;> simpa [getO] using e
    subst this
    exact ⟨v, [], A, [], rfl, by simp, h, fun F' H' x' M' g k t => by simpa [setO] using t⟩
  | j :: st, .ol xs, v, A, x, h, e => by
    simp only [Tr] at h
    obtain ⟨p, vs, B, rfl, h1, rfl, h2, h3⟩ := h
    simp only [getO] at e
    split at e
    · rename_i o1 e1
      obtain ⟨u, B1, M, B2, eu, rfl, t, k⟩ := h2.focus e1
      obtain ⟨vx, L, M1, R, hw, rfl, tx, kx⟩ := Tr.focus g0 t e
      refine ⟨vx, p :: (B1 ++ L), M1, R ++ B2, ⟨p, vs, u, rfl, .inl h1, eu, hw⟩, by simp [List.append_assoc], tx, fun F' H' x' M' g kk t' => ?_⟩
      have hl := h2.len
      simp only [setO, e1, Tr]
      refine ⟨p, vs, B1 ++ (L ++ M' ++ R) ++ B2, rfl, kk p (by simp) _ h1, by simp [List.append_assoc], k F' H' _ _ g (fun b hb => kk b ?_) (kx F' H' x' M' g (fun b hb => kk b ?_) t'), by rw [List.length_set]; exact h3⟩
      · simp only [List.mem_append, List.mem_cons] at hb ⊢
        rcases hb with z | z
        · exact .inl (.inr (.inl z))
        · exact .inr (.inr z)
      · simp only [List.mem_append, List.mem_cons] at hb ⊢
        rcases hb with z | z
        · exact .inl (.inr (.inr z))
        · exact .inr (.inl z)
    · cases e
  | j :: st, .tp xs, v, A, x, h, e => by
    simp only [Tr] at h
    obtain ⟨p, vs, rfl, h1, h2⟩ := h
    simp only [getO] at e
    split at e
    · rename_i o1 e1
      obtain ⟨u, B1, M, B2, eu, rfl, t, k⟩ := h2.focus e1
      obtain ⟨vx, L, M1, R, hw, rfl, tx, kx⟩ := Tr.focus g0 t e
      refine ⟨vx, B1 ++ L, M1, R ++ B2, ⟨p, vs, u, rfl, .inr (.inl (g0 _ _ h1)), eu, hw⟩, by simp [List.append_assoc], tx, fun F' H' x' M' g kk t' => ?_⟩
      simp only [setO, e1, Tr]
      refine ⟨p, vs, rfl, g _ _ h1, ?_⟩
      have := k F' H' _ _ g (fun b hb => kk b ?_) (kx F' H' x' M' g (fun b hb => kk b ?_) t')
      · simpa [List.append_assoc] using this
      · simp only [List.mem_append] at hb ⊢
        rcases hb with z | z
        · exact .inl (.inl z)
        · exact .inr (.inr z)
      · simp only [List.mem_append] at hb ⊢
        rcases hb with z | z
        · exact .inl (.inr z)
        · exact .inr (.inl z)
    · cases e
  | j :: st, .oo c fs xs, v, A, x, h, e => by
    simp only [Tr] at h
    obtain ⟨p, dx, kvs, B, rfl, h1, h0, rfl, h2, h3⟩ := h
    simp only [getO] at e
    split at e
    · rename_i o1 e1
      obtain ⟨u, B1, M, B2, eu, rfl, t, k⟩ := h3.focus e1
      obtain ⟨vx, L, M1, R, hw, rfl, tx, kx⟩ := Tr.focus g0 t e
      refine ⟨vx, p :: (B1 ++ L), M1, R ++ B2, ⟨p, _, u, rfl, .inr (.inr ⟨_, dx, kvs, h1, rfl⟩), eu, hw⟩, by simp [List.append_assoc], tx, fun F' H' x' M' g kk t' => ?_⟩
      simp only [setO, e1, Tr]
      refine ⟨p, dx, kvs, B1 ++ (L ++ M' ++ R) ++ B2, rfl, kk p (by simp) _ h1, g _ _ h0, by simp [List.append_assoc], h2, k F' H' _ _ g (fun b hb => kk b ?_) (kx F' H' x' M' g (fun b hb => kk b ?_) t')⟩
      · simp only [List.mem_append, List.mem_cons] at hb ⊢
        rcases hb with z | z
        · exact .inl (.inr (.inl z))
        · exact .inr (.inr z)
      · simp only [List.mem_append, List.mem_cons] at hb ⊢
        rcases hb with z | z
        · exact .inl (.inr (.inr z))
        · exact .inr (.inl z)
    · cases e
  | j :: st, .fr d, v, A, x, h, e => by simp [getO] at e
  | j :: st, .fl d, v, A, x, h, e => by simp [getO] at e
  | j :: st, .fd k d, v, A, x, h, e => by simp [getO] at e
  | j :: st, .od k d, v, A, x, h, e => by simp [getO] at e

noncomputable def SPa (W : Wd) (t : TE) (p : CE) : Prop := ∀ (F H : Hp) (s : Sl) (σ : L2.St) (A : Nat → List Addr) (Q : VK) (i : Nat) (st : List Nat), Rep W F H s σ A → pathOf p s = some (i, st) →
  (∀ F' H' v0 v, Rep W F' H' s σ A → Ex F H (Ow A) F' H' (Ow A) → Same H H' → σ[i]? = some (some v0) → walkV H' v0 st v → Q v H') → t σ H Q
theorem spa_b (i : Nat) : SPa W (tVar i) (.b i) := by
  intro F H s σ A Q j st R e q
  simp only [pathOf] at e
  split at e
  · rename_i o es
    cases e
    obtain ⟨v, hv, t⟩ := R.slot i o es
    exact ⟨v, hv, q F H v v R Ex.refl (fun _ _ h => h) hv rfl⟩
  · cases e
theorem ixN_at {α : Type} {xs : List α} {n : Int} {j : Nat} (h : ixN xs.length n = some j) : atI xs n = xs[j]? := by unfold atI; rw [h]; rfl
theorem spa_ix {tp tk : TE} {p k : CE} (hp : SPa W tp p) (hk : SE W E (quiet k) tk (dE k)) : SPa W (tOp (ixR W.K) tp tk) (.ix p k) := by
  intro F H s σ A Q j st R e q
  simp only [pathOf] at e
  split at e
  · rename_i i st0 ep
    split at e
    · rename_i o es
      split at e
      · rename_i x ex
        split at e
        · rename_i hq
          split at e
          · rename_i y s' ek
            split at e
            · rename_i j0 ej
              cases e
              refine hp F H s σ A _ _ st0 R ep fun F1 H1 v0 v R1 x1 g1 hv0 hw => ?_
              refine hk F1 H1 s σ A _ R1 ?_
              rw [ek]
              intro u F2 H2 A2 B2 p2
              obtain ⟨e1, e2, g2⟩ := p2.qt hq
              subst e1; subst e2
              obtain ⟨v0', hv0', t0⟩ := p2.rep.slot _ o es
              rw [hv0] at hv0'
              cases hv0'
              obtain ⟨vx, L, M, R', hw', _, tx, _⟩ := Tr.focus p2.rep.fh t0 ex
              have hvx := walkV.fn (hw.mono g2) hw'
              subst hvx
              have hx2 : Ex F H (Ow A2) F2 H2 (Ow A2) := x1.trans (p2.ex.less fun _ z => .inl z)
              unfold idx? at ej
              split at ej
              · rename_i xs n
                have hu : u = .int n := fz_int p2.tr rfl
                subst hu
                simp only [Tr] at tx
                obtain ⟨pa, vs, B, rfl, h1, _, h2, _⟩ := tx
                have hl := h2.len
                rw [← hl] at ej
                have := ixN_at (xs := vs) ej
                have hj : ∃ w, vs[j0]? = some w := by
                  have hlt : j0 < vs.length := by
                    unfold ixN at ej
                    split at ej
                    · split at ej
                      · cases ej; omega
                      · cases ej
                    · split at ej
                      · cases ej; omega
                      · cases ej
                  exact ⟨_, List.getElem?_eq_getElem hlt⟩
                obtain ⟨w, hw2⟩ := hj
                exact .inl ⟨pa, vs, n, w, rfl, rfl, SqL.of h1, by rw [this]; exact hw2, q F2 H2 v0 w p2.rep hx2 (g1.trans g2) hv0 (walkV.snoc hw' rfl (.inl h1) hw2)⟩
              · rename_i xs n
                have hu : u = .int n := fz_int p2.tr rfl
                subst hu
                simp only [Tr] at tx
                obtain ⟨pa, vs, rfl, h1, h2⟩ := tx
                have hl := h2.len
                rw [← hl] at ej
                have := ixN_at (xs := vs) ej
                have hj : ∃ w, vs[j0]? = some w := by
                  have hlt : j0 < vs.length := by
                    unfold ixN at ej
                    split at ej
                    · split at ej
                      · cases ej; omega
                      · cases ej
                    · split at ej
                      · cases ej; omega
                      · cases ej
                  exact ⟨_, List.getElem?_eq_getElem hlt⟩
                obtain ⟨w, hw2⟩ := hj
                have h1' := p2.rep.fh _ _ h1
                exact .inr (.inl ⟨pa, vs, n, w, rfl, rfl, SqT.of h1', by rw [this]; exact hw2, q F2 H2 v0 w p2.rep hx2 (g1.trans g2) hv0 (walkV.snoc hw' rfl (.inr (.inl h1')) hw2)⟩)
              · cases ej
            · cases e
          · cases e
        · cases e
      · cases e
    · cases e
  · cases e
end L3

set_option Elab.async false
set_option linter.all false
set_option maxRecDepth 100000
namespace L3
open PySem L2 PySem.Spec PyProof.Rows
variable {W : Wd} {E : XS}

structure MuP (W : Wd) (F H : Hp) (M B : List Addr) (x' rr : O) (vx w : V) (F' H' : Hp) (M' Br : List Addr) : Prop where
  sF : Same F F'
  fh : Same F' H'
  keep : ∀ b y, H b = some y → b ∉ M → H' b = some y
  dom : ∀ b y, H b = some y → ∃ y', H' b = some y'
  frz : ∀ b o, F' b = some o → (∃ o', F b = some o') ∨ b ∈ B
  tx : Tr W F' H' x' vx M'
  tr : Tr W F' H' rr w Br
  sub : ∀ b ∈ M' ++ Br, b ∈ M ∨ b ∈ B
  nd : (M' ++ Br).Nodup
  nf : ∀ b ∈ M' ++ Br, F' b = none
noncomputable def muR : MU → V → List V → Hp → VK → Prop
  | .append => rAppend
  | .extend => rExtend
  | .pop => rPop
  | .clear => rClear

theorem MuP.one {F H : Hp} {p : Addr} {M B M' Br : List Addr} {x' rr : O} {vx w : V} {ys : List V} {F' : Hp} (g : Same F H) (sF : Same F F') (hF' : ∀ b o, F' b = some o → (∃ o', F b = some o') ∨ (b ∈ B ∧ H b = some o)) (hp : F' p = none) (hM : p ∈ M)
    (tx : Tr W F' (upd H p (.lst ys)) x' vx M') (tr : Tr W F' (upd H p (.lst ys)) rr w Br) (sub : ∀ b ∈ M' ++ Br, b ∈ M ∨ b ∈ B) (nd : (M' ++ Br).Nodup) (nf : ∀ b ∈ M' ++ Br, F' b = none) (hB : ∃ y, H p = some y) : MuP W F H M B x' rr vx w F' (upd H p (.lst ys)) M' Br := by
  refine ⟨sF, fun b o h => ?_, fun b y h n => ?_, fun b y h => ?_, fun b o h => ?_, tx, tr, sub, nd, nf⟩
  · rw [upd_ne (fun e => by subst e; rw [hp] at h; cases h)]
    rcases hF' b o h with ⟨o', z⟩ | z
    · have := sF _ _ z
      rw [this] at h
      cases h
      exact g _ _ z
    · exact z.2
  · rw [upd_ne (fun e => n (by rw [e]; exact hM))]; exact h
  · by_cases e : b = p
    · subst e; exact ⟨_, upd_same⟩
    · rw [upd_ne e]; exact ⟨y, h⟩
  · rcases hF' b o h with z | z
    · exact .inl z
    · exact .inr z.1
theorem TrL.app {F H : Hp} : ∀ {os ps : List O} {vs us : List V} {A B : List Addr}, TrL W F H os vs A → TrL W F H ps us B → TrL W F H (os ++ ps) (vs ++ us) (A ++ B)
  | [], _, _, _, _, _, h, k => by simp only [TrL] at h; rw [h.1, h.2]; exact k
  | o :: os, _, _, _, _, _, h, k => by
    simp only [TrL] at h
    obtain ⟨v, r, A1, A2, rfl, rfl, h1, h2⟩ := h
    simp only [List.cons_append, TrL]
    exact ⟨_, _, A1, _, rfl, by simp [List.append_assoc], h1, h2.app k⟩
theorem TrL.last {F H : Hp} : ∀ {os : List O} {vs : List V} {A : List Addr} {o : O}, TrL W F H os vs A → os[os.length - 1]? = some o → ∃ v A1 A2, vs[vs.length - 1]? = some v ∧ A = A1 ++ A2 ∧ TrL W F H os.dropLast vs.dropLast A1 ∧ Tr W F H o v A2
  | [], _, _, _, _, e => by simp at e
  | [o], _, _, _, h, e => by
    simp only [TrL] at h
    obtain ⟨v, r, A1, A2, rfl, rfl, h1, rfl, rfl⟩ := h
    simp at e; subst e
    exact ⟨v, [], A1, by simp, by simp, by show TrL W F H [] [] []; unfold TrL; exact ⟨rfl, rfl⟩, h1⟩
  | o :: o2 :: os, _, _, _, h, e => by
    simp only [TrL] at h
    obtain ⟨v, r, A1, A2, rfl, rfl, h1, v2, r2, A3, A4, rfl, rfl, h2, h3⟩ := h
    have hh : TrL W F H (o2 :: os) (v2 :: r2) (A3 ++ A4) := by simp only [TrL]; exact ⟨_, _, _, _, rfl, rfl, h2, h3⟩
    obtain ⟨w, B1, B2, e1, e2, k1, k2⟩ := TrL.last hh (by simpa using e)
    refine ⟨w, A1 ++ B1, B2, by simpa using e1, by rw [e2, List.append_assoc], ?_, k2⟩
    simp only [List.dropLast_cons₂, TrL] at k1 ⊢
    exact ⟨v, _, A1, B1, rfl, rfl, h1, k1⟩
theorem IsVs.dropLast {F : Hp} {ds : List D} {vs : List V} (h : IsVs W F ds vs) : IsVs W F ds.dropLast vs.dropLast := by
  rw [List.dropLast_eq_take, List.dropLast_eq_take, h.len]
  exact h.take _
theorem os_mu {m : MU} {F H : Hp} {x x' rr : O} {vx : V} {M B : List Addr} {os : List O} {us : List V} {Q : VK} (g : Same F H) (t : Tr W F H x vx M) (ta : TrL W F H os us B) (hM : ∀ b ∈ M, F b = none) (hB : ∀ b ∈ B, F b = none) (ndM : M.Nodup) (ndB : B.Nodup) (dis : ∀ b ∈ M, b ∉ B)
    (e : muO m x os = some (x', rr)) (q : ∀ w F' H' M' Br, MuP W F H M B x' rr vx w F' H' M' Br → Q w H') : muR m vx us H Q := by
  unfold muO at e
  split at e
  · rename_i xs y
    split at e
    · rename_i hl
      cases e
      simp only [Tr] at t
      obtain ⟨p, vs, rfl, h1, rfl, h2, h3⟩ := t
      simp only [TrL] at ta
      obtain ⟨u, r, A1, A2, rfl, rfl, ty, rfl, rfl⟩ := ta
      rw [List.append_nil] at hB ndB dis q
      have hp := hM p (List.mem_singleton.mpr rfl)
      have sF : Same F (adds F H A1) := adds_same hB
      have hp' : adds F H A1 p = none := by unfold adds; rw [if_neg (dis p (List.mem_singleton.mpr rfl))]; exact hp
      refine ⟨p, vs, u, rfl, rfl, h1, by rw [h2.len, sizeLine_eq]; exact hl, q .non (adds F H A1) _ [p] [] ?_⟩
      refine MuP.one g sF (fun b o hb => ?_) hp' (List.mem_singleton.mpr rfl) (tr_fl upd_same ((h2.mono sF).snoc (ty.frozen hB)) (by rw [List.length_append]; exact hl)) tr_non (fun b hb => .inl (by simpa using hb)) (by simp) (fun b hb => ?_) ⟨_, h1⟩
      · unfold adds at hb
        split at hb
        · exact .inr ⟨by assumption, hb⟩
        · exact .inl ⟨o, hb⟩
      · simp at hb; subst hb; exact hp'
    · cases e
  · rename_i xs y
    split at e
    · rename_i hl
      cases e
      simp only [Tr] at t
      obtain ⟨p, vs, M0, rfl, h1, rfl, h2, h3⟩ := t
      have hp := hM p (List.mem_cons_self)
      have nd2 := List.nodup_cons.mp ndM
      have hBp : p ∉ B := dis p List.mem_cons_self
      have frM : ∀ b ∈ M0, ∀ z, H b = some z → upd H p (.lst (vs ++ us)) b = some z := fun b hb z hz => by rw [upd_ne (fun e : b = p => nd2.1 (e ▸ hb))]; exact hz
      have frB : ∀ b ∈ B, ∀ z, H b = some z → upd H p (.lst (vs ++ us)) b = some z := fun b hb z hz => by rw [upd_ne (fun e : b = p => hBp (e ▸ hb))]; exact hz
      have hu : ∃ u, us = [u] := by
        simp only [TrL] at ta
        obtain ⟨u, r, A1, A2, rfl, _, _, rfl, _⟩ := ta
        exact ⟨u, rfl⟩
      obtain ⟨u, rfl⟩ := hu
      refine ⟨p, vs, u, rfl, rfl, h1, by rw [h2.len, sizeLine_eq]; exact hl, q .non F _ (p :: (M0 ++ B)) [] ?_⟩
      refine MuP.one g (fun _ _ h => h) (fun b o hb => .inl ⟨o, hb⟩) hp List.mem_cons_self ?_ tr_non (fun b hb => ?_) ?_ (fun b hb => ?_) ⟨_, h1⟩
      · simp only [Tr]
        exact ⟨p, _, _, rfl, upd_same, rfl, (h2.frame (fun _ _ h => h) frM).app (ta.frame (fun _ _ h => h) frB), by rw [List.length_append]; exact hl⟩
      · simp only [List.append_nil, List.mem_cons, List.mem_append] at hb ⊢
        rcases hb with z | z | z
        · exact .inl (.inl z)
        · exact .inl (.inr z)
        · exact .inr z
      · rw [List.append_nil]
        refine List.nodup_cons.mpr ⟨fun z => ?_, nodup_app nd2.2 ndB fun b hb => dis b (List.mem_cons_of_mem _ hb)⟩
        rcases List.mem_append.mp z with z | z
        · exact nd2.1 z
        · exact hBp z
      · simp only [List.append_nil, List.mem_cons, List.mem_append] at hb
        rcases hb with z | z | z
        · subst z; exact hp
        · exact hM b (List.mem_cons_of_mem _ z)
        · exact hB b z
    · cases e
  · rename_i xs y
    split at e
    · rename_i ys ey
      split at e
      · rename_i hl
        cases e
        simp only [Tr] at t
        obtain ⟨p, vs, rfl, h1, rfl, h2, h3⟩ := t
        simp only [TrL] at ta
        obtain ⟨u, r, A1, A2, rfl, rfl, ty, rfl, rfl⟩ := ta
        obtain ⟨p2, ws, rfl, k1, k2, k3⟩ := vL_is g ty ey
        have hp := hM p (List.mem_singleton.mpr rfl)
        refine ⟨p, p2, vs, ws, rfl, rfl, h1, k1, by rw [h2.len, k2.len, sizeLine_eq]; exact hl, q .non F _ [p] [] ?_⟩
        refine MuP.one g (fun _ _ h => h) (fun b o hb => .inl ⟨o, hb⟩) hp (List.mem_singleton.mpr rfl) (tr_fl upd_same (h2.app k2) (by rw [List.length_append]; exact hl)) tr_non (fun b hb => .inl (by simpa using hb)) (by simp) (fun b hb => ?_) ⟨_, h1⟩
        simp at hb; subst hb; exact hp
      · cases e
    · cases e
  · rename_i xs
    split at e
    · rename_i d ed
      cases e
      simp only [Tr] at t
      obtain ⟨p, vs, rfl, h1, rfl, h2, h3⟩ := t
      simp only [TrL] at ta
      obtain ⟨rfl, rfl⟩ := ta
      have hp := hM p (List.mem_singleton.mpr rfl)
      obtain ⟨v, ev, hv⟩ := h2.get ed
      rw [← h2.len] at ev
      refine ⟨p, vs, v, rfl, rfl, h1, ev, q v F _ [p] [] ?_⟩
      refine MuP.one g (fun _ _ h => h) (fun b o hb => .inl ⟨o, hb⟩) hp (List.mem_singleton.mpr rfl) (tr_fl upd_same h2.dropLast (by rw [List.length_dropLast]; omega)) (tr_fr hv) (fun b hb => .inl (by simpa using hb)) (by simp) (fun b hb => ?_) ⟨_, h1⟩
      simp at hb; subst hb; exact hp
    · cases e
  · rename_i xs
    split at e
    · rename_i d ed
      cases e
      simp only [Tr] at t
      obtain ⟨p, vs, M0, rfl, h1, rfl, h2, h3⟩ := t
      simp only [TrL] at ta
      obtain ⟨rfl, rfl⟩ := ta
      have hp := hM p (List.mem_cons_self)
      have nd2 := List.nodup_cons.mp ndM
      obtain ⟨v, A1, A2, ev, rfl, k1, k2⟩ := h2.last ed
      have frM : ∀ b ∈ A1 ++ A2, ∀ z, H b = some z → upd H p (.lst vs.dropLast) b = some z := fun b hb z hz => by rw [upd_ne (fun e : b = p => nd2.1 (e ▸ hb))]; exact hz
      refine ⟨p, vs, v, rfl, rfl, h1, ev, q v F _ (p :: A1) A2 ?_⟩
      refine MuP.one g (fun _ _ h => h) (fun b o hb => .inl ⟨o, hb⟩) hp List.mem_cons_self ?_ (k2.frame (fun _ _ h => h) fun b hb => frM b (List.mem_append_right _ hb)) (fun b hb => .inl (by simpa using hb)) ndM (fun b hb => hM b (by simpa using hb)) ⟨_, h1⟩
      simp only [Tr]
      exact ⟨p, _, A1, rfl, upd_same, rfl, k1.frame (fun _ _ h => h) fun b hb => frM b (List.mem_append_left _ hb), by rw [List.length_dropLast]; omega⟩
    · cases e
  · rename_i xs
    cases e
    simp only [Tr] at t
    obtain ⟨p, vs, rfl, h1, rfl, h2, h3⟩ := t
    simp only [TrL] at ta
    obtain ⟨rfl, rfl⟩ := ta
    have hp := hM p (List.mem_singleton.mpr rfl)
    refine ⟨p, vs, rfl, rfl, h1, q .non F _ [p] [] ?_⟩
    refine MuP.one g (fun _ _ h => h) (fun b o hb => .inl ⟨o, hb⟩) hp (List.mem_singleton.mpr rfl) (tr_fl upd_same (by simp only [IsVs]) (by simp)) tr_non (fun b hb => .inl (by simpa using hb)) (by simp) (fun b hb => ?_) ⟨_, h1⟩
    simp at hb; subst hb; exact hp
  · rename_i xs
    cases e
    simp only [Tr] at t
    obtain ⟨p, vs, M0, rfl, h1, rfl, h2, h3⟩ := t
    simp only [TrL] at ta
    obtain ⟨rfl, rfl⟩ := ta
    have hp := hM p (List.mem_cons_self)
    refine ⟨p, vs, rfl, rfl, h1, q .non F _ [p] [] ?_⟩
    refine MuP.one g (fun _ _ h => h) (fun b o hb => .inl ⟨o, hb⟩) hp List.mem_cons_self ?_ tr_non (fun b hb => .inl (by simp at hb; simp [hb])) (by simp) (fun b hb => ?_) ⟨_, h1⟩
    · simp only [Tr]
      exact ⟨p, [], [], rfl, upd_same, rfl, by unfold TrL; exact ⟨rfl, rfl⟩, by simp⟩
    · simp at hb; subst hb; exact hp
  · cases e

theorem ls_is {F H : Hp} {x : O} {v : V} {M : List Addr} (t : Tr W F H x v M) (h : isLs x = true) : tyV W.K "list" v H := by
  cases x with
  | fl xs =>
    simp only [Tr] at t
    obtain ⟨p, vs, rfl, h1, _⟩ := t
    exact .inl ⟨rfl, vs, SqL.of h1⟩
  | ol xs =>
    simp only [Tr] at t
    obtain ⟨p, vs, B, rfl, h1, _⟩ := t
    exact .inl ⟨rfl, vs, SqL.of h1⟩
  | _ => cases h
theorem ow_put' {A : Nat → List Addr} {i : Nat} {C : List Addr} {b : Addr} (h : Ow (fun j => if j = i then C else A j) b) : (∃ j, j ≠ i ∧ b ∈ A j) ∨ b ∈ C := by
  obtain ⟨j, h⟩ := h
  have h : b ∈ (if j = i then C else A j) := h
  by_cases hj : j = i
  · rw [if_pos hj] at h; exact .inr h
  · rw [if_neg hj] at h; exact .inl ⟨j, hj, h⟩

theorem mu_put {F2 H2 F' H' : Hp} {s1 : Sl} {σ : L2.St} {A2 : Nat → List Addr} {i : Nat} {o1 x' rr : O} {st : List Nat} {v0 v w : V} {B M' Br : List Addr} {L M R' : List Addr} (R2 : Rep W F2 H2 s1 σ A2) (e1 : s1[i]? = some (some o1)) (hv0 : σ[i]? = some (some v0)) (eA : A2 i = L ++ M ++ R')
    (kx : ∀ F' H' x' M', Same F2 F' → (∀ b ∈ L ++ R', ∀ y, H2 b = some y → H' b = some y) → Tr W F' H' x' v M' → Tr W F' H' (setO o1 st x') v0 (L ++ M' ++ R')) (by2 : By F2 H2 (Ow A2) B) (mp : MuP W F2 H2 M B x' rr v w F' H' M' Br) :
    ∃ A', Rep W F' H' (s1.set i (some (setO o1 st x'))) σ A' ∧ Ex F2 H2 (fun b => Ow A2 b ∨ b ∈ B) F' H' (fun b => Ow A' b ∨ b ∈ Br) ∧ By F' H' (Ow A') Br ∧ Br.Nodup := by
  have ndA := R2.nd i
  rw [eA] at ndA
  have nd3 := ndA
  unfold List.Nodup at nd3
  rw [List.pairwise_append, List.pairwise_append] at nd3
  have inA : ∀ b, b ∈ L ++ M ++ R' → b ∈ A2 i := fun b hb => by rw [eA]; exact hb
  have inM : ∀ b ∈ M, b ∈ A2 i := fun b hb => inA b (by simp [hb])
  have keepO : ∀ b, b ∉ M → ∀ y, H2 b = some y → H' b = some y := fun b hb y hy => mp.keep b y hy hb
  have nLR : ∀ b ∈ L ++ R', b ∉ M := fun b hb z => by
    rcases List.mem_append.mp hb with y | y
    · exact nd3.1.2.2 b y b z rfl
    · exact nd3.2.2 b (List.mem_append_right _ z) b y rfl
  have tnew := kx F' H' x' M' mp.sF (fun b hb y hy => keepO b (nLR b hb) y hy) mp.tx
  have nMj : ∀ j, j ≠ i → ∀ b ∈ A2 j, b ∉ M := fun j hj b hb z => hj (R2.dis j i b hb (inM b z))
  have nfr : ∀ b, F2 b = none → b ∉ B → F' b = none := fun b h1 h2 => by
    cases q : F' b with
    | none => rfl
    | some o => rcases mp.frz b o q with ⟨o', z⟩ | z
                · rw [h1] at z; cases z
                · exact absurd z h2
  have nB2 : ∀ j, ∀ b ∈ A2 j, b ∉ B := fun j b hb z => by2.nP b z ⟨j, hb⟩
  have ndMB := mp.nd
  unfold List.Nodup at ndMB
  rw [List.pairwise_append] at ndMB
  have subL : ∀ b ∈ L ++ R', b ∈ A2 i := fun b hb => inA b (by simp only [List.mem_append] at hb ⊢; rcases hb with z | z; exact .inl (.inl z); exact .inr z)
  have dLR : ∀ b ∈ L ++ R', b ∉ M' ++ Br := fun b hb z => by
    rcases mp.sub b z with y | y
    · exact nLR b hb y
    · exact nB2 i b (subL b hb) y
  have ndL : (L ++ M' ++ R').Nodup := by
    have a1 : L.Nodup := nd3.1.1
    have a2 : M'.Nodup := ndMB.1
    have a3 : R'.Nodup := nd3.2.1
    refine nodup_app (nodup_app a1 a2 fun b hb z => dLR b (List.mem_append_left _ hb) (List.mem_append_left _ z)) a3 fun b hb z => ?_
    rcases List.mem_append.mp hb with y | y
    · exact nd3.2.2 b (List.mem_append_left _ y) b z rfl
    · exact dLR b (List.mem_append_right _ z) (List.mem_append_left _ y)
  have cells : ∀ b ∈ L ++ M' ++ R', b ∈ A2 i ∨ b ∈ B := fun b hb => by
    simp only [List.mem_append] at hb
    rcases hb with (z | z) | z
    · exact .inl (inA b (by simp [z]))
    · rcases mp.sub b (List.mem_append_left _ z) with y | y
      · exact .inl (inM b y)
      · exact .inr y
    · exact .inl (inA b (by simp [z]))
  refine ⟨fun j => if j = i then L ++ M' ++ R' else A2 j, ⟨mp.fh, fun j o e => ?_, fun j a ha => ?_, fun j k a ha hb => ?_, fun j => ?_, by rw [List.length_set]; exact R2.len⟩, ⟨mp.sF, fun b o hb n => ?_, fun b o hb => mp.dom b o hb, fun b o hb => ?_, fun b hb => ?_⟩, ⟨fun b hb => mp.nf b (List.mem_append_right _ hb), mp.tr.cell, fun b hb z => ?_⟩, ndMB.2.1⟩
  · by_cases hj : j = i
    · subst hj
      rw [if_pos rfl]
      have hl : j < s1.length := by
        rcases Nat.lt_or_ge j s1.length with z | z
        · exact z
        · rw [List.getElem?_eq_none z] at e1; cases e1
      rw [List.getElem?_set_self hl] at e
      cases e
      exact ⟨v0, hv0, tnew⟩
    · rw [List.getElem?_set_ne (fun z => hj z.symm)] at e
      rw [if_neg hj]
      obtain ⟨w', hw', tw⟩ := R2.slot j o e
      exact ⟨w', hw', tw.frame mp.sF fun b hb y hy => keepO b (nMj j hj b hb) y hy⟩
  · by_cases hj : j = i
    · rw [if_pos hj] at ha
      refine ⟨?_, tnew.cell a ha⟩
      simp only [List.mem_append] at ha
      rcases ha with (z | z) | z
      · exact nfr a (R2.own i a (inA a (by simp [z]))).1 (nB2 i a (inA a (by simp [z])))
      · exact mp.nf a (List.mem_append_left _ z)
      · exact nfr a (R2.own i a (inA a (by simp [z]))).1 (nB2 i a (inA a (by simp [z])))
    · rw [if_neg hj] at ha
      obtain ⟨h1, y, h2⟩ := R2.own j a ha
      exact ⟨nfr a h1 (nB2 j a ha), mp.dom a y h2⟩
  · by_cases hj : j = i
    · by_cases hk : k = i
      · rw [hj, hk]
      · rw [if_pos hj] at ha
        rw [if_neg hk] at hb
        rcases cells a ha with z | z
        · exact absurd (R2.dis i k a z hb).symm hk
        · exact absurd z (nB2 k a hb)
    · by_cases hk : k = i
      · rw [if_pos hk] at hb
        rw [if_neg hj] at ha
        rcases cells a hb with z | z
        · exact absurd (R2.dis j i a ha z) hj
        · exact absurd z (nB2 j a ha)
      · rw [if_neg hj] at ha
        rw [if_neg hk] at hb
        exact R2.dis j k a ha hb
  · by_cases hj : j = i
    · rw [if_pos hj]; exact ndL
    · rw [if_neg hj]; exact R2.nd j
  · exact mp.keep b o hb fun z => n (.inl ⟨i, inM b z⟩)
  · rcases mp.frz b o hb with z | z
    · exact .inl z
    · exact .inr (.inr (.inr z))
  · rcases hb with hb | hb
    · rcases ow_put hb with z | z
      · exact .inl (.inl z)
      · rcases cells b z with y | y
        · exact .inl (.inl ⟨i, y⟩)
        · exact .inl (.inr y)
    · rcases mp.sub b (List.mem_append_right _ hb) with y | y
      · exact .inl (.inl ⟨i, inM b y⟩)
      · exact .inl (.inr y)
  · rcases ow_put' z with ⟨j, hj, y⟩ | y
    · rcases mp.sub b (List.mem_append_right _ hb) with u | u
      · exact hj (R2.dis j i b y (inM b u))
      · exact by2.nP b u ⟨j, y⟩
    · simp only [List.mem_append] at y
      rcases y with (y | y) | y
      · exact dLR b (List.mem_append_left _ y) (List.mem_append_right _ hb)
      · exact ndMB.2.2 b y b hb rfl
      · exact dLR b (List.mem_append_right _ y) (List.mem_append_right _ hb)
theorem se_mu {to : TE} {ta : TA} {m : MU} {p : CE} {es : List CE} (hp : SPa W to p) (ha : SA W E (quiets es) ta (dEs es)) : SE W E (quiet (.mu m p es)) (fun σ H Q => to σ H fun x H1 => tyV W.K "list" x H1 ∧ ta σ H1 fun xs H2 => muR m x xs H2 Q) (dE (.mu m p es)) := by
  intro F H s σ A Q R h
  simp only [dE, quiet] at h
  split at h
  · rename_i i st ep
    split at h
    · rename_i hq
      rw [Bool.and_eq_true] at hq
      refine hp F H s σ A _ i st R ep fun F1 H1 v0 v R1 x1 g1 hv0 hw => ?_
      obtain ⟨hls, hq⟩ := hq
      unfold lsAt at hls
      split at hls
      · rename_i o0 eo
        split at hls
        · rename_i x0 ex0
          obtain ⟨v0', hv0', t0⟩ := R1.slot i o0 eo
          rw [hv0] at hv0'
          cases hv0'
          obtain ⟨vx, L, M, R', hw', _, tx, _⟩ := Tr.focus R1.fh t0 ex0
          have hvx := walkV.fn hw hw'
          subst hvx
          refine ⟨ls_is tx hls, ha F1 H1 s σ A _ R1 ?_⟩
          revert h
          cases dEs es s with
          | ok os s1 =>
            intro h us F2 H2 A2 B p2
            dsimp only at h
            cases e1 : s1[i]? with
            | none => rw [e1] at h; exact h.elim
            | some o1 =>
              cases o1 with
              | none => rw [e1] at h; exact h.elim
              | some o1 =>
                rw [e1] at h
                dsimp only at h
                cases ex : getO o1 st with
                | none => rw [ex] at h; exact h.elim
                | some x =>
                  rw [ex] at h
                  dsimp only at h
                  cases em : muO m x os with
                  | none => rw [em] at h; exact h.elim
                  | some z =>
                    obtain ⟨x', rr⟩ := z
                    rw [em] at h
                    dsimp only at h
                    obtain ⟨v0', hv0', t1⟩ := p2.rep.slot i o1 e1
                    rw [hv0] at hv0'
                    cases hv0'
                    obtain ⟨vx, L, M, R', hw2, eA, tx, kx⟩ := Tr.focus p2.rep.fh t1 ex
                    have hvx : v = vx := by
                      rw [Bool.or_eq_true] at hq
                      rcases hq with z | z
                      · have : st = [] := by cases st with
                          | nil => rfl
                          | cons => cases z
                        subst this
                        rw [show v = v0 from hw, show vx = v0 from hw2]
                      · exact walkV.fn (hw.mono (p2.qt z).2.2) hw2
                    subst hvx
                    have ndA := p2.rep.nd i
                    rw [eA] at ndA
                    have nd3 := ndA
                    unfold List.Nodup at nd3
                    rw [List.pairwise_append, List.pairwise_append] at nd3
                    have inA : ∀ b, b ∈ L ++ M ++ R' → b ∈ A2 i := fun b hb => by rw [eA]; exact hb
                    have inM : ∀ b ∈ M, b ∈ A2 i := fun b hb => inA b (by simp [hb])
                    refine os_mu p2.rep.fh tx p2.tr (fun b hb => (p2.rep.own i b (inM b hb)).1) p2.by_.fr nd3.1.2.1 p2.nd (fun b hb z => p2.by_.nP b z ⟨i, inM b hb⟩) em fun w F' H' M' Br mp => ?_
                    obtain ⟨A', R3, x3, b3, n3⟩ := mu_put p2.rep e1 hv0 eA kx p2.by_ mp
                    have x12 : Ex F H (Ow A) F2 H2 (fun b => Ow A2 b ∨ b ∈ B) := x1.trans p2.ex
                    exact h w F' H' A' Br ⟨R3, x12.trans x3, mp.tr, b3, n3, fun z => by cases z⟩
          | ex x s1 =>
            intro h c d F' H' A' p'
            exact h c d F' H' A' ⟨p'.rep, x1.trans p'.ex, p'.xr⟩
          | no => exact fun h => h
        · cases hls
      · cases hls
    · exact h.elim
  · exact h.elim
end L3

set_option Elab.async false
set_option linter.all false
set_option maxRecDepth 100000
namespace L3
open PySem L2 PySem.Spec PyProof.Rows
variable {W : Wd} {E : XS}


structure ItOk (W : Wd) (J : It) (F : Hp) (ds : List D) : Prop where
  go : ∀ i H, i < ds.length → Same F H → J.go i H
  yld : ∀ i H x H', i < ds.length → Same F H → J.yld i H x H' → ∃ d, ds[i]? = some d ∧ ∀ F1, Same F F1 → Same F1 H → ∃ F2, Al F1 H F2 H' [] ∧ IsV W F2 d x
  stop : ∀ H, Same F H → J.stop ds.length H
theorem it_list' {F : Hp} {a : Addr} {us : List V} {ds : List D} (h : SqL W.K F a us) (k : IsVs W F ds us) : ItOk W (Itl W.K a) F ds := by
  refine ⟨fun i H hi g => ?_, fun i H x H' hi g y => ?_, fun H g => ⟨us, h.mono' g, by rw [k.len]; exact Nat.le_refl _⟩⟩
  · obtain ⟨v, ev, _⟩ := k.get (List.getElem?_eq_getElem hi)
    exact ⟨us, v, h.mono' g, ev⟩
  · obtain ⟨rfl, y⟩ := y
    have e := y us (h.mono' g)
    obtain ⟨v, ev, hv⟩ := k.get (List.getElem?_eq_getElem hi)
    rw [ev] at e
    cases e
    exact ⟨_, List.getElem?_eq_getElem hi, fun F1 g1 k1 => ⟨F1, Al.refl k1, hv.mono g1⟩⟩
theorem it_tup {F : Hp} {a : Addr} {us : List V} {ds : List D} (h : SqT W.K F a us) (k : IsVs W F ds us) : ItOk W (Itt W.K a) F ds := by
  refine ⟨fun i H hi g => ?_, fun i H x H' hi g y => ?_, fun H g => ⟨us, h.mono' g, by rw [k.len]; exact Nat.le_refl _⟩⟩
  · obtain ⟨v, ev, _⟩ := k.get (List.getElem?_eq_getElem hi)
    exact ⟨us, v, h.mono' g, ev⟩
  · obtain ⟨rfl, y⟩ := y
    have e := y us (h.mono' g)
    obtain ⟨v, ev, hv⟩ := k.get (List.getElem?_eq_getElem hi)
    rw [ev] at e
    cases e
    exact ⟨_, List.getElem?_eq_getElem hi, fun F1 g1 k1 => ⟨F1, Al.refl k1, hv.mono g1⟩⟩
theorem it_str {F : Hp} {t : List Nat} : ItOk W (Its (S t)) F (t.map fun c => .str [c]) := by
  refine ⟨fun i H hi g => ?_, fun i H x H' hi g y => ?_, fun H g => ?_⟩
  · rw [List.length_map] at hi; exact (by simpa [Its, S] using hi)
  · obtain ⟨rfl, c, ec, rfl⟩ := y
    have ec : t[i]? = some c := by simpa [S] using ec
    exact ⟨.str [c], by rw [List.getElem?_map, ec]; rfl, fun F1 g1 k1 => ⟨F1, Al.refl k1, by unfold IsV; exact ⟨rfl, by simp⟩⟩⟩
  · rw [List.length_map]; exact (by simp [Its, S])
theorem it_rng {F : Hp} {lo : Int} {n : Nat} : ItOk W (Itr lo n) F ((List.range n).map fun (k : Nat) => .int (lo + (k : Int))) := by
  refine ⟨fun i H hi g => ?_, fun i H x H' hi g y => ?_, fun H g => ?_⟩
  · simpa [Itr] using hi
  · obtain ⟨rfl, rfl⟩ := y
    have hi' : i < n := by simpa using hi
    exact ⟨.int (lo + i), by simp [hi'], fun F1 g1 k1 => ⟨F1, Al.refl k1, by unfold IsV; rfl⟩⟩
  · simp [Itr]
noncomputable def PoI (W : Wd) (E : XS) (F H : Hp) (A : Nat → List Addr) (σ : L2.St) (R : It → Hp → Prop) : Ri → Prop
  | .ok ds s' => ∀ J F' H' A', Rep W F' H' s' σ A' → Ex F H (Ow A) F' H' (Ow A') → ItOk W J F' ds → R J H'
  | .ex x s' => ∀ c d F' H' A', XPo W F H A σ x s' c d F' H' A' → E c d σ H'
  | .no => False
noncomputable def SI (W : Wd) (E : XS) (wi : TI) (m : Sl → Ri) : Prop := ∀ (F H : Hp) (s : Sl) (σ : L2.St) (A : Nat → List Addr) (R : It → Hp → Prop), Rep W F H s σ A → PoI W E F H A σ R (m s) → wi σ H R

noncomputable def iAny (K : PySem.W.Frag) (tl : TE) : TI := fun σ H R => tl σ H fun x H1 => (∃ a, x = .ref a ∧ (∃ xs, SqL K H1 a xs) ∧ R (Itl K a) H1) ∨ (∃ z, x = .str z ∧ R (Its z) H1) ∨ ∃ a, x = .ref a ∧ (∃ xs, SqT K H1 a xs) ∧ R (Itt K a) H1
theorem pi_any {X : Cx} {K : PySem.W.Frag} {tg l : Expr} {tl : TE} (hK : X.K = K) (hl : PE X l tl) : PI X tg l (iAny K tl) := by
  subst hK
  intro pins s σ H R I h
  refine thn (hl pins s σ H _ I h) fun v s1 ⟨x, H1, I1, r1, q1⟩ => ?_
  rcases q1 with ⟨a, e, ⟨xs, hq⟩, q⟩ | ⟨z, rfl, q⟩ | ⟨a, e, ⟨xs, hq⟩, q⟩
  · subst e
    cases r1
    obtain ⟨its, rv, p, hz⟩ := I1.list hq
    refine wpAny_pyIter_list p.isList ?_
    refine ⟨s1.heap.objs.size, [s1.heap.objs.size], _, _, H1, rfl, I1.kept (t' := s1.toks) fun b o e => Heap.get?_push_of_some _ e, turn_list a _, ⟨_, Heap.get?_push_size _ rfl, rfl, rfl⟩, fun b hb => ?_, q⟩
    have e : b = s1.heap.objs.size := by simpa using hb
    subst e
    exact I1.fpOk (Nat.le_refl _) (I1.hok.fresh (Nat.le_refl _))
  · obtain ⟨t, rfl⟩ := r1
    have fin : ∀ (ty : String) (o : Obj), Turn X.prog X.w X.K tg (Its z) [s1.heap.objs.size] s1.heap.objs.size (fun i h => h.IsStrIter s1.heap.objs.size ty z t i) → (s1.heap.push o).IsStrIter s1.heap.objs.size ty z t 0 →
        PIE X pins σ tg R (.ref s1.heap.objs.size) { s1 with heap := s1.heap.push o } := fun ty o T st => by
      refine ⟨s1.heap.objs.size, [s1.heap.objs.size], _, _, H1, rfl, I1.kept (t' := s1.toks) fun b o e => Heap.get?_push_of_some _ e, T, st, fun b hb => ?_, q⟩
      have e : b = s1.heap.objs.size := by simpa using hb
      subst e
      exact I1.fpOk (Nat.le_refl _) (I1.hok.fresh (Nat.le_refl _))
    cases ha : z.cps.all (· < 128)
    · refine wpAny_pyIter_wide ha (fin "str_iterator" _ (turn_of_str (by decide) (fun A' hA => Walks.strWide hA _ z t) ?_ ?_) ⟨_, Heap.get?_push_size _ rfl, rfl, rfl⟩)
      · intro A' s i E Q hA st hx hq
        exact wpAny_pyNext_wide_end hA st hx hq
      · intro A' s i E Q st h
        exact wpAny_pyIter_striter_wide st h
    · refine wpAny_pyIter_ascii ha (fin "str_ascii_iterator" _ (turn_of_str (by decide) (fun A' hA => Walks.strAscii hA _ z t) ?_ ?_) ⟨_, Heap.get?_push_size _ rfl, rfl, rfl⟩)
      · intro A' s i E Q hA st hx hq
        exact wpAny_pyNext_ascii_end hA st hx hq
      · intro A' s i E Q st h
        exact wpAny_pyIter_striter_ascii st h
  · subst e
    cases r1
    obtain ⟨its, rv, p, hz⟩ := I1.tuple hq
    refine wpAny_pyIter_tuple (show s1.heap.IsTuple a its.toArray from p) ?_
    refine ⟨s1.heap.objs.size, [s1.heap.objs.size], _, _, H1, rfl, I1.kept (t' := s1.toks) fun b o e => Heap.get?_push_of_some _ e, turn_tuple a _, ⟨_, Heap.get?_push_size _ rfl, rfl, rfl⟩, fun b hb => ?_, q⟩
    have e : b = s1.heap.objs.size := by simpa using hb
    subst e
    exact I1.fpOk (Nat.le_refl _) (I1.hok.fresh (Nat.le_refl _))
theorem si_seq {te : TE} {e : CE} (he : SE W E (quiet e) te (dE e)) : SI W E (iAny W.K te) (fun s => (dEs [e] s).it .seq) := by
  intro F H s σ A R Rp h
  refine he F H s σ A _ Rp ?_
  have h : PoI W E F H A σ R ((dEs [e] s).it .seq) := h
  simp only [dEs] at h
  revert h
  cases dE e s with
  | ok o s1 =>
    intro h v F1 H1 A1 B p
    simp only [Rl.cons, Rl.it, fzs] at h
    have R1 := p.rep.fz p.by_
    have x1 := p.ex.fz p.by_.fr
    have iv : IsV W (adds F1 H1 B) o.fz v := p.tr.frozen p.by_.fr
    have hn := iv.mono R1.fh
    cases e1 : itD .seq [o.fz] with
    | none => rw [e1] at h; exact h.elim
    | some ds =>
      rw [e1] at h
      simp only [itD] at e1
      revert e1 iv hn
      generalize o.fz = d
      intro iv hn e1
      cases d <;> simp only [seqD, Option.some.injEq, reduceCtorEq] at e1 <;> subst e1 <;> simp only [IsV] at iv hn
      · rename_i t
        exact .inr (.inl ⟨S t, iv.1, h (Its (S t)) _ H1 A1 R1 x1 it_str⟩)
      · obtain ⟨a, vs, rfl, h1, h2⟩ := iv
        exact .inr (.inr ⟨a, rfl, ⟨vs, SqT.of (R1.fh _ _ h1)⟩, h _ _ H1 A1 R1 x1 (it_tup (SqT.of h1) h2)⟩)
      · obtain ⟨a, vs, rfl, h1, h2, _⟩ := iv
        exact .inl ⟨a, rfl, ⟨vs, SqL.of (R1.fh _ _ h1)⟩, h _ _ H1 A1 R1 x1 (it_list' (SqL.of h1) h2)⟩
      · obtain ⟨a, vs, rfl, h1, h2⟩ := iv
        exact .inr (.inr ⟨a, rfl, ⟨vs, h1.mono' R1.fh⟩, h _ _ H1 A1 R1 x1 (it_tup h1 h2)⟩)
      · obtain ⟨a, vs, rfl, h1, h2, _⟩ := iv
        exact .inl ⟨a, rfl, ⟨vs, h1.mono' R1.fh⟩, h _ _ H1 A1 R1 x1 (it_list' h1 h2)⟩
  | bw o s1 => exact fun h => h.elim
  | ex x s1 => exact fun h => h
  | no => exact fun h => h
end L3

set_option Elab.async false
set_option linter.all false
set_option maxRecDepth 100000
namespace L3
open PySem L2 PySem.Spec PyProof.Rows
variable {W : Wd} {E : XS}
theorem dEs_len : ∀ {es : List CE} {s s' : Sl} {os : List O}, dEs es s = .ok os s' → os.length = es.length
  | [], _, _, _, h => by simp only [dEs, Rl.ok.injEq] at h; rw [← h.1]; rfl
  | e :: es, s, s', os, h => by
    simp only [dEs] at h
    cases q : dE e s with
    | ok o s1 =>
      rw [q] at h
      cases q2 : dEs es s1 with
      | ok os2 s2 =>
        simp only [q2, Rl.cons, Rl.ok.injEq] at h
        rw [← h.1, List.length_cons, List.length_cons, dEs_len q2]
      | ex x s2 => simp only [q2, Rl.cons, reduceCtorEq] at h
      | no => simp only [q2, Rl.cons, reduceCtorEq] at h
    | _ => rw [q] at h; simp only [reduceCtorEq] at h
theorem si_rng1 {ta : TA} {e : CE} (ha : SA W E (quiets [e]) ta (dEs [e])) : SI W E (iRng1 ta) (fun s => (dEs [e] s).it .rng) := by
  intro F H s σ A R Rp h
  refine ha F H s σ A _ Rp ?_
  have h : PoI W E F H A σ R ((dEs [e] s).it .rng) := h
  revert h
  cases eo : dEs [e] s with
  | ok os s1 =>
    intro h vs F1 H1 A1 B p
    have hl := dEs_len eo
    simp only [Rl.it, itD] at h
    split at h
    · rename_i ds e1
      unfold rngD at e1
      split at e1
      · rename_i j ej
        split at e1
        · rename_i hb
          cases e1
          have iv := p.tr.fz (adds_same p.by_.fr) adds_in
          rw [ej] at iv
          simp only [IsVs, IsV] at iv
          obtain ⟨v, r, rfl, rfl, rfl⟩ := iv
          have := it_rng (W := W) (F := F1) (lo := 0) (n := j.toNat)
          simp only [Int.zero_add] at this
          exact ⟨j, rfl, hb.1, hb.2, h _ F1 H1 A1 p.rep (p.ex.less fun _ z => .inl z) this⟩
        · cases e1
      · rename_i i j ej
        have := congrArg List.length ej
        rw [fzs_len, hl] at this
        cases this
      · cases e1
    · exact h.elim
  | ex x s1 => exact fun h => h
  | no => exact fun h => h
theorem si_rng2 {ta : TA} {e f : CE} (ha : SA W E (quiets [e, f]) ta (dEs [e, f])) : SI W E (iRng2 ta) (fun s => (dEs [e, f] s).it .rng) := by
  intro F H s σ A R Rp h
  refine ha F H s σ A _ Rp ?_
  have h : PoI W E F H A σ R ((dEs [e, f] s).it .rng) := h
  revert h
  cases eo : dEs [e, f] s with
  | ok os s1 =>
    intro h vs F1 H1 A1 B p
    have hl := dEs_len eo
    simp only [Rl.it, itD] at h
    split at h
    · rename_i ds e1
      unfold rngD at e1
      split at e1
      · rename_i j ej
        have := congrArg List.length ej
        rw [fzs_len, hl] at this
        cases this
      · rename_i i j ej
        split at e1
        · rename_i hb
          cases e1
          have iv := p.tr.fz (adds_same p.by_.fr) adds_in
          rw [ej] at iv
          simp only [IsVs, IsV] at iv
          obtain ⟨v, r, rfl, rfl, v2, r2, rfl, rfl, rfl⟩ := iv
          exact ⟨i, j, rfl, ⟨hb.1.1, hb.1.2, hb.2.1, hb.2.2⟩, h _ F1 H1 A1 p.rep (p.ex.less fun _ z => .inl z) it_rng⟩
        · cases e1
      · cases e1
    · exact h.elim
  | ex x s1 => exact fun h => h
  | no => exact fun h => h

noncomputable def pushA (A : Nat → List Addr) : Nat → List Addr
  | 0 => []
  | j + 1 => A j
theorem ow_push {A : Nat → List Addr} {b : Addr} : Ow (pushA A) b ↔ Ow A b := by
  constructor
  · rintro ⟨j, h⟩
    cases j with
    | zero => cases h
    | succ j => exact ⟨j, h⟩
  · rintro ⟨j, h⟩
    exact ⟨j + 1, h⟩
theorem Rep.push {F H : Hp} {s : Sl} {σ : L2.St} {A : Nat → List Addr} {d : D} {v : V} (R : Rep W F H s σ A) (h : IsV W F d v) : Rep W F H (some (.fr d) :: s) (some v :: σ) (pushA A) := by
  refine ⟨R.fh, fun i o e => ?_, fun i a ha => ?_, fun i j a ha hb => ?_, fun i => ?_, by rw [List.length_cons, List.length_cons, R.len]⟩
  · cases i with
    | zero => simp at e; subst e; exact ⟨v, rfl, tr_fr h⟩
    | succ i => exact R.slot i o (by simpa using e)
  · cases i with
    | zero => cases ha
    | succ i => exact R.own i a ha
  · cases i with
    | zero => cases ha
    | succ i =>
      cases j with
      | zero => cases hb
      | succ j => rw [R.dis i j a ha hb]
  · cases i with
    | zero => exact .nil
    | succ i => exact R.nd i
theorem Rep.pop {F H : Hp} {s : Sl} {σ : L2.St} {A : Nat → List Addr} {x : Option O} {v : Option V} (R : Rep W F H (x :: s) (v :: σ) A) : Rep W F H s σ (fun j => A (j + 1)) := by
  refine ⟨R.fh, fun i o e => R.slot (i + 1) o (by simpa using e), fun i a ha => R.own (i + 1) a ha, fun i j a ha hb => by have := R.dis (i + 1) (j + 1) a ha hb; omega, fun i => R.nd (i + 1), by have := R.len; simpa using this⟩
theorem ow_pop {A : Nat → List Addr} {b : Addr} (h : Ow (fun j => A (j + 1)) b) : Ow A b := by obtain ⟨j, h⟩ := h; exact ⟨j + 1, h⟩
theorem Ex.updD {F H F' H' : Hp} {P P' : Addr → Prop} {p : Addr} {o : HO} (e : Ex F H P F' H' P') (hp : P' p) : Ex F H P F' (upd H' p o) P' := by
  refine ⟨e.sF, fun b x h n => ?_, fun b x h => ?_, e.frz, e.cells⟩
  · rw [upd_ne (fun z : b = p => ?_)]
    · exact e.keep b x h n
    · subst z
      rcases e.cells b hp with y | y
      · exact n y
      · rw [h] at y; cases y
  · by_cases z : b = p
    · subst z; exact ⟨_, upd_same⟩
    · rw [upd_ne z]; exact e.dom b x h

structure LcI (W : Wd) (F H : Hp) (A : Nat → List Addr) (σ : L2.St) (D : Addr) (acc : List L3.D) (s' : Sl) (ys : List V) (F' H' : Hp) (A' : Nat → List Addr) : Prop where
  rep : Rep W F' H' s' σ A'
  ex : Ex F H (Ow A) F' H' (fun b => Ow A' b ∨ b ∈ [D])
  cell : H' D = some (.lst ys)
  by_ : By F' H' (Ow A') [D]
  vals : IsVs W F' acc ys
  lim : acc.length ≤ 16777216
theorem se_lc1 {wi : TI} {tt : TT} {te : TE} {elt : CE} {k : IK} {its ifs : List CE} (hi : SI W E wi (fun s => (dEs its s).it k)) (ht : ST W (fun _ _ _ _ => False) false tt (dTb true ifs)) (he : SE W (fun _ _ _ _ => False) (quiet elt) te (dE elt)) :
    SE W E (quiet (.lc elt 1 k its ifs)) (tLC wi tt te) (dE (.lc elt 1 k its ifs)) := by
  intro F H s σ A Q R h
  simp only [dE, quiet] at h
  refine hi F H s σ A _ R ?_
  revert h
  show Po W E F H A s σ false Q (Ri.lc ((dEs its s).it k) 1 (fun s => dTb true ifs s) (dE elt)) → PoI W E F H A σ (fun J H1 => lcBody J tt te σ H1 Q) ((dEs its s).it k)
  cases (dEs its s).it k with
  | ok ds s1 =>
    intro h J F1 H1 A1 R1 x1 io D hD
    simp only [Ri.lc] at h
    let I : Nat → Nat → List V → Hp → Prop := fun i m ys H' => m = ds.length - i ∧ i ≤ ds.length ∧ ∃ acc s' F' A', LcI W F H A σ D acc s' ys F' H' A' ∧ Same F1 F' ∧ Po W E F H A s σ false Q (lcLoop 1 (fun s => dTb true ifs s) (dE elt) (ds.drop i) acc s')
    refine ⟨I, ⟨ds.length, by omega, Nat.zero_le _, [], s1, F1, A1, ?_, fun _ _ h => h, by simpa using h⟩, fun i m ys H' hI => ?_⟩
    · have a := Al.cell (o := .lst []) R1.fh hD
      exact ⟨a.rep R1, x1.trans a.ex, upd_same, a.by_ R1, by simp only [IsVs], by simp⟩
    · obtain ⟨rfl, hle, acc, s', F', A', L, gF, hp⟩ := hI
      refine ⟨L.cell, ?_⟩
      by_cases hlt : i < ds.length
      · refine .inr ⟨io.go i H' hlt (gF.trans L.rep.fh), fun v H2 y => ?_⟩
        obtain ⟨d, ed, hd⟩ := io.yld i H' v H2 hlt (gF.trans L.rep.fh) y
        obtain ⟨F2, al, iv⟩ := hd F' gF L.rep.fh
        have edr : ds.drop i = d :: ds.drop (i + 1) := by
          rw [List.drop_eq_getElem_cons hlt]
          rw [List.getElem?_eq_getElem hlt] at ed
          cases ed
          rfl
        rw [edr] at hp
        simp only [lcLoop, bindN] at hp
        have R2 : Rep W F2 H2 (some (.fr d) :: s') (some v :: σ) (pushA A') := (al.rep L.rep).push iv
        have x2 : Ex F H (Ow A) F2 H2 (fun b => Ow A' b ∨ b ∈ [D]) := L.ex.trans (al.ex.less fun b z => .inl z)
        have b2 : By F2 H2 (Ow (pushA A')) [D] := (L.by_.ex (al.ex (P := Ow A'))).imp fun b z => .inl (ow_push.mp z)
        have c2 : H2 D = some (.lst ys) := al.sH _ _ L.cell
        refine ht F2 H2 _ _ _ _ R2 ?_
        have hp : Po W E F H A s σ false Q (match dTb true ifs (some (.fr d) :: s') with
          | .ok (.fr (.bl true)) s1 => match dE elt s1 with
            | .ok o s2 => if acc.length < 16777216 then lcLoop 1 (fun s => dTb true ifs s) (dE elt) (ds.drop (i + 1)) (acc ++ [o.fz]) (s2.drop 1) else .no
            | _ => .no
          | .ok (.fr (.bl false)) s1 => lcLoop 1 (fun s => dTb true ifs s) (dE elt) (ds.drop (i + 1)) acc (s1.drop 1)
          | _ => .no) := hp
        revert hp
        cases dTb true ifs (some (.fr d) :: s') with
        | ok o s3 =>
          intro hp w F3 H3 A3 B3 p3
          have x3 : Ex F2 H2 (Ow (pushA A')) F3 H3 (Ow A3) := p3.ex.less fun _ z => .inl z
          have xx3 : Ex F H (Ow A) F3 H3 (fun b => Ow A3 b ∨ b ∈ [D]) := by
            have := x2.trans ((x3.widen (R := (· ∈ [D]))).more (Q := fun b => Ow A' b ∨ b ∈ [D]) (fun b z => z.elim .inr fun y => .inl (ow_push.mp y)))
            exact this.less fun b z => z.elim .inr .inl
          have b3 : By F3 H3 (Ow A3) [D] := b2.ex x3
          have c3 : H3 D = some (.lst ys) := x3.keep D _ c2 (b2.nP D (List.mem_singleton.mpr rfl))
          have g3 : Same F1 F3 := (gF.trans al.sF).trans x3.sF
          cases o with
          | fr d3 =>
            cases d3 with
            | bl b =>
              refine ⟨b, fz_bl p3.tr rfl, ?_⟩
              cases b with
              | true =>
                rw [if_pos rfl]
                refine he F3 H3 s3 _ A3 _ p3.rep ?_
                dsimp only at hp
                revert hp
                cases dE elt s3 with
                | ok o4 s4 =>
                  intro hp y4 F4 H4 A4 B4 p4
                  dsimp only at hp
                  split at hp
                  · rename_i hacc
                    have x4 : Ex F3 H3 (Ow A3) (adds F4 H4 B4) H4 (Ow A4) := p4.ex.fz p4.by_.fr
                    have R4 := p4.rep.fz p4.by_
                    have iy : IsV W (adds F4 H4 B4) o4.fz y4 := p4.tr.frozen p4.by_.fr
                    have b4 : By (adds F4 H4 B4) H4 (Ow A4) [D] := b3.ex x4
                    have c4 : H4 D = some (.lst ys) := x4.keep D _ c3 (b3.nP D (List.mem_singleton.mpr rfl))
                    have hF4 := b4.fr D (List.mem_singleton.mpr rfl)
                    have xx4 : Ex F H (Ow A) (adds F4 H4 B4) H4 (fun b => Ow A4 b ∨ b ∈ [D]) := by
                      have := xx3.trans ((x4.widen (R := (· ∈ [D]))).more (Q := fun b => Ow A3 b ∨ b ∈ [D]) (fun b z => z.elim .inr .inl))
                      exact this.less fun b z => z.elim .inr .inl
                    have hlen : ys.length = acc.length := L.vals.len
                    refine ⟨c4, by rw [hlen, sizeLine_eq]; exact hacc, ds.length - (i + 1), by omega, rfl, by omega, acc ++ [o4.fz], s4.drop 1, adds F4 H4 B4, (fun j => A4 (j + 1)), ?_, g3.trans x4.sF, hp⟩
                    have l4 := R4.len
                    cases s4 with
                    | nil => simp at l4
                    | cons z s4 =>
                      have R5 := R4.pop
                      have nD : ∀ b, Ow A4 b → b ≠ D := fun b z e => by subst e; exact b4.nP b (List.mem_singleton.mpr rfl) z
                      refine ⟨⟨fun b o hb => ?_, fun j o e => ?_, fun j a ha => ?_, R5.dis, R5.nd, R5.len⟩, (xx4.less fun b z => z.imp ow_pop id).updD (.inr (List.mem_singleton.mpr rfl)), upd_same, ⟨b4.fr, fun b hb => ?_, fun b hb z => b4.nP b hb (ow_pop z)⟩, ?_, by rw [List.length_append]; exact hacc⟩
                      · rw [upd_ne (ne_of_none hb hF4)]; exact R4.fh _ _ hb
                      · obtain ⟨w5, h5, t5⟩ := R5.slot j o e
                        exact ⟨w5, h5, t5.frame (fun _ _ h => h) fun b hb x hx => by rw [upd_ne (nD b ⟨j + 1, hb⟩)]; exact hx⟩
                      · obtain ⟨h5, x, h6⟩ := R5.own j a ha
                        exact ⟨h5, x, by rw [upd_ne (nD a ⟨j + 1, ha⟩)]; exact h6⟩
                      · rw [List.mem_singleton.mp hb]; exact ⟨_, upd_same⟩
                      · exact (L.vals.mono ((al.sF.trans x3.sF).trans x4.sF)).snoc iy
                  · exact hp.elim
                | bw o4 s4 => exact fun hp => hp.elim
                | ex x s4 => exact fun hp => hp.elim
                | no => exact fun hp => hp
              | false =>
                rw [if_neg (by decide)]
                dsimp only at hp
                refine ⟨ds.length - (i + 1), by omega, rfl, by omega, acc, s3.drop 1, F3, (fun j => A3 (j + 1)), ?_, g3, hp⟩
                have l3 := p3.rep.len
                cases s3 with
                | nil => simp at l3
                | cons z s3 => exact ⟨p3.rep.pop, xx3.less fun b z => z.imp ow_pop id, c3, b3.imp fun b z => ow_pop z, L.vals.mono (al.sF.trans x3.sF), L.lim⟩
            | _ => exact hp.elim
          | _ => exact hp.elim
        | bw o s3 => exact fun hp => hp.elim
        | ex x s3 => exact fun hp => hp.elim
        | no => exact fun hp => hp
      · have hie : i = ds.length := by omega
        subst hie
        refine .inl ⟨io.stop H' (gF.trans L.rep.fh), ?_⟩
        rw [List.drop_length] at hp
        simp only [lcLoop] at hp
        refine hp (.ref D) F' H' A' [D] ⟨L.rep, L.ex, ?_, L.by_, List.pairwise_singleton _ _, fun z => by cases z⟩
        exact tr_fl L.cell L.vals L.lim
  | ex x s1 => exact fun h => h
  | no => exact fun h => h
end L3

set_option Elab.async false
set_option linter.all false
set_option maxRecDepth 100000
namespace L3
open PySem L2 PySem.Spec PyProof.Rows
variable {W : Wd} {E : XS}

structure SPo (W : Wd) (as : List Nat) (F H : Hp) (A : Nat → List Addr) (σ : L2.St) (s' : Sl) (F' H' : Hp) (σ' : L2.St) (A' : Nat → List Addr) : Prop where
  rep : Rep W F' H' s' σ' A'
  ex : Ex F H (Ow A) F' H' (Ow A')
  kp : ∀ i, i ∉ as → σ'[i]? = σ[i]?
structure TPo (W : Wd) (as : List Nat) (F H : Hp) (A : Nat → List Addr) (σ : L2.St) (o : O) (s' : Sl) (v : V) (F' H' : Hp) (σ' : L2.St) (A' : Nat → List Addr) (B : List Addr) : Prop where
  rep : Rep W F' H' s' σ' A'
  ex : Ex F H (Ow A) F' H' (fun b => Ow A' b ∨ b ∈ B)
  kp : ∀ i, i ∉ as → σ'[i]? = σ[i]?
  tr : Tr W F' H' o v B
  by_ : By F' H' (Ow A') B
  nd : B.Nodup
noncomputable def PoS (W : Wd) (E : XS) (as : List Nat) (F H : Hp) (A : Nat → List Addr) (σ : L2.St) (D : Ends) : Fw → Prop
  | .nx s' => ∀ F' H' σ' A', SPo W as F H A σ s' F' H' σ' A' → D.nx σ' H'
  | .rt o s' => ∀ v F' H' σ' A' B, TPo W as F H A σ o s' v F' H' σ' A' B → D.rt v H'
  | .bk s' => ∀ F' H' σ' A', SPo W as F H A σ s' F' H' σ' A' → D.bk σ' H'
  | .ct s' => ∀ F' H' σ' A', SPo W as F H A σ s' F' H' σ' A' → D.ct σ' H'
  | .ex x s' => ∀ c d F' H' σ' A', SPo W as F H A σ s' F' H' σ' A' → IsX W F' x c d → E c d σ' H'
  | .no => False
noncomputable def SS (W : Wd) (E : XS) (as : List Nat) (t : TS) (m : Sl → Fw) : Prop := ∀ (F H : Hp) (s : Sl) (σ : L2.St) (A : Nat → List Addr) (D : Ends), Rep W F H s σ A → PoS W E as F H A σ D (m s) → t D σ H
theorem SPo.trans {as : List Nat} {F H F1 H1 F2 H2 : Hp} {A A1 A2 : Nat → List Addr} {σ σ1 σ2 : L2.St} {s1 s2 : Sl} (a : SPo W as F H A σ s1 F1 H1 σ1 A1) (b : SPo W as F1 H1 A1 σ1 s2 F2 H2 σ2 A2) : SPo W as F H A σ s2 F2 H2 σ2 A2 := ⟨b.rep, a.ex.trans b.ex, fun i h => (b.kp i h).trans (a.kp i h)⟩
theorem SPo.refl {as : List Nat} {F H : Hp} {A : Nat → List Addr} {σ : L2.St} {s : Sl} (R : Rep W F H s σ A) : SPo W as F H A σ s F H σ A := ⟨R, Ex.refl, fun _ _ => rfl⟩
theorem PoS.chain {as : List Nat} {F H F1 H1 : Hp} {A A1 : Nat → List Addr} {σ σ1 : L2.St} {s1 : Sl} {D : Ends} {r : Fw} (a : SPo W as F H A σ s1 F1 H1 σ1 A1) (h : PoS W E as F H A σ D r) : PoS W E as F1 H1 A1 σ1 D r := by
  cases r with
  | nx s' => exact fun F' H' σ' A' p => h F' H' σ' A' (a.trans p)
  | bk s' => exact fun F' H' σ' A' p => h F' H' σ' A' (a.trans p)
  | ct s' => exact fun F' H' σ' A' p => h F' H' σ' A' (a.trans p)
  | rt o s' => exact fun v F' H' σ' A' B p => h v F' H' σ' A' B ⟨p.rep, a.ex.trans p.ex, fun i hi => (p.kp i hi).trans (a.kp i hi), p.tr, p.by_, p.nd⟩
  | ex x s' => exact fun c d F' H' σ' A' p hx => h c d F' H' σ' A' (a.trans p) hx
  | no => exact h
theorem EPo.spo {as : List Nat} {F H : Hp} {A : Nat → List Addr} {s : Sl} {σ : L2.St} {q : Bool} {o : O} {s' : Sl} {v : V} {F' H' : Hp} {A' : Nat → List Addr} {B : List Addr} (p : EPo W F H A s σ q o s' v F' H' A' B) : SPo W as F H A σ s' F' H' σ A' := ⟨p.rep, p.ex.less fun _ z => .inl z, fun _ _ => rfl⟩
theorem BPo.spo {as : List Nat} {F H : Hp} {A : Nat → List Addr} {s : Sl} {σ : L2.St} {q : Bool} {o : O} {s' : Sl} {v : V} {F' H' : Hp} {A' : Nat → List Addr} {B : List Addr} (p : BPo W F H A s σ q o s' v F' H' A' B) : SPo W as F H A σ s' F' H' σ A' := ⟨p.rep, p.ex, fun _ _ => rfl⟩
theorem XPo.spo {as : List Nat} {F H : Hp} {A : Nat → List Addr} {σ : L2.St} {x : Exn} {s' : Sl} {c : Value} {d : Option Addr} {F' H' : Hp} {A' : Nat → List Addr} (p : XPo W F H A σ x s' c d F' H' A') : SPo W as F H A σ s' F' H' σ A' := ⟨p.rep, p.ex, fun _ _ => rfl⟩
theorem ss_nil {as : List Nat} : SS W E as tNext (dSs []) := by
  intro F H s σ A D R h
  simp only [dSs] at h
  exact h F H σ A (SPo.refl R)
theorem ss_cons {as : List Nat} {t u : TS} {c : CS} {cs : List CS} (h1 : SS W E as t (dS c)) (h2 : SS W E as u (dSs cs)) : SS W E as (tSeq t u) (dSs (c :: cs)) := by
  intro F H s σ A D R h
  simp only [dSs] at h
  refine h1 F H s σ A { D with nx := u D } R ?_
  revert h
  cases dS c s with
  | nx s1 => exact fun h F' H' σ' A' p => h2 F' H' s1 σ' A' D p.rep (PoS.chain p h)
  | rt o s1 => exact fun h => h
  | bk s1 => exact fun h => h
  | ct s1 => exact fun h => h
  | ex x s1 => exact fun h => h
  | no => exact fun h => h
theorem ss_ret {as : List Nat} {te : TE} {e : CE} (he : SE W E (quiet e) te (dE e)) : SS W E as (tRet te) (dS (.ret e)) := by
  intro F H s σ A D R h
  simp only [dS] at h
  refine he F H s σ A _ R ?_
  revert h
  cases dE e s with
  | ok o s1 => exact fun h v F' H' A' B p => h v F' H' σ A' B ⟨p.rep, p.ex, fun _ _ => rfl, p.tr, p.by_, p.nd⟩
  | bw o s1 => exact fun h => h.elim
  | ex x s1 => exact fun h c d F' H' A' p => h c d F' H' σ A' p.spo p.xr
  | no => exact fun h => h
theorem ss_retN {as : List Nat} : SS W E as tRetN (dS .retN) := by
  intro F H s σ A D R h
  simp only [dS] at h
  exact h .non F H σ A [] ⟨R, Ex.refl.less fun b z => z.elim id (fun y => by cases y), fun _ _ => rfl, tr_non, ⟨(fun _ h => by cases h), (fun _ h => by cases h), (fun _ h => by cases h)⟩, .nil⟩
theorem ss_ex {as : List Nat} {te : TE} {e : CE} (he : SE W E (quiet e) te (dE e)) : SS W E as (tDrop te) (dS (.ex e)) := by
  intro F H s σ A D R h
  simp only [dS] at h
  refine he F H s σ A _ R ?_
  revert h
  cases dE e s with
  | ok o s1 => exact fun h v F' H' A' B p => h F' H' σ A' p.spo
  | bw o s1 => exact fun h v F' H' A' B p => h F' H' σ A' p.spo
  | ex x s1 => exact fun h c d F' H' A' p => h c d F' H' σ A' p.spo p.xr
  | no => exact fun h => h
theorem ss_pass {as : List Nat} : SS W E as tNext (dS .pass) := by
  intro F H s σ A D R h
  simp only [dS] at h
  exact h F H σ A (SPo.refl R)
theorem ss_brk {as : List Nat} : SS W E as tBreak (dS .brk) := by
  intro F H s σ A D R h
  simp only [dS] at h
  exact h F H σ A (SPo.refl R)
theorem ss_ife {as : List Nat} {t : TT} {a b : TS} {c : CE} {ca cb : List CS} (hc : ST W E false t (dE c)) (ha : SS W E as a (dSs ca)) (hb : SS W E as b (dSs cb)) : SS W E as (tIfS t a b) (dS (.ife c ca cb)) := by
  intro F H s σ A D R h
  simp only [dS] at h
  refine hc F H s σ A _ R ?_
  revert h
  cases dE c s with
  | ok o s1 =>
    intro h v F' H' A' B p
    cases o with
    | fr d =>
      cases d with
      | bl k =>
        refine ⟨k, fz_bl p.tr rfl, ?_⟩
        cases k with
        | true => rw [if_pos rfl]; exact ha F' H' s1 σ A' D p.rep (PoS.chain p.spo h)
        | false => rw [if_neg (by decide)]; exact hb F' H' s1 σ A' D p.rep (PoS.chain p.spo h)
      | _ => exact h.elim
    | _ => exact h.elim
  | bw o s1 => exact fun h => h.elim
  | ex x s1 => exact fun h c d F' H' A' p => h c d F' H' σ A' p.spo p.xr
  | no => exact fun h => h

theorem Rep.set {F H : Hp} {s : Sl} {σ : L2.St} {A : Nat → List Addr} {i : Nat} {o : O} {v : V} {C : List Addr} (R : Rep W F H s σ A) (t : Tr W F H o v C) (nd : C.Nodup) (fr : ∀ b ∈ C, F b = none) (n : ∀ b ∈ C, ¬ Ow A b) :
    Rep W F H (s.set i (some o)) (σ.set i (some v)) (fun j => if j = i then C else A j) := by
  refine ⟨R.fh, fun j o' e => ?_, fun j a ha => ?_, fun j k a ha hb => ?_, fun j => ?_, by rw [List.length_set, List.length_set]; exact R.len⟩
  · by_cases hj : j = i
    · subst hj
      rw [if_pos rfl]
      rcases Nat.lt_or_ge j s.length with z | z
      · rw [List.getElem?_set_self z] at e
        cases e
        exact ⟨v, by rw [List.getElem?_set_self (by rw [← R.len]; exact z)], t⟩
      · rw [List.getElem?_eq_none (by rw [List.length_set]; exact z)] at e; cases e
    · rw [List.getElem?_set_ne (fun z => hj z.symm)] at e
      rw [if_neg hj]
      obtain ⟨w, h1, h2⟩ := R.slot j o' e
      exact ⟨w, by rw [List.getElem?_set_ne (fun z => hj z.symm)]; exact h1, h2⟩
  · by_cases hj : j = i
    · rw [if_pos hj] at ha; exact ⟨fr a ha, t.cell a ha⟩
    · rw [if_neg hj] at ha; exact R.own j a ha
  · by_cases hj : j = i
    · by_cases hk : k = i
      · rw [hj, hk]
      · rw [if_pos hj] at ha
        rw [if_neg hk] at hb
        exact absurd ⟨k, hb⟩ (n a ha)
    · by_cases hk : k = i
      · rw [if_pos hk] at hb
        rw [if_neg hj] at ha
        exact absurd ⟨j, ha⟩ (n a hb)
      · rw [if_neg hj] at ha
        rw [if_neg hk] at hb
        exact R.dis j k a ha hb
  · by_cases hj : j = i
    · rw [if_pos hj]; exact nd
    · rw [if_neg hj]; exact R.nd j

structure GtPo (W : Wd) (as : List Nat) (F H : Hp) (A : Nat → List Addr) (B : List Addr) (σ : L2.St) (s' : Sl) (F' H' : Hp) (σ' : L2.St) (A' : Nat → List Addr) : Prop where
  rep : Rep W F' H' s' σ' A'
  ex : Ex F H (fun b => Ow A b ∨ b ∈ B) F' H' (Ow A')
  kp : ∀ i, i ∉ as → σ'[i]? = σ[i]?
noncomputable def SGt (W : Wd) (as : List Nat) (g : TG) (m : O → Sl → Option Sl) : Prop := ∀ (F H : Hp) (s s' : Sl) (σ : L2.St) (A : Nat → List Addr) (o : O) (v : V) (B : List Addr) (Q : L2.St → Hp → Prop), Rep W F H s σ A → Tr W F H o v B → By F H (Ow A) B → B.Nodup → m o s = some s' →
  (∀ F' H' σ' A', GtPo W as F H A B σ s' F' H' σ' A' → Q σ' H') → g v σ H Q
theorem sgt_v {as : List Nat} {i : Nat} (hi : i ∈ as) : SGt W as (gName i) (asgT (.v i)) := by
  intro F H s s' σ A o v B Q R t b nd e q
  simp only [asgT, Option.some.injEq] at e
  subst e
  refine q F H _ _ ⟨R.set t nd b.fr b.nP, ?_, fun j hj => ?_⟩
  · refine Ex.refl.less fun c z => ?_
    exact (ow_put z)
  · rw [List.getElem?_set_ne (fun z : i = j => hj (z ▸ hi))]
theorem sgts {as : List Nat} : ∀ {is : List Nat}, (∀ i ∈ is, i ∈ as) → ∀ (F H : Hp) (s s' : Sl) (σ : L2.St) (A : Nat → List Addr) (os : List O) (vs : List V) (B : List Addr) (Q : L2.St → Hp → Prop), Rep W F H s σ A → TrL W F H os vs B → By F H (Ow A) B → B.Nodup → setN is os s = some s' →
    (∀ F' H' σ' A', GtPo W as F H A B σ s' F' H' σ' A' → Q σ' H') → (is.foldr (fun i g => gCons (gName i) g) gNil) vs σ H Q
  | [], _, F, H, s, s', σ, A, os, vs, B, Q, R, t, b, nd, e, q => by
    cases os with
    | nil =>
      simp only [setN, Option.some.injEq] at e
      subst e
      simp only [TrL] at t
      obtain ⟨rfl, rfl⟩ := t
      exact ⟨rfl, q F H σ A ⟨R, (Ex.refl (P := fun b => Ow A b ∨ b ∈ [])).less fun b z => .inl z, fun _ _ => rfl⟩⟩
    | cons o os => simp only [setN, reduceCtorEq] at e
  | i :: is, hi, F, H, s, s', σ, A, [], vs, B, Q, R, t, b, nd, e, q => by simp only [setN, reduceCtorEq] at e
  | i :: is, hi, F, H, s, s', σ, A, o :: os, vs, B, Q, R, t, b, nd, e, q => by
    simp only [setN] at e
    simp only [TrL] at t
    obtain ⟨v, r, B1, B2, rfl, rfl, t1, t2⟩ := t
    have nd' := nd
    unfold List.Nodup at nd'
    rw [List.pairwise_append] at nd'
    have R1 := R.set (i := i) t1 nd'.1 (fun c hc => b.fr c (List.mem_append_left _ hc)) (fun c hc => b.nP c (List.mem_append_left _ hc))
    refine ⟨v, r, rfl, ?_⟩
    refine sgts (fun j hj => hi j (List.mem_cons_of_mem _ hj)) F H _ s' _ _ os r B2 Q R1 t2 ⟨fun c hc => b.fr c (List.mem_append_right _ hc), fun c hc => b.ob c (List.mem_append_right _ hc), fun c hc z => ?_⟩ nd'.2.1 e fun F' H' σ' A' p => q F' H' σ' A' ⟨p.rep, ?_, fun j hj => ?_⟩
    · rcases ow_put z with y | y
      · exact b.nP c (List.mem_append_right _ hc) y
      · exact nd'.2.2 c y c hc rfl
    · refine p.ex.more fun c z => ?_
      rcases z with z | z
      · rcases ow_put z with y | y
        · exact .inl y
        · exact .inr (List.mem_append_left _ y)
      · exact .inr (List.mem_append_right _ z)
    · rw [p.kp j hj, List.getElem?_set_ne (fun z : i = j => hj (z ▸ hi i List.mem_cons_self))]
end L3

set_option Elab.async false
set_option linter.all false
set_option maxRecDepth 100000
namespace L3
open PySem L2 PySem.Spec PyProof.Rows
variable {W : Wd} {E : XS}
theorem trL_fr {F H : Hp} : ∀ {ds : List D} {vs : List V}, IsVs W F ds vs → TrL W F H (ds.map .fr) vs []
  | [], vs, h => by simp only [IsVs] at h; unfold List.map; unfold TrL; exact ⟨h, rfl⟩
  | d :: ds, vs, h => by
    simp only [IsVs] at h
    obtain ⟨v, r, rfl, h1, h2⟩ := h
    simp only [List.map_cons, TrL]
    exact ⟨v, r, [], [], rfl, rfl, tr_fr h1, trL_fr h2⟩
theorem setN_len : ∀ {is : List Nat} {os : List O} {s s' : Sl}, setN is os s = some s' → os.length = is.length
  | [], [], _, _, _ => rfl
  | [], _ :: _, _, _, h => by simp only [setN, reduceCtorEq] at h
  | _ :: _, [], _, _, h => by simp only [setN, reduceCtorEq] at h
  | i :: is, o :: os, s, s', h => by
    simp only [setN] at h
    rw [List.length_cons, List.length_cons, setN_len h]

noncomputable def gUn (K : PySem.W.Frag) (n : Nat) (t : TGs) : TG := fun v σ H Q => ∃ a xs, v = .ref a ∧ (SqT K H a xs ∨ SqL K H a xs) ∧ xs.length = n ∧ t xs σ H Q
theorem sgt_tup {as : List Nat} {is : List Nat} (hi : ∀ i ∈ is, i ∈ as) : SGt W as (gUn W.K is.length (is.foldr (fun i g => gCons (gName i) g) gNil)) (asgT (.tup is)) := by
  intro F H s s' σ A o v B Q R t b nd e q
  simp only [asgT] at e
  split at e
  · rename_i os eo
    have hl := setN_len e
    have fin : ∀ p vs B', v = .ref p → (SqT W.K H p vs ∨ SqL W.K H p vs) → TrL W F H os vs B' → (∀ c ∈ B', c ∈ B) → B'.Nodup → gUn W.K is.length (is.foldr (fun i g => gCons (gName i) g) gNil) v σ H Q := fun p vs B' ev hs tl sub nd' => by
      refine ⟨p, vs, ev, hs, by rw [tl.len, hl], ?_⟩
      exact sgts hi F H s s' σ A os vs B' Q R tl ⟨fun c hc => b.fr c (sub c hc), fun c hc => b.ob c (sub c hc), fun c hc => b.nP c (sub c hc)⟩ nd' e fun F' H' σ' A' p => q F' H' σ' A' ⟨p.rep, p.ex.more fun c z => z.imp id (sub c), p.kp⟩
    unfold unO at eo
    split at eo
    · cases eo
      simp only [Tr, IsV] at t
      obtain ⟨_, p, vs, ev, h1, h2⟩ := t
      exact fin p vs [] ev (.inl (SqT.of (R.fh _ _ h1))) (trL_fr h2) (fun _ h => by cases h) .nil
    · cases eo
      simp only [Tr] at t
      obtain ⟨p, vs, ev, h1, h2⟩ := t
      exact fin p vs B ev (.inl (SqT.of (R.fh _ _ h1))) h2 (fun _ h => h) nd
    · cases eo
      simp only [Tr, IsV] at t
      obtain ⟨_, p, vs, ev, h1, h2, _⟩ := t
      exact fin p vs [] ev (.inr (SqL.of (R.fh _ _ h1))) (trL_fr h2) (fun _ h => by cases h) .nil
    · cases eo
      simp only [Tr] at t
      obtain ⟨p, vs, ev, h1, _, h2, _⟩ := t
      exact fin p vs [] ev (.inr (SqL.of h1)) (trL_fr h2) (fun _ h => by cases h) .nil
    · cases eo
      simp only [Tr] at t
      obtain ⟨p, vs, B', ev, h1, rfl, h2, _⟩ := t
      exact fin p vs B' ev (.inr (SqL.of h1)) h2 (fun c hc => List.mem_cons_of_mem _ hc) (List.nodup_cons.mp nd).2
    · cases eo
  · cases e

theorem os_put {F H : Hp} {x y o x' : O} {vx u v : V} {M B : List Addr} {Q : Hp → Prop} (g : Same F H) (t : Tr W F H x vx M) (ty : Tr W F H y u []) (to : Tr W F H o v B) (hM : ∀ b ∈ M, F b = none) (hB : ∀ b ∈ B, F b = none) (ndM : M.Nodup) (ndB : B.Nodup) (dis : ∀ b ∈ M, b ∉ B)
    (e : putO x y o = some x') (q : ∀ F' H' M', MuP W F H M B x' (.fr .non) vx .non F' H' M' [] → Q H') : rSetL vx u v H Q := by
  unfold putO at e
  split at e
  · rename_i xs n
    simp only [Option.map_eq_some_iff] at e
    obtain ⟨j, ej, rfl⟩ := e
    have hu : u = .int n := fz_int ty rfl
    simp only [Tr] at t
    obtain ⟨p, vs, rfl, h1, rfl, h2, h3⟩ := t
    have hp := hM p (List.mem_singleton.mpr rfl)
    have sF : Same F (adds F H B) := adds_same hB
    have hp' : adds F H B p = none := by unfold adds; rw [if_neg (dis p (List.mem_singleton.mpr rfl))]; exact hp
    have hset : IsVs W (adds F H B) (xs.set j o.fz) (vs.set j v) := by
      have h2' := h2.mono sF
      have ho := to.frozen hB
      have : ∀ (xs : List D) (vs : List V), IsVs W (adds F H B) xs vs → ∀ j, IsVs W (adds F H B) (xs.set j o.fz) (vs.set j v) := by
        intro xs
        induction xs with
        | nil => intro vs h j; simp only [IsVs] at h; subst h; simp only [List.set_nil, IsVs]
        | cons d ds ih =>
          intro vs h j
          simp only [IsVs] at h
          obtain ⟨w, r, rfl, k1, k2⟩ := h
          cases j with
          | zero => simp only [List.set_cons_zero, IsVs]; exact ⟨_, _, rfl, ho, k2⟩
          | succ j => simp only [List.set_cons_succ, IsVs]; exact ⟨_, _, rfl, k1, ih r k2 j⟩
      exact this xs vs h2' j
    refine ⟨p, vs, n, j, rfl, hu, h1, by rw [h2.len]; exact ej, q (adds F H B) _ [p] ?_⟩
    refine MuP.one g sF (fun b o hb => ?_) hp' (List.mem_singleton.mpr rfl) (tr_fl upd_same hset (by rw [List.length_set]; exact h3)) tr_non (fun b hb => .inl (by simpa using hb)) (by simp) (fun b hb => ?_) ⟨_, h1⟩
    · unfold adds at hb
      split at hb
      · exact .inr ⟨by assumption, hb⟩
      · exact .inl ⟨o, hb⟩
    · simp at hb; subst hb; exact hp'
  · rename_i xs n
    simp only [Option.map_eq_some_iff] at e
    obtain ⟨j, ej, rfl⟩ := e
    have hu : u = .int n := fz_int ty rfl
    simp only [Tr] at t
    obtain ⟨p, vs, M0, rfl, h1, rfl, h2, h3⟩ := t
    have hp := hM p (List.mem_cons_self)
    have nd2 := List.nodup_cons.mp ndM
    have hBp : p ∉ B := dis p List.mem_cons_self
    have hlt : j < xs.length := by
      unfold ixN at ej
      split at ej
      · split at ej
        · cases ej; omega
        · cases ej
      · split at ej
        · cases ej; omega
        · cases ej
    have key : ∀ (xs : List O) (vs : List V) (M0 : List Addr) (j : Nat), j < xs.length → TrL W F H xs vs M0 → (∀ b ∈ M0, b ≠ p) → (∀ b ∈ M0, b ∉ B) → M0.Nodup → ∃ M1, TrL W F (upd H p (.lst (vs.set j v))) (xs.set j o) (vs.set j v) M1 ∧ (∀ b ∈ M1, b ∈ M0 ∨ b ∈ B) ∧ M1.Nodup := by
      intro xs vs M0 j hj h hn hd hnd
      have gen : ∀ (L : List V) (xs : List O) (vs : List V) (M0 : List Addr) (j : Nat), j < xs.length → TrL W F H xs vs M0 → (∀ b ∈ M0, b ≠ p) → (∀ b ∈ M0, b ∉ B) → M0.Nodup → ∃ M1, TrL W F (upd H p (.lst L)) (xs.set j o) (vs.set j v) M1 ∧ (∀ b ∈ M1, b ∈ M0 ∨ b ∈ B) ∧ M1.Nodup := by
        intro L xs
        induction xs with
        | nil => intro vs M0 j hj; simp at hj
        | cons z zs ih =>
          intro vs M0 j hj h hn hd hnd
          simp only [TrL] at h
          obtain ⟨w, r, A1, A2, rfl, rfl, k1, k2⟩ := h
          have nd' := hnd
          unfold List.Nodup at nd'
          rw [List.pairwise_append] at nd'
          cases j with
          | zero =>
            refine ⟨B ++ A2, ?_, fun b hb => ?_, nodup_app ndB nd'.2.1 fun b hb z => hd b (List.mem_append_right _ z) hb⟩
            · simp only [List.set_cons_zero, TrL]
              refine ⟨v, r, B, A2, rfl, rfl, to.frame (fun _ _ h => h) fun b hb x hx => ?_, k2.frame (fun _ _ h => h) fun b hb x hx => ?_⟩
              · rw [upd_ne (fun e : b = p => hBp (e ▸ hb))]; exact hx
              · rw [upd_ne (hn b (List.mem_append_right _ hb))]; exact hx
            · rcases List.mem_append.mp hb with z | z
              · exact .inr z
              · exact .inl (List.mem_append_right _ z)
          | succ j =>
            obtain ⟨M1, t1, s1, n1⟩ := ih r A2 j (by simpa using hj) k2 (fun b hb => hn b (List.mem_append_right _ hb)) (fun b hb => hd b (List.mem_append_right _ hb)) nd'.2.1
            refine ⟨A1 ++ M1, ?_, fun b hb => ?_, nodup_app nd'.1 n1 fun b hb z => ?_⟩
            · simp only [List.set_cons_succ, TrL]
              exact ⟨w, _, A1, M1, rfl, rfl, k1.frame (fun _ _ h => h) fun b hb x hx => by rw [upd_ne (hn b (List.mem_append_left _ hb))]; exact hx, t1⟩
            · rcases List.mem_append.mp hb with z | z
              · exact .inl (List.mem_append_left _ z)
              · exact (s1 b z).imp (List.mem_append_right _) id
            · rcases s1 b z with y | y
              · exact nd'.2.2 b hb b y rfl
              · exact hd b (List.mem_append_left _ hb) y
      exact gen _ xs vs M0 j hj h hn hd hnd
    obtain ⟨M1, t1, s1, n1⟩ := key xs vs M0 j hlt h2 (fun b hb e => nd2.1 (e ▸ hb)) (fun b hb => dis b (List.mem_cons_of_mem _ hb)) nd2.2
    refine ⟨p, vs, n, j, rfl, hu, h1, by rw [h2.len]; exact ej, q F _ (p :: M1) ?_⟩
    refine MuP.one g (fun _ _ h => h) (fun b o hb => .inl ⟨o, hb⟩) hp List.mem_cons_self ?_ tr_non (fun b hb => ?_) ?_ (fun b hb => ?_) ⟨_, h1⟩
    · simp only [Tr]
      exact ⟨p, _, M1, rfl, upd_same, rfl, t1, by rw [List.length_set]; exact h3⟩
    · simp only [List.append_nil, List.mem_cons] at hb ⊢
      rcases hb with z | z
      · exact .inl (.inl z)
      · exact (s1 b z).imp .inr id
    · rw [List.append_nil]
      refine List.nodup_cons.mpr ⟨fun z => ?_, n1⟩
      rcases s1 p z with y | y
      · exact nd2.1 y
      · exact hBp y
    · simp only [List.append_nil, List.mem_cons] at hb
      rcases hb with z | z
      · subst z; exact hp
      · rcases s1 b z with y | y
        · exact hM b (List.mem_cons_of_mem _ y)
        · exact hB b y
  · cases e

theorem sgt_sub {as : List Nat} {tp tk : TE} {p k : CE} (hp : SPa W tp p) (hk : SE W E (quiet k) tk (dE k)) : SGt W as (gSub tp tk rSetL) (asgT (.sub p k)) := by
  intro F H s s' σ A o v B Q R t b nd e q
  simp only [asgT] at e
  split at e
  · rename_i i st ep
    split at e
    · rename_i z ez
      split at e
      · rename_i x ex
        split at e
        · rename_i hq
          split at e
          · rename_i y sk ek
            split at e
            · rename_i x' ex'
              cases e
              refine hp F H s σ A _ i st R ep fun F1 H1 v0 vx R1 x1 g1 hv0 hw => ?_
              have b1 := b.ex x1
              have t1 := b.tr x1 t
              refine hk F1 H1 s σ A _ R1 ?_
              rw [ek]
              intro u F2 H2 A2 B2 p2
              obtain ⟨e1, e2, g2⟩ := p2.qt hq
              subst e1; subst e2
              have x2 : Ex F1 H1 (Ow A2) F2 H2 (Ow A2) := p2.ex.less fun _ z => .inl z
              have b2 := b1.ex x2
              have t2 := b1.tr x2 t1
              obtain ⟨v0', hv0', t0⟩ := p2.rep.slot _ z ez
              rw [hv0] at hv0'
              cases hv0'
              obtain ⟨vx', L, M, R', hw', eA, tx, kx⟩ := Tr.focus p2.rep.fh t0 ex
              have hvx := walkV.fn (hw.mono g2) hw'
              subst hvx
              have inM : ∀ c ∈ M, c ∈ A2 i := fun c hc => by rw [eA]; simp [hc]
              have ndA := p2.rep.nd i
              rw [eA] at ndA
              unfold List.Nodup at ndA
              rw [List.pairwise_append, List.pairwise_append] at ndA
              have ty : Tr W F2 H2 y u [] := by
                unfold putO at ex'
                split at ex'
                · rename_i n; rw [fz_int p2.tr rfl]; exact tr_int
                · rename_i n; rw [fz_int p2.tr rfl]; exact tr_int
                · cases ex'
              refine os_put p2.rep.fh tx ty t2 (fun c hc => (p2.rep.own i c (inM c hc)).1) b2.fr ndA.1.2.1 nd (fun c hc z => b2.nP c z ⟨i, inM c hc⟩) ex' fun F' H' M' mp => ?_
              obtain ⟨A', R3, x3, b3, n3⟩ := mu_put p2.rep ez hv0 eA kx b2 mp
              refine q F' H' σ A' ⟨R3, ?_, fun _ _ => rfl⟩
              have x12 : Ex F H (fun c => Ow A2 c ∨ c ∈ B) F2 H2 (fun c => Ow A2 c ∨ c ∈ B) := by
                have := (x1.trans x2).widen (R := (· ∈ B))
                exact (this.more fun c z => z.elim .inr .inl).less fun c z => z.elim .inr .inl
              exact x12.trans (x3.less fun c z => .inl z)
            · cases e
          · cases e
        · cases e
      · cases e
    · cases e
  · cases e
theorem ss_asg {as : List Nat} {te : TE} {e : CE} {t : CT} {g : TG} (he : SE W E (quiet e) te (dE e)) (hg : SGt W as g (asgT t)) : SS W E as (tAsg te g) (dS (.asg t e)) := by
  intro F H s σ A D R h
  simp only [dS] at h
  refine he F H s σ A _ R ?_
  revert h
  cases dE e s with
  | ok o s1 =>
    intro h v F1 H1 A1 B p
    dsimp only at h
    cases e2 : asgT t o s1 with
    | none => rw [e2] at h; exact h.elim
    | some s2 =>
      rw [e2] at h
      exact hg F1 H1 s1 s2 σ A1 o v B _ p.rep p.tr p.by_ p.nd e2 fun F2 H2 σ2 A2 r => h F2 H2 σ2 A2 ⟨r.rep, p.ex.trans r.ex, r.kp⟩
  | bw o s1 => exact fun h => h.elim
  | ex x s1 => exact fun h c d F' H' A' p => h c d F' H' σ A' p.spo p.xr
  | no => exact fun h => h
theorem ss_aug {as : List Nat} {te : TE} {e : CE} {i : Nat} (hi : i ∈ as) (he : SE W E (quiet e) te (dE e)) : SS W E as (tAug i te (ipI fun i j => i + j)) (dS (.aug i e)) := by
  intro F H s σ A D R h
  simp only [dS] at h
  split at h
  · rename_i a ea
    obtain ⟨v, hv, t⟩ := R.slot i _ ea
    have hva : v = .int a := fz_int t rfl
    refine ⟨v, hv, he F H s σ A _ R ?_⟩
    revert h
    cases dE e s with
    | ok o s1 =>
      intro h u F1 H1 A1 B p
      cases o with
      | fr d =>
        cases d with
        | int b =>
          have hu : u = .int b := fz_int p.tr rfl
          refine ⟨a, b, hva, hu, h F1 H1 _ (fun j => if j = i then [] else A1 j) ⟨p.rep.set tr_int .nil (fun _ h => by cases h) (fun _ h => by cases h), ?_, fun j hj => ?_⟩⟩
          · refine (p.ex.less fun _ z => .inl z : Ex F H (Ow A) F1 H1 (Ow A1)).less fun c z => ?_
            rcases ow_put z with y | y
            · exact y
            · cases y
          · rw [List.getElem?_set_ne (fun z : i = j => hj (z ▸ hi))]
        | _ => exact h.elim
      | _ => exact h.elim
    | bw o s1 => exact fun h => h.elim
    | ex x s1 => exact fun h c d F' H' A' p => h c d F' H' σ A' p.spo p.xr
    | no => exact fun h => h
  · exact h.elim

noncomputable def SGd (W : Wd) (as : List Nat) (g : TG) (t : CT) : Prop := ∀ (F H : Hp) (s s' : Sl) (σ : L2.St) (A : Nat → List Addr) (d : D) (v : V) (Q : L2.St → Hp → Prop), Rep W F H s σ A → IsV W F d v → bindD t d s = some s' →
  (∀ F' H' σ' A', SPo W as F H A σ s' F' H' σ' A' → Q σ' H') → g v σ H Q
theorem sgd_v {as : List Nat} {i : Nat} (hi : i ∈ as) : SGd W as (gName i) (.v i) := by
  intro F H s s' σ A d v Q R iv e q
  simp only [bindD, Option.some.injEq] at e
  subst e
  refine q F H _ _ ⟨R.set (tr_fr iv) .nil (fun _ h => by cases h) (fun _ h => by cases h), Ex.refl.less fun c z => ?_, fun j hj => ?_⟩
  · rcases ow_put z with y | y
    · exact y
    · cases y
  · rw [List.getElem?_set_ne (fun z : i = j => hj (z ▸ hi))]
theorem sgd_tup {as : List Nat} {is : List Nat} (hi : ∀ i ∈ is, i ∈ as) : SGd W as (gTup W.K is.length (is.foldr (fun i g => gCons (gName i) g) gNil)) (.tup is) := by
  intro F H s s' σ A d v Q R iv e q
  simp only [bindD] at e
  split at e
  · rename_i ds
    have hl := setN_len e
    rw [List.length_map] at hl
    simp only [IsV] at iv
    obtain ⟨p, vs, ev, h1, h2⟩ := iv
    refine ⟨p, vs, ev, SqT.of (R.fh _ _ h1), by rw [h2.len, hl], ?_⟩
    exact sgts hi F H s s' σ A _ vs [] Q R (trL_fr h2) ⟨(fun _ h => by cases h), (fun _ h => by cases h), (fun _ h => by cases h)⟩ .nil e fun F' H' σ' A' p => q F' H' σ' A' ⟨p.rep, p.ex.more fun c z => z.elim id (fun y => by cases y), p.kp⟩
  · cases e
theorem ss_loop {as : List Nat} {wi : TI} {g : TG} {tb : TS} {t : CT} {k : IK} {its : List CE} {b : List CS} (hi : SI W E wi (fun s => (dEs its s).it k)) (hg : SGd W as g t) (hb : SS W E as tb (dSs b)) : SS W E as (tFor wi g tb) (dS (.loop t k its b)) := by
  intro F H s σ A D R h
  simp only [dS] at h
  refine hi F H s σ A _ R ?_
  dsimp only
  revert h
  cases (dEs its s).it k with
  | ok ds s1 =>
    intro h J F1 H1 A1 R1 x1 io
    have h : PoS W E as F H A σ D (forLoop (bindD t) (dSs b) ds s1) := h
    have p0 : SPo W as F H A σ s1 F1 H1 σ A1 := ⟨R1, x1, fun _ _ => rfl⟩
    refine ⟨fun i m σ' H' => m = ds.length - i ∧ i ≤ ds.length ∧ ∃ F' s' A', SPo W as F H A σ s' F' H' σ' A' ∧ Same F1 F' ∧ PoS W E as F H A σ D (forLoop (bindD t) (dSs b) (ds.drop i) s'), ⟨ds.length, by omega, Nat.zero_le _, F1, s1, A1, p0, fun _ _ h => h, by simpa using h⟩, fun i m σ' H' hI => ?_⟩
    obtain ⟨rfl, hle, F', s', A', p, gF, hp⟩ := hI
    by_cases hlt : i < ds.length
    · refine .inr ⟨io.go i H' hlt (gF.trans p.rep.fh), fun σ2 H2 => ∃ F2 s2 A2, SPo W as F H A σ s2 F2 H2 σ2 A2 ∧ Same F1 F2 ∧ PoS W E as F H A σ D (forLoop (bindD t) (dSs b) (ds.drop (i + 1)) s2), fun σ2 H2 hN => ⟨ds.length - (i + 1), by omega, rfl, by omega, hN⟩, fun x H2 y => ?_⟩
      obtain ⟨d, ed, hd⟩ := io.yld i H' x H2 hlt (gF.trans p.rep.fh) y
      obtain ⟨F2, al, iv⟩ := hd F' gF p.rep.fh
      have edr : ds.drop i = d :: ds.drop (i + 1) := by
        rw [List.drop_eq_getElem_cons hlt]
        rw [List.getElem?_eq_getElem hlt] at ed
        cases ed
        rfl
      rw [edr] at hp
      simp only [forLoop] at hp
      have p2 : SPo W as F H A σ s' F2 H2 σ' A' := ⟨al.rep p.rep, p.ex.trans (al.ex.less fun _ z => .inl z), p.kp⟩
      cases es1 : bindD t d s' with
      | none => rw [es1] at hp; exact hp.elim
      | some s2 =>
        rw [es1] at hp
        dsimp only at hp
        refine hg F2 H2 s' s2 σ' A' d x _ p2.rep iv es1 fun F3 H3 σ3 A3 p3 => ?_
        have p13 := p2.trans p3
        have g3 : Same F1 F3 := (gF.trans al.sF).trans p3.ex.sF
        refine hb F3 H3 s2 σ3 A3 _ p3.rep ?_
        revert hp
        cases dSs b s2 with
        | nx s4 => exact fun hp F4 H4 σ4 A4 p4 => ⟨F4, s4, A4, p13.trans p4, g3.trans p4.ex.sF, hp⟩
        | ct s4 => exact fun hp F4 H4 σ4 A4 p4 => ⟨F4, s4, A4, p13.trans p4, g3.trans p4.ex.sF, hp⟩
        | bk s4 => exact fun hp F4 H4 σ4 A4 p4 => hp F4 H4 σ4 A4 (p13.trans p4)
        | rt o s4 => exact fun hp => PoS.chain (D := D) (r := .rt o s4) p13 hp
        | ex x s4 => exact fun hp => PoS.chain (D := D) (r := .ex x s4) p13 hp
        | no => exact fun hp => hp
    · have hie : i = ds.length := by omega
      subst hie
      rw [List.drop_length] at hp
      simp only [forLoop] at hp
      exact .inl ⟨io.stop H' (gF.trans p.rep.fh), hp F' H' σ' A' p⟩
  | ex x s1 => exact fun h c d F' H' A' p => h c d F' H' σ A' p.spo p.xr
  | no => exact fun h => h
theorem ss_whl {as : List Nat} {tc : TT} {tb : TS} {n : Nat} {c : CE} {b : List CS} (hc : ST W E false tc (dE c)) (hb : SS W E as tb (dSs b)) : SS W E as (tWhile tc tb) (dS (.whl n c b)) := by
  intro F H s σ A D R h
  simp only [dS] at h
  refine ⟨fun m σ' H' => ∃ F' s' A', SPo W as F H A σ s' F' H' σ' A' ∧ PoS W E as F H A σ D (whLoop (dE c) (dSs b) m s'), ⟨n, F, s, A, SPo.refl R, h⟩, fun m σ' H' hI => ?_⟩
  obtain ⟨F', s', A', p, hp⟩ := hI
  cases m with
  | zero => exact hp.elim
  | succ m =>
    simp only [whLoop] at hp
    refine hc F' H' s' σ' A' _ p.rep ?_
    revert hp
    cases dE c s' with
    | ok o s1 =>
      intro hp v F1 H1 A1 B p1
      have p11 := p.trans (p1.spo (as := as))
      cases o with
      | fr d =>
        cases d with
        | bl k =>
          refine ⟨k, fz_bl p1.tr rfl, ?_⟩
          cases k with
          | true =>
            rw [if_pos rfl]
            dsimp only at hp
            refine ⟨fun σ2 H2 => ∃ F2 s2 A2, SPo W as F H A σ s2 F2 H2 σ2 A2 ∧ PoS W E as F H A σ D (whLoop (dE c) (dSs b) m s2), fun σ2 H2 hN => ⟨m, by omega, hN⟩, hb F1 H1 s1 σ' A1 _ p1.rep ?_⟩
            revert hp
            cases dSs b s1 with
            | nx s4 => exact fun hp F4 H4 σ4 A4 p4 => ⟨F4, s4, A4, p11.trans p4, hp⟩
            | ct s4 => exact fun hp F4 H4 σ4 A4 p4 => ⟨F4, s4, A4, p11.trans p4, hp⟩
            | bk s4 => exact fun hp F4 H4 σ4 A4 p4 => hp F4 H4 σ4 A4 (p11.trans p4)
            | rt o s4 => exact fun hp => PoS.chain (D := D) (r := .rt o s4) p11 hp
            | ex x s4 => exact fun hp => PoS.chain (D := D) (r := .ex x s4) p11 hp
            | no => exact fun hp => hp
          | false =>
            rw [if_neg (by decide)]
            dsimp only at hp
            exact hp F1 H1 σ' A1 p11
        | _ => exact hp.elim
      | _ => exact hp.elim
    | bw o s1 => exact fun hp => hp.elim
    | ex x s1 => exact fun hp c d F2 H2 A2 p2 => hp c d F2 H2 σ' A2 (p.trans p2.spo) p2.xr
    | no => exact fun hp => hp
end L3

set_option Elab.async false
set_option linter.all false
set_option maxRecDepth 100000
namespace L3
open PySem L2 PySem.Spec PyProof.Rows

noncomputable def star : Expr → Bool
  | .Starred _ _ => true
  | _ => false
noncomputable def noSt (es : List Expr) : Bool := es.all fun e => !star e
theorem star_cons {e : Expr} {es : List Expr} {env : Env} (h : star e = false) : starEach (e :: es) env = (false, eval e env) :: starEach es env := by
  cases e <;> first | rfl | cases h
theorem star_any : ∀ {es : List Expr} {env : Env} {pos : Pos}, noSt es = true → (backTo pos (starEach es env)).any (·.1) = false
  | [], env, pos, _ => rfl
  | e :: es, env, pos, h => by
    unfold noSt at h
    rw [List.all_cons, Bool.and_eq_true] at h
    rw [star_cons (by simpa using h.1)]
    have := star_any (es := es) (env := env) (pos := pos) h.2
    simp only [backTo, List.map_cons, List.any_cons, Bool.false_or] at this ⊢
    exact this
theorem star_all : ∀ {es : List Expr} {env : Env} {pos : Pos}, noSt es = true → (backTo pos (starEach es env)).all (fun x => !x.1) = true
  | [], env, pos, _ => rfl
  | e :: es, env, pos, h => by
    unfold noSt at h
    rw [List.all_cons, Bool.and_eq_true] at h
    rw [star_cons (by simpa using h.1)]
    have := star_all (es := es) (env := env) (pos := pos) h.2
    simp only [backTo, List.map_cons, List.all_cons, Bool.not_false, Bool.true_and] at this ⊢
    exact this
theorem few_ok {es : List Expr} {env : Env} {pos : Pos} (h : noSt es = true) (hl : es.length < 30) : ((backTo pos (starEach es env)).all (fun x => !x.1) && (backToKw pos (keywordEach [] env)).all (fun x => x.1.isSome)
      && decide (es.length + ([] : List Keyword).length + (if ([] : List Keyword).isEmpty then 0 else 1) < 30)) = true := by
  rw [star_all h]
  simp only [Bool.true_and, Bool.and_eq_true, decide_eq_true_eq]
  exact ⟨rfl, by simpa using hl⟩
noncomputable def plainIx : Expr → Bool
  | .Slice _ _ _ _ => false
  | _ => true
theorem plain_ix {e : Expr} (h : plainIx e = true) : PlainIx e := by
  intro o i
  cases e <;> first | rfl | cases h
theorem star_not {e : Expr} {es : List Expr} (h : noSt (e :: es) = true) : star e = false ∧ noSt es = true := by
  unfold noSt at h
  rw [List.all_cons, Bool.and_eq_true] at h
  exact ⟨by simpa using h.1, h.2⟩
noncomputable def plainBase : Expr → Bool
  | .Call (.Name _ _) [] [] _ => false
  | _ => true
theorem plain_base {o : Expr} {nm : Str} {env : Env} {wh : Sem Value} (h : plainBase o = true) : attributeBase o nm env wh = wh := by
  unfold attributeBase
  split
  · cases h
  · rfl
noncomputable def plainT : Expr → Bool
  | .Name _ _ => true
  | .Call _ _ _ _ => true
  | .Subscript _ _ _ => true
  | .Attribute _ _ _ => true
  | .ListComp _ _ _ _ => true
  | .BinOp _ _ _ _ => true
  | _ => false
theorem plain_t {e : Expr} {env : Env} (h : plainT e = true) : ∀ whole, isTrue e env whole = (do let v ← whole; standAt e.pos; holding [v] (truthy v)) := by
  intro wh
  cases e <;> first | rfl | cases h
noncomputable def noSet : Expr → Bool
  | .Set _ _ _ => false
  | _ => true
theorem no_set {e : Expr} {env : Env} (h : noSet e = true) : ∀ x, foldedSetIterable e env x = pure x := by
  intro x
  cases e <;> first | rfl | cases h
noncomputable def noComp : Expr → Bool
  | .ListComp _ _ _ _ => false
  | .SetComp _ _ _ _ => false
  | .DictComp _ _ _ _ _ => false
  | _ => true
theorem no_swap {e : Expr} {tg : Option Expr} {l : Nat} {env : Env} (h : noComp e = true) : swapsWith e tg l env = pure false := by
  cases e <;> first | rfl | cases h
noncomputable def noTup : Expr → Bool
  | .Tuple _ _ _ => false
  | _ => true
noncomputable def noTL : Expr → Bool
  | .Tuple _ _ _ => false
  | .List _ _ => false
  | _ => true
theorem no_stores {tg e : Expr} {env : Env} (h : (noTL tg || noTup e) = true) : swappedStores [tg] e env = pure none := by
  cases tg <;> first | (cases e <;> first | rfl | cases h) | skip
theorem one_target {tg : Expr} {env : Env} (h : star tg = false) : (assignEach [tg] env).map (·.2) = [assign tg env] := by
  cases tg <;> first | rfl | cases h
end L3

set_option Elab.async false
set_option linter.all false
set_option maxRecDepth 100000
namespace L3
open PySem L2 PySem.Spec PyProof.Rows

noncomputable def okN (x : Str) : Bool := !(x == ("__debug__" : Str)) && !(x == ("__classdict__" : Str))
noncomputable def vis (sc : Scope) (x : Str) : Bool := decide (sc.names.lookup x = some .local) || decide (sc.names.lookup x = some .cell) || decide (sc.names.lookup x = some .free)
noncomputable def glb (sc : Scope) (x : Str) : Bool := decide (sc.names.lookup x = some .globalImplicit) && okN x
noncomputable def chkC : D → Const → Bool
  | .non, .none => true
  | .bl b, .bool c => b == c
  | .int i, .int j => i == j
  | .str t, .str x => decide (x = S t) && decide (t.length ≤ 16777216)
  | _, _ => false
noncomputable def muN : MU → Str
  | .append => "append"
  | .extend => "extend"
  | .pop => "pop"
  | .clear => "clear"
noncomputable def muA : MU → Nat
  | .append => 1
  | .extend => 1
  | .pop => 0
  | .clear => 0
noncomputable def lcSc (N : List Str) (sc scope : Scope) (x : Str) : Bool :=
  decide (x ∉ N) && decide (N.Nodup) && decide (scope.kind = .function) && decide (∀ y ∈ scope.names, y.2 ≠ .cell) && decide (∀ y ∈ scope.names, y.2 = .local → scope.names.lookup y.1 = some .local) && decide (scope.names.lookup x = some .local)
    && decide (∀ y ∈ scope.names, y.2 = .free → sc.names.lookup y.1 = some .cell) && decide (∀ y ∈ N, scope.names.lookup y ≠ some .local)

noncomputable def relS (scope sc : Scope) : Scope := { kind := scope.kind, names := scope.names.map fun x => match x with
  | (n, k) => if (k == NameKind.free && sc.kind == ScopeKind.function && sc.names.lookup n == some NameKind.cell) = true then (n, NameKind.cell) else (n, k), isGenerator := scope.isGenerator, isCoroutine := scope.isCoroutine, more := scope.more }
mutual
noncomputable def chkE (N : List Str) (sc : Scope) (cm : Bool) : CE → Expr → Bool
  | .v i, e => match e with
    | .Name x _ => decide (N[i]? = some x) && vis sc x && okN x
    | _ => false
  | .b i, e => match e with
    | .Name x _ => decide (N[i]? = some x) && vis sc x && okN x
    | _ => false
  | .m i, e => match e with
    | .Name x _ => decide (N[i]? = some x) && vis sc x && okN x
    | _ => false
  | .c d, e => match e with
    | .Constant k _ _ => chkC d k
    | _ => false
  | .g x _, e => match e with
    | .Name y _ => decide (x = y) && glb sc y
    | _ => false
  | .bin op a b, e => match e with
    | .BinOp ea o eb _ => decide (o = binC op) && chkE N sc cm a ea && chkE N sc cm b eb
    | _ => false
  | .cmp op a b, e => match e with
    | .Compare ea [o] [eb] _ => decide (o = cmpC op) && !behindInMarks o eb && chkE N sc cm a ea && chkE N sc cm b eb
    | _ => false
  | .chn o1 o2 a b c, e => match e with
    | .Compare ea [p1, p2] [eb, ec] _ => decide (p1 = cmpC o1) && decide (p2 = cmpC o2) && !lastMarks [p1, p2] [eb, ec] && chkE N sc cm a ea && chkE N sc cm b eb && chkE N sc cm c ec
    | _ => false
  | .not a, e => match e with
    | .UnaryOp o ea _ => decide (o = .Not) && chkE N sc cm a ea
    | _ => false
  | .ife t a b, e => match e with
    | .IfExp et ea eb _ => chkT N sc cm t et && chkE N sc cm a ea && chkE N sc cm b eb
    | _ => false
  | .lst es, e => match e with
    | .List es' _ => noSt es' && chkEs N sc cm es es'
    | _ => false
  | .lsd es, e => match e with
    | .List es' _ => noSt es' && chkEs N sc cm es es'
    | _ => false
  | .tup es, e => match e with
    | .Tuple es' _ _ => noSt es' && chkEs N sc cm es es'
    | _ => false
  | .dsp es, e => match e with
    | .Dict ks vs _ => decide (ks ≠ []) && decide (ks.length ≤ 15) && decide (ks.length = vs.length) && chkP N sc cm es ks vs
    | _ => false
  | .ix a i, e => match e with
    | .Subscript ea ei _ => plainIx ei && chkE N sc cm a ea && chkE N sc cm i ei
    | _ => false
  | .sl a lo hi, e => match e with
    | .Subscript ea (.Slice l h none _) _ => chkE N sc cm a ea && chkO N sc cm lo l && chkO N sc cm hi h
    | _ => false
  | .rev a, e => match e with
    | .Subscript ea (.Slice none none (some (.UnaryOp o (.Constant k _ _) _)) _) _ => decide (o = .USub) && chkC (.int 1) k && chkE N sc cm a ea
    | _ => false
  | .call x _ _ es, e => match e with
    | .Call (.Name y _) es' [] _ => decide (x = y) && glb sc y && noSt es' && chkEs N sc cm es es'
    | _ => false
  | .callB x _ es, e => match e with
    | .Call (.Name y _) es' [] _ => decide (x = y) && glb sc y && noSt es' && chkEs N sc cm es es'
    | _ => false
  | .b1 b a, e => match e with
    | .Call (.Name y _) [ea] [] _ => decide (y = b1N b) && glb sc y && cm && !star ea && chkE N sc cm a ea
    | _ => false
  | .b2 b a c, e => match e with
    | .Call (.Name y _) [ea, ec] [] _ => decide (y = b2N b) && glb sc y && cm && !star ea && !star ec && chkE N sc cm a ea && chkE N sc cm c ec
    | _ => false
  | .isi a k, e => match e with
    | .Call (.Name y _) [ea, .Name z _] [] _ => decide (y = ("isinstance" : Str)) && glb sc y && !star ea && chkE N sc cm a ea && glb sc z && (match k with
      | .str => decide (z = ("str" : Str))
      | .int => decide (z = ("int" : Str))
      | .bool => decide (z = ("bool" : Str))
      | .list => decide (z = ("list" : Str))
      | .tuple => decide (z = ("tuple" : Str))
      | _ => false)
    | _ => false
  | .get2 o a d, e => match e with
    | .Call (.Attribute eo nm apos) [ea, ed] [] cpos => decide (nm = ("get" : Str)) && plainBase eo && (apos.endLine == cpos.line) && !star ea && !star ed && chkE N sc cm o eo && chkE N sc cm a ea && chkE N sc cm d ed
    | _ => false
  | .mu m p es, e => match e with
    | .Call (.Attribute ep nm apos) es' [] cpos => decide (nm = muN m) && plainBase ep && (apos.endLine == cpos.line) && noSt es' && decide (es'.length = muA m) && chkE N sc cm p ep && chkEs N sc cm es es'
    | _ => false
  | .lc elt n k its ifs, e => match e with
    | .ListComp ee [⟨.Name x _, iter, eifs, 0⟩] scope _ => decide (n = 1) && cm && lcSc N sc scope x && noSet iter && chkI N sc cm k its iter && chkE (x :: N) (relS scope sc) cm elt ee && decide (eifs.length ≤ 1) && chkTs (x :: N) (relS scope sc) cm ifs eifs
    | _ => false
  | _, _ => false
noncomputable def chkEs (N : List Str) (sc : Scope) (cm : Bool) : List CE → List Expr → Bool
  | [], es => es.isEmpty
  | c :: cs, es => match es with
    | e :: es => chkE N sc cm c e && chkEs N sc cm cs es
    | _ => false
noncomputable def chkT (N : List Str) (sc : Scope) (cm : Bool) : CE → Expr → Bool
  | .t a, e => (match e with
    | .Compare _ [_] [_] _ => (match a with
      | .cmp _ _ _ => true
      | _ => false)
    | .Compare _ [_, _] [_, _] _ => (match a with
      | .chn _ _ _ _ _ => true
      | _ => false)
    | e => plainT e) && chkE N sc cm a e
  | .tn a, e => match e with
    | .UnaryOp o ea _ => decide (o = .Not) && chkT N sc cm a ea
    | _ => false
  | .tb k es, e => match e with
    | .BoolOp o es' _ => decide (o = if k then .And else .Or) && chkTs N sc cm es es' && !es.isEmpty
    | _ => false
  | _, _ => false
noncomputable def chkTs (N : List Str) (sc : Scope) (cm : Bool) : List CE → List Expr → Bool
  | [], es => es.isEmpty
  | c :: cs, es => match es with
    | e :: es => chkT N sc cm c e && chkTs N sc cm cs es
    | _ => false
noncomputable def chkO (N : List Str) (sc : Scope) (cm : Bool) : List CE → Option Expr → Bool
  | [], o => o.isNone
  | c :: cs, o => match o with
    | some e => cs.isEmpty && chkE N sc cm c e
    | none => false
noncomputable def chkP (N : List Str) (sc : Scope) (cm : Bool) : List CE → List (Option Expr) → List Expr → Bool
  | [], ks, vs => ks.isEmpty && vs.isEmpty
  | [_], _, _ => false
  | k :: c :: cs, ks, vs => match ks, vs with
    | some ek :: ks, ev :: vs => chkE N sc cm k ek && chkE N sc cm c ev && chkP N sc cm cs ks vs
    | _, _ => false
noncomputable def chkI (N : List Str) (sc : Scope) (cm : Bool) (k : IK) : List CE → Expr → Bool
  | [], _ => false
  | c :: cs, e => match k with
    | .seq => cs.isEmpty && chkE N sc cm c e
    | .rng => match e with
      | .Call (.Name y _) es' [] _ => decide (y = ("range" : Str)) && glb sc y && noSt es' && decide (es'.length ≤ 2) && (match es' with
        | e1 :: es1 => chkE N sc cm c e1 && chkEs N sc cm cs es1
        | [] => false)
      | _ => false
    | _ => false
end

structure Env3 where
  F : Str → List Bool → Nat → Fn → Prop
  G : Str → D → Prop
  B : Str → Prop
mutual
noncomputable def Need (Γ : Env3) : CE → Prop
  | .v _ => True
  | .b _ => True
  | .m _ => True
  | .c _ => True
  | .g x d => Γ.G x d
  | .bin _ a b => Need Γ a ∧ Need Γ b
  | .cmp _ a b => Need Γ a ∧ Need Γ b
  | .chn _ _ a b c => Need Γ a ∧ Need Γ b ∧ Need Γ c
  | .not a => Need Γ a
  | .t a => Need Γ a
  | .tn a => Need Γ a
  | .tb _ es => Needs Γ es
  | .ife t a b => Need Γ t ∧ Need Γ a ∧ Need Γ b
  | .lst es => Needs Γ es
  | .lsd es => Needs Γ es
  | .tup es => Needs Γ es
  | .dsp es => Needs Γ es
  | .ix a b => Need Γ a ∧ Need Γ b
  | .sl a lo hi => Need Γ a ∧ Needs Γ lo ∧ Needs Γ hi
  | .rev a => Need Γ a
  | .call x mk f es => Γ.F x mk es.length f ∧ Needs Γ es
  | .callB x f es => Γ.F x [] es.length f ∧ Needs Γ es
  | .b1 b a => Γ.B (b1N b) ∧ Need Γ a
  | .b2 b a c => Γ.B (b2N b) ∧ Need Γ a ∧ Need Γ c
  | .isi a k => Γ.B "isinstance" ∧ (match k with
      | .str => Γ.B "str"
      | .int => Γ.B "int"
      | .bool => Γ.B "bool"
      | .list => Γ.B "list"
      | .tuple => Γ.B "tuple"
      | _ => False) ∧ Need Γ a
  | .get2 a b c => Need Γ a ∧ Need Γ b ∧ Need Γ c
  | .mu _ p es => Need Γ p ∧ Needs Γ es
  | .lc elt _ k its ifs => Need Γ elt ∧ (k = .rng → Γ.B "range") ∧ Needs Γ its ∧ Needs Γ ifs
noncomputable def Needs (Γ : Env3) : List CE → Prop
  | [] => True
  | e :: es => Need Γ e ∧ Needs Γ es
end
end L3

set_option Elab.async false
set_option linter.all false
set_option maxRecDepth 100000
namespace L3
open PySem L2 PySem.Spec PyProof.Rows
variable {W : Wd} {E : XS} {Γ : Env3} {mg : Str → Option Value}

structure SameG (X X' : Cx) : Prop where
  prog : X'.prog = X.prog
  w : X'.w = X.w
  K : X'.K = X.K
  mg : X'.mg = X.mg
  base : X'.base = X.base
  A : X'.A = X.A
noncomputable def CallOk (W : Wd) (X : Cx) (E : XS) (x : Str) (mk : List Bool) (n : Nat) (f : Fn) : Prop := ∀ (es : List Expr) (t : TA) (p pos : Pos), PA X es t → noSt es = true → es.length = n → Gl X x → okN x = true → (es = [] → t = tNil) → PE X (.Call (.Name x p) es [] pos) (tCallX (SpM W mk n f) E t)
structure Ctx (W : Wd) (mg : Str → Option Value) (X : Cx) (N : List Str) (sc : Scope) (cm : Bool) (E : XS) (Γ : Env3) : Prop where
  hK : X.K = W.K
  hN : X.N = N
  nd : N.Nodup
  hs : X.env.scope = sc
  hc : X.calm = cm
  hu : X.A.units + 64 < cLine
  call : ∀ x mk n f, Γ.F x mk n f → CallOk W X E x mk n f
  callN : ∀ x mk n f, Γ.F x mk n f → ∀ X', SameG X X' → CallOk W X' (fun _ _ _ _ => False) x mk n f
  hmg : X.mg = mg
  blt : ∀ x, Γ.B x → X.mg x = none

noncomputable def GOk (W : Wd) (mg : Str → Option Value) (Γ : Env3) : Prop := ∀ x d, Γ.G x d → ∃ v, (∀ F, IsV W F d v) ∧ ∃ u, mg x = some u ∧ RelV v u
theorem okN_d {x : Str} (h : okN x = true) : (x == ("__debug__" : Str)) = false ∧ (x == ("__classdict__" : Str)) = false := by
  unfold okN at h
  simp only [Bool.and_eq_true, Bool.not_eq_true'] at h
  exact h
theorem Ctx.gl {X : Cx} {N : List Str} {sc : Scope} {cm : Bool} (C : Ctx W mg X N sc cm E Γ) {x : Str} (h : glb sc x = true) : Gl X x ∧ okN x = true := by
  unfold glb at h
  rw [Bool.and_eq_true, decide_eq_true_eq] at h
  refine ⟨?_, h.2⟩
  show X.env.scope.names.lookup x = _
  rw [C.hs]; exact h.1
theorem Ctx.var {X : Cx} {N : List Str} {sc : Scope} {cm : Bool} (C : Ctx W mg X N sc cm E Γ) {x : Str} {i : Nat} {pos : Pos} (h : (decide (N[i]? = some x) && vis sc x && okN x) = true) : PE X (.Name x pos) (tVar i) := by
  rw [Bool.and_eq_true, Bool.and_eq_true, decide_eq_true_eq] at h
  obtain ⟨⟨h1, h2⟩, h3⟩ := h
  obtain ⟨d1, d2⟩ := okN_d h3
  refine pv i (by rw [C.hN]; exact h1) ?_ d1 d2
  rw [C.hs]
  unfold vis at h2
  simp only [Bool.or_eq_true, decide_eq_true_eq] at h2
  rcases h2 with (z | z) | z
  · exact .inl z
  · exact .inr (.inl z)
  · exact .inr (.inr z)

theorem Ctx.blk {X : Cx} {N : List Str} {sc scope : Scope} {x : Str} (C : Ctx W mg X N sc true E Γ) (h : lcSc N sc scope x = true) (cl : List (Str × Addr)) (Ca : Addr) (s3 : Shared) (H3 : Hp) (fp : List Addr) : Ctx W mg (L2.blk X x scope cl Ca s3 H3 fp) (x :: N) (relS scope sc) true (fun _ _ _ _ => False) Γ := by
  unfold lcSc at h
  simp only [Bool.and_eq_true, decide_eq_true_eq] at h
  refine ⟨C.hK, by show x :: X.N = _; rw [C.hN], List.nodup_cons.mpr ⟨h.1.1.1.1.1.1.1, C.nd⟩, by rw [← C.hs]; rfl, C.hc, C.hu, fun y mk n f hf => C.callN y mk n f hf _ ⟨rfl, rfl, rfl, rfl, rfl, rfl⟩, fun y mk n f hf X' g => C.callN y mk n f hf X' ⟨g.prog, g.w, g.K, g.mg, g.base, g.A⟩, C.hmg, C.blt⟩
theorem Ctx.lcScope {X : Cx} {N : List Str} {sc scope : Scope} {x : Str} (C : Ctx W mg X N sc true E Γ) (h : lcSc N sc scope x = true) : LcScope X x scope := by
  unfold lcSc at h
  simp only [Bool.and_eq_true, decide_eq_true_eq] at h
  obtain ⟨⟨⟨⟨⟨⟨⟨h1, h2⟩, h3⟩, h4⟩, h5⟩, h6⟩, h7⟩, h8⟩ := h
  exact lcs (N := N) (sc := sc) C.hN C.hs C.hc ⟨h1, h2, h3, h4, h5, h6, h7, h8⟩
theorem con_is {d : D} {k : Const} {j : Nat} {pos : Pos} (h : chkC d k = true) : ∃ v, (∀ X, PE X (.Constant k j pos) (tC v)) ∧ ∀ F, IsV W F d v := by
  cases d <;> cases k <;> simp only [chkC, reduceCtorEq, Bool.false_eq_true] at h
  · exact ⟨.non, fun X => pe_non, fun F => by simp only [IsV]⟩
  · rename_i b c
    have : b = c := by simpa using h
    subst this
    exact ⟨.bl b, fun X => pe_bl, fun F => by simp only [IsV]⟩
  · rename_i i j
    have : i = j := by simpa using h
    subst this
    exact ⟨.int i, fun X => pe_int, fun F => by simp only [IsV]⟩
  · rename_i t x
    rw [Bool.and_eq_true, decide_eq_true_eq, decide_eq_true_eq] at h
    exact ⟨.str (S t), fun X => pe_S h.1, fun F => by unfold IsV; exact ⟨rfl, h.2⟩⟩
theorem spa_no {t : TE} {c : CE} (h : ∀ s, pathOf c s = none) : SPa W t c := by
  intro F H s σ A Q i st R e
  rw [h s] at e; cases e
theorem PO.imp {X : Cx} {e : Option Expr} {t t' : TO} (h : PO X e t) (k : ∀ σ H Q, t' σ H Q → t σ H Q) : PO X e t' := fun pins s σ H Q I q => h pins s σ H Q I (k σ H Q q)
theorem pe_ty {X : Cx} {N : List Str} {sc : Scope} {cm : Bool} {k : TyK} {z : Str} {pos : Pos} (C : Ctx W mg X N sc cm E Γ) (hz : glb sc z = true) (hk : (match k with
      | .str => decide (z = ("str" : Str))
      | .int => decide (z = ("int" : Str))
      | .bool => decide (z = ("bool" : Str))
      | .list => decide (z = ("list" : Str))
      | .tuple => decide (z = ("tuple" : Str))
      | _ => false) = true) (hb : match k with
      | .str => Γ.B "str"
      | .int => Γ.B "int"
      | .bool => Γ.B "bool"
      | .list => Γ.B "list"
      | .tuple => Γ.B "tuple"
      | _ => False) : PE X (.Name z pos) (tC (.ty (tyN k))) := by
  obtain ⟨hg, hok⟩ := C.gl hz
  cases k <;> simp only [decide_eq_true_eq, Bool.false_eq_true] at hk <;> subst hk <;> simp only [tyN]
  · exact pe_blt (C.blt _ hb) bb_str rfl hg (by decide) (by decide)
  · exact pe_blt (C.blt _ hb) bb_int rfl hg (by decide) (by decide)
  · exact pe_blt (C.blt _ hb) bb_bool rfl hg (by decide) (by decide)
  · exact pe_blt (C.blt _ hb) bb_list rfl hg (by decide) (by decide)
  · exact pe_blt (C.blt _ hb) bb_tuple rfl hg (by decide) (by decide)
theorem pe_mu {X : Cx} {o : Expr} {es : List Expr} {to : TE} {ta : TA} {apos cpos : Pos} (m : MU) (hK : X.K = W.K) (ho : PE X o to) (ha : PA X es ta) (hb : plainBase o = true) (hl : (apos.endLine == cpos.line) = true) (hs : noSt es = true) (hn : es.length = muA m) (h0 : es = [] → ta = tNil) :
    PE X (.Call (.Attribute o (muN m) apos) es [] cpos) (fun σ H Q => to σ H fun x H1 => tyV W.K "list" x H1 ∧ ta σ H1 fun xs H2 => muR m x xs H2 Q) := by
  cases m
  · match es, hn, ha, hs with
    | [e], _, ha, hs => exact pe_bmK hK PySem.F.plainAttrs_list PySem.F.slot_list_append PySem.F.type_list_append mt_append ho ha (plain_base hb) (few_ok hs (by simp)) hl (star_cons (star_not hs).1) rfl
  · match es, hn, ha, hs with
    | [e], _, ha, hs => exact pe_bmK hK PySem.F.plainAttrs_list PySem.F.slot_list_extend PySem.F.type_list_extend mt_extend ho ha (plain_base hb) (few_ok hs (by simp)) hl (star_cons (star_not hs).1) rfl
  · match es, hn, ha, hs, h0 with
    | [], _, ha, hs, h0 =>
      have := h0 rfl
      subst this
      exact pe_bm0K hK PySem.F.plainAttrs_list PySem.F.slot_list_pop PySem.F.type_list_pop mt_pop ho (plain_base hb) hl
  · match es, hn, ha, hs, h0 with
    | [], _, ha, hs, h0 =>
      have := h0 rfl
      subst this
      exact pe_bm0K hK PySem.F.plainAttrs_list PySem.F.slot_list_clear PySem.F.type_list_clear mt_clear ho (plain_base hb) hl
end L3

set_option Elab.async false
set_option linter.all false
set_option maxRecDepth 100000
set_option maxHeartbeats 2000000
namespace L3
open PySem L2 PySem.Spec PyProof.Rows
variable {W : Wd} {Γ : Env3}
theorem dt_cmp {op : CO} {a b : CE} (s : Sl) : dE (.t (.cmp op a b)) s = dE (.cmp op a b) s := by
  simp only [dE]
  have ob : ∀ (o : Option Bool) (s : Sl), (Rv.ob o s).one (fun x s1 => .ob (truD x.fz) s1) = .ob o s := fun o s => by
    cases o with
    | none => rfl
    | some b => rfl
  unfold Rv.two
  cases dE a s with
  | ok x s1 =>
    dsimp only
    cases dE b s1 with
    | ok y s2 => exact ob _ _
    | bw y s2 => exact ob _ _
    | ex x s2 => rfl
    | no => rfl
  | bw x s1 =>
    dsimp only
    split
    · cases dE b s1 with
      | ok y s2 => exact ob _ _
      | bw y s2 => exact ob _ _
      | ex x s2 => rfl
      | no => rfl
    · rfl
  | ex x s1 => rfl
  | no => rfl
theorem dt_chn {o1 o2 : CO} {a b c : CE} (s : Sl) : dE (.t (.chn o1 o2 a b c)) s = dE (.chn o1 o2 a b c) s := by
  simp only [dE]
  have ob : ∀ (o : Option Bool) (s : Sl), (Rv.ob o s).one (fun x s1 => .ob (truD x.fz) s1) = .ob o s := fun o s => by
    cases o with
    | none => rfl
    | some b => rfl
  have key : ∀ (x y : O) (s2 : Sl), (match x, y with
    | .fr (.int _), .fr (.int _) => match cmpO o1 x y with
      | some true => (dE c s2).one fun z s3 => .ob (cmpO o2 y z) s3
      | some false => .ok (fb false) s2
      | none => .no
    | _, _ => Rv.no).one (fun x s1 => .ob (truD x.fz) s1) = (match x, y with
    | .fr (.int _), .fr (.int _) => match cmpO o1 x y with
      | some true => (dE c s2).one fun z s3 => .ob (cmpO o2 y z) s3
      | some false => .ok (fb false) s2
      | none => .no
    | _, _ => Rv.no) := fun x y s2 => by
    split
    · split
      · cases dE c s2 with
        | ok z s3 => exact ob _ _
        | bw z s3 => exact ob _ _
        | ex x s3 => rfl
        | no => rfl
      · rfl
      · rfl
    · rfl
  unfold Rv.two
  cases dE a s with
  | ok x s1 =>
    dsimp only
    cases dE b s1 with
    | ok y s2 => exact key x y s2
    | bw y s2 => exact key x y s2
    | ex x s2 => rfl
    | no => rfl
  | bw x s1 =>
    dsimp only
    split
    · cases dE b s1 with
      | ok y s2 => exact key x y s2
      | bw y s2 => exact key x y s2
      | ex x s2 => rfl
      | no => rfl
    · rfl
  | ex x s1 => rfl
  | no => rfl
noncomputable def isCmp : Expr → Bool
  | .Compare _ _ _ _ => true
  | _ => false

noncomputable def OkE (W : Wd) (mg : Str → Option Value) (N : List Str) (sc : Scope) (cm : Bool) (E : XS) (Γ : Env3) (c : CE) (e : Expr) : Prop := ∃ t, (∀ X, Ctx W mg X N sc cm E Γ → PE X e t) ∧ SE W E (quiet c) t (dE c) ∧ SPa W t c ∧ (∀ i, c = .b i → t = tVar i) ∧ ∀ X, Ctx W mg X N sc cm E Γ → isCmp e = true → PT X e (tTest t) ∧ ∀ s, dE (.t c) s = dE c s
noncomputable def OkT (W : Wd) (mg : Str → Option Value) (N : List Str) (sc : Scope) (cm : Bool) (E : XS) (Γ : Env3) (c : CE) (e : Expr) : Prop := ∃ t, (∀ X, Ctx W mg X N sc cm E Γ → PT X e t) ∧ ST W E false t (dE c)
noncomputable def OkA (W : Wd) (mg : Str → Option Value) (N : List Str) (sc : Scope) (cm : Bool) (E : XS) (Γ : Env3) (cs : List CE) (es : List Expr) : Prop := ∃ t, (∀ X, Ctx W mg X N sc cm E Γ → PA X es t) ∧ SA W E (quiets cs) t (dEs cs) ∧ (∀ mk, SG W E (qG mk cs) t mk cs) ∧ (es = [] → t = tNil) ∧ SQ W E t cs
theorem dt_of {e : Expr} (a : CE) (h0 : (match e with
    | .Compare _ [_] [_] _ => (match a with
      | .cmp _ _ _ => true
      | _ => false)
    | .Compare _ [_, _] [_, _] _ => (match a with
      | .chn _ _ _ _ _ => true
      | _ => false)
    | e => plainT e) = true) (hc : isCmp e = true) {s : Sl} : dE (.t a) s = dE a s := by
  split at h0
  · split at h0
    · exact dt_cmp s
    · cases h0
  · split at h0
    · exact dt_chn s
    · cases h0
  · cases e <;> first | (cases h0; done) | (cases hc; done)
section
variable {mg : Str → Option Value} {N : List Str} {sc : Scope} {cm : Bool} {E : XS}
theorem mkE {c : CE} {e : Expr} {t : TE} (h1 : ∀ X, Ctx W mg X N sc cm E Γ → PE X e t) (h2 : SE W E (quiet c) t (dE c)) (h3 : ∀ s, pathOf c s = none) (h4 : ∀ i, c ≠ .b i) (h5 : isCmp e = false := by rfl) : OkE W mg N sc cm E Γ c e := ⟨t, h1, h2, spa_no h3, fun i z => absurd z (h4 i), fun X C z => by rw [h5] at z; cases z⟩
end
theorem chk_len {N : List Str} {sc : Scope} {cm : Bool} : ∀ {cs : List CE} {es : List Expr}, chkEs N sc cm cs es = true → cs.length = es.length
  | [], es, h => by simp only [chkEs, List.isEmpty_iff] at h; subst h; rfl
  | c :: cs, es, h => by
    simp only [chkEs] at h
    split at h
    · rw [Bool.and_eq_true] at h
      rw [List.length_cons, List.length_cons, chk_len h.2]
    · cases h
theorem se_of {E : XS} {q : Bool} {t : TE} {m m' : Sl → Rv} (h : SE W E q t m) (e : ∀ s, m' s = m s) : SE W E q t m' := fun F H s σ A Q R p => h F H s σ A Q R (by rw [← e s]; exact p)
theorem se_con' {E : XS} {v : V} {c : CE} {d : D} (hq : quiet c = true) (hd : ∀ F, IsV W F d v) (e : ∀ s, dE c s = .ok (.fr d) s) : SE W E (quiet c) (tC v) (dE c) := by
  rw [hq]
  exact se_of (se_con hd) e
mutual
theorem soundE {mg : Str → Option Value} (G : GOk W mg Γ) (c : CE) (e : Expr) {N : List Str} {sc : Scope} {cm : Bool} {E : XS} (hh : chkE N sc cm c e = true) (nn : Need Γ c) : OkE W mg N sc cm E Γ c e := by
  match c, hh, nn with
  | .v i, h, _ =>
    simp only [chkE] at h
    split at h
    · exact mkE (fun X C => C.var h) (se_v i) (fun _ => by simp only [pathOf]) (fun _ z => by cases z)
    · cases h
  | .m i, h, _ =>
    simp only [chkE] at h
    split at h
    · exact mkE (fun X C => C.var h) (se_m i) (fun _ => by simp only [pathOf]) (fun _ z => by cases z)
    · cases h
  | .b i, h, _ =>
    simp only [chkE] at h
    split at h
    · exact ⟨_, fun X C => C.var h, se_b i, spa_b i, (fun j z => by cases z; rfl), fun X C z => by cases z⟩
    · cases h
  | .c d, h, _ =>
    simp only [chkE] at h
    split at h
    · obtain ⟨v, h1, h2⟩ := con_is (W := W) h
      exact mkE (fun X C => h1 X) (se_con' (by simp only [quiet]) h2 (fun s => by simp only [dE])) (fun _ => by simp only [pathOf]) (fun _ z => by cases z)
    · cases h
  | .g x d, h, n =>
    simp only [chkE] at h
    split at h
    · rename_i y pos
      rw [Bool.and_eq_true, decide_eq_true_eq] at h
      obtain ⟨rfl, h⟩ := h
      simp only [Need] at n
      obtain ⟨v, h2, h1⟩ := G x d n
      exact mkE (fun X C => pe_gl (by rw [C.hmg]; exact h1) (C.gl h).1 (okN_d (C.gl h).2).1) (se_con' (by simp only [quiet]) h2 (fun s => by simp only [dE])) (fun _ => by simp only [pathOf]) (fun _ z => by cases z)
    · cases h
  | .bin op a b, h, n =>
    simp only [chkE] at h
    simp only [Need] at n
    split at h
    · simp only [Bool.and_eq_true, decide_eq_true_eq] at h
      obtain ⟨⟨rfl, h1⟩, h2⟩ := h
      obtain ⟨ta, a1, a2, _⟩ := soundE (E := E) G a _ h1 n.1
      obtain ⟨tb, b1, b2, _⟩ := soundE (E := E) G b _ h2 n.2
      exact mkE (fun X C => pe_op (op_bin op) (a1 X C) (b1 X C)) (se_bin a2 b2) (fun _ => by simp only [pathOf]) (fun _ z => by cases z)
    · cases h
  | .cmp op a b, h, n =>
    simp only [chkE] at h
    simp only [Need] at n
    split at h
    · simp only [Bool.and_eq_true, decide_eq_true_eq, Bool.not_eq_true'] at h
      obtain ⟨⟨⟨rfl, hm⟩, h1⟩, h2⟩ := h
      obtain ⟨ta, a1, a2, _⟩ := soundE (E := E) G a _ h1 n.1
      obtain ⟨tb, b1, b2, _⟩ := soundE (E := E) G b _ h2 n.2
      exact ⟨_, fun X C => pe_cmpR (op_cmp C.hK C.hu op) (a1 X C) (b1 X C) hm, se_cmp a2 b2, spa_no (fun _ => by simp only [pathOf]), (fun _ z => by cases z), fun X C _ => ⟨pt_cmpR (op_cmp C.hK C.hu op) (a1 X C) (b1 X C) hm, dt_cmp⟩⟩
    · cases h
  | .chn o1 o2 a b c, h, n =>
    simp only [chkE] at h
    simp only [Need] at n
    split at h
    · simp only [Bool.and_eq_true, decide_eq_true_eq, Bool.not_eq_true'] at h
      obtain ⟨⟨⟨⟨⟨rfl, rfl⟩, hm⟩, h1⟩, h2⟩, h3⟩ := h
      obtain ⟨ta, a1, a2, _⟩ := soundE (E := E) G a _ h1 n.1
      obtain ⟨tb, b1, b2, _⟩ := soundE (E := E) G b _ h2 n.2.1
      obtain ⟨tc, c1, c2, _⟩ := soundE (E := E) G c _ h3 n.2.2
      exact ⟨_, fun X C => pe_chain (op_cmp C.hK C.hu o1) (op_cmp C.hK C.hu o2) (a1 X C) (b1 X C) (c1 X C) hm, se_chn a2 b2 c2, spa_no (fun _ => by simp only [pathOf]), (fun _ z => by cases z), fun X C _ => ⟨pt_chain (op_cmp C.hK C.hu o1) (op_cmp C.hK C.hu o2) (a1 X C) (b1 X C) (c1 X C) hm, dt_chn⟩⟩
    · cases h
  | .not a, h, n =>
    simp only [chkE] at h
    simp only [Need] at n
    split at h
    · simp only [Bool.and_eq_true, decide_eq_true_eq] at h
      obtain ⟨rfl, h1⟩ := h
      obtain ⟨ta, a1, a2, _⟩ := soundE (E := E) G a _ h1 n
      exact mkE (fun X C => pe_not (a1 X C)) (se_not a2) (fun _ => by simp only [pathOf]) (fun _ z => by cases z)
    · cases h
  | .t a, h, n => simp only [chkE, Bool.false_eq_true] at h
  | .tn a, h, n => simp only [chkE, Bool.false_eq_true] at h
  | .tb k es, h, n => simp only [chkE, Bool.false_eq_true] at h
  | .ife t a b, h, n =>
    simp only [chkE] at h
    simp only [Need] at n
    split at h
    · simp only [Bool.and_eq_true] at h
      obtain ⟨⟨h0, h1⟩, h2⟩ := h
      obtain ⟨tt, t1, t2⟩ := soundT (E := E) G t _ h0 n.1
      obtain ⟨ta, a1, a2, _⟩ := soundE (E := E) G a _ h1 n.2.1
      obtain ⟨tb, b1, b2, _⟩ := soundE (E := E) G b _ h2 n.2.2
      exact mkE (fun X C => pe_ifExp (t1 X C) (a1 X C) (b1 X C)) (se_ife t2 a2 b2) (fun _ => by simp only [pathOf]) (fun _ z => by cases z)
    · cases h
  | .lst es, h, n =>
    simp only [chkE] at h
    simp only [Need] at n
    split at h
    · simp only [Bool.and_eq_true] at h
      obtain ⟨t, p1, p2, _⟩ := soundEs (E := E) G es _ h.2 n h.1
      exact mkE (fun X C => pe_lst (p1 X C)) (se_lst p2) (fun _ => by simp only [pathOf]) (fun _ z => by cases z)
    · cases h
  | .lsd es, h, n =>
    simp only [chkE] at h
    simp only [Need] at n
    split at h
    · simp only [Bool.and_eq_true] at h
      obtain ⟨t, p1, p2, _⟩ := soundEs (E := E) G es _ h.2 n h.1
      exact mkE (fun X C => pe_lst (p1 X C)) (se_lsd p2) (fun _ => by simp only [pathOf]) (fun _ z => by cases z)
    · cases h
  | .tup es, h, n =>
    simp only [chkE] at h
    simp only [Need] at n
    split at h
    · simp only [Bool.and_eq_true] at h
      obtain ⟨t, p1, p2, _⟩ := soundEs (E := E) G es _ h.2 n h.1
      exact mkE (fun X C => pe_tup (p1 X C)) (se_tup p2) (fun _ => by simp only [pathOf]) (fun _ z => by cases z)
    · cases h
  | .dsp es, h, n =>
    simp only [chkE] at h
    simp only [Need] at n
    split at h
    · rename_i ks vs pos
      simp only [Bool.and_eq_true, decide_eq_true_eq] at h
      obtain ⟨⟨⟨h0, h15⟩, hl⟩, h1⟩ := h
      obtain ⟨trs, p1, p2, hall⟩ := soundP (E := E) G es ks vs pos h1 n
      exact mkE (fun X C => pe_disp (p1 X C) hall hl h0 h15) (se_dsp p2) (fun _ => by simp only [pathOf]) (fun _ z => by cases z)
    · cases h
  | .ix a i, h, n =>
    simp only [chkE] at h
    simp only [Need] at n
    split at h
    · simp only [Bool.and_eq_true] at h
      obtain ⟨⟨h0, h1⟩, h2⟩ := h
      obtain ⟨ta, a1, a2, a3, _⟩ := soundE (E := E) G a _ h1 n.1
      obtain ⟨tb, b1, b2, _⟩ := soundE (E := E) G i _ h2 n.2
      exact ⟨_, fun X C => pe_ix (ix_any C.hK C.hu) (a1 X C) (b1 X C) (plain_ix h0), se_ix a2 b2, spa_ix a3 b2, (fun _ z => by cases z), fun X C z => by cases z⟩
    · cases h
  | .sl a lo hi, h, n =>
    simp only [chkE] at h
    simp only [Need] at n
    split at h
    · simp only [Bool.and_eq_true] at h
      obtain ⟨⟨h0, h1⟩, h2⟩ := h
      obtain ⟨ta, a1, a2, _⟩ := soundE (E := E) G a _ h0 n.1
      obtain ⟨tl, l1, l2⟩ := soundO (E := E) G lo _ h1 n.2.1
      obtain ⟨th, r1, r2⟩ := soundO (E := E) G hi _ h2 n.2.2
      exact mkE (fun X C => pe_slice (sl_any C.hK) (a1 X C) (l1 X C) (r1 X C)) (se_sl a2 l2 r2) (fun _ => by simp only [pathOf]) (fun _ z => by cases z)
    · cases h
  | .rev a, h, n =>
    simp only [chkE] at h
    simp only [Need] at n
    split at h
    · rename_i ea o k j p1 p2 p3 pos
      simp only [Bool.and_eq_true, decide_eq_true_eq] at h
      obtain ⟨⟨rfl, hk⟩, h1⟩ := h
      obtain ⟨ta, a1, a2, _⟩ := soundE (E := E) G a _ h1 n
      cases k <;> simp only [chkC, Bool.false_eq_true] at hk
      rename_i i1
      have hi : (1 : Int) = i1 := by simpa using hk
      subst hi
      refine mkE (t := tRevS W.K ta) (fun X C => ?_) (se_rev a2) (fun _ => by simp only [pathOf]) (fun _ z => by cases z)
      have hp : PO X (some (.UnaryOp .USub (.Constant (.int 1) j p1) p2)) (fun _ H Q => Q (some (-1)) H) := PO.imp (po_some (pe_un un_neg pe_int)) fun σ H Q q => ⟨1, rfl, -1, rfl, q⟩
      rw [← C.hK]
      exact pe_revS (a1 X C) hp
    · cases h
  | .call x mk f es, h, n =>
    simp only [chkE] at h
    simp only [Need] at n
    split at h
    · simp only [Bool.and_eq_true, decide_eq_true_eq] at h
      obtain ⟨⟨⟨rfl, hg⟩, hs⟩, h1⟩ := h
      obtain ⟨t, p1, _, p3, p4, _⟩ := soundEs (E := E) G es _ h1 n.2 hs
      exact mkE (fun X C => C.call x mk _ f n.1 _ t _ _ (p1 X C) hs (chk_len h1).symm (C.gl hg).1 (C.gl hg).2 p4) (se_call rfl (p3 mk)) (fun _ => by simp only [pathOf]) (fun _ z => by cases z)
    · cases h
  | .callB x f es, h, n =>
    simp only [chkE] at h
    simp only [Need] at n
    split at h
    · simp only [Bool.and_eq_true, decide_eq_true_eq] at h
      obtain ⟨⟨⟨rfl, hg⟩, hs⟩, h1⟩ := h
      obtain ⟨t, p1, _, _, p4, p5⟩ := soundEs (E := E) G es _ h1 n.2 hs
      exact mkE (fun X C => C.call x [] _ f n.1 _ t _ _ (p1 X C) hs (chk_len h1).symm (C.gl hg).1 (C.gl hg).2 p4) (se_callB rfl p5) (fun _ => by simp only [pathOf]) (fun _ z => by cases z)
    · cases h
  | .b1 b a, h, n =>
    simp only [chkE] at h
    simp only [Need] at n
    split at h
    · simp only [Bool.and_eq_true, decide_eq_true_eq, Bool.not_eq_true'] at h
      obtain ⟨⟨⟨⟨rfl, hg⟩, rfl⟩, hs⟩, h1⟩ := h
      obtain ⟨ta, a1, a2, _⟩ := soundE (E := E) G a _ h1 n.2
      exact mkE (fun X C => pe_b1 b C.hK C.hc (C.gl hg).1 (C.blt _ n.1) (pa_cons (a1 X C) pa_nil (star_cons hs)) (star_cons hs)) (se_b1 a2) (fun _ => by simp only [pathOf]) (fun _ z => by cases z)
    · cases h
  | .b2 b a c, h, n =>
    simp only [chkE] at h
    simp only [Need] at n
    split at h
    · simp only [Bool.and_eq_true, decide_eq_true_eq, Bool.not_eq_true'] at h
      obtain ⟨⟨⟨⟨⟨⟨rfl, hg⟩, rfl⟩, hs⟩, hs2⟩, h1⟩, h2⟩ := h
      obtain ⟨ta, a1, a2, _⟩ := soundE (E := E) G a _ h1 n.2.1
      obtain ⟨tc, c1, c2, _⟩ := soundE (E := E) G c _ h2 n.2.2
      exact mkE (fun X C => pe_b2 b C.hc (C.gl hg).1 (C.blt _ n.1) (pa_cons (a1 X C) (pa_cons (c1 X C) pa_nil (star_cons hs2)) (star_cons hs)) (star_cons hs) (star_cons hs2)) (se_b2 a2 c2) (fun _ => by simp only [pathOf]) (fun _ z => by cases z)
    · cases h
  | .isi a k, h, n =>
    simp only [chkE] at h
    simp only [Need] at n
    split at h
    · rename_i y py ea z pz pos
      simp only [Bool.and_eq_true, decide_eq_true_eq, Bool.not_eq_true'] at h
      obtain ⟨⟨⟨⟨⟨rfl, hg⟩, hs⟩, h1⟩, hz⟩, hk⟩ := h
      obtain ⟨ta, a1, a2, _⟩ := soundE (E := E) G a _ h1 n.2.2
      exact mkE (fun X C => pe_callB (call_isAK C.hK) (C.gl hg).1 (C.blt _ n.1) bb_isinstance (pa_cons (a1 X C) (pa_cons (pe_ty (k := k) C hz (by exact hk) (by cases k <;> exact n.2.1)) pa_nil rfl) (star_cons hs)) (by decide) (by decide) (star_cons hs) rfl) (se_isi a2) (fun _ => by simp only [pathOf]) (fun _ z => by cases z)
    · cases h
  | .get2 o a d, h, n =>
    simp only [chkE] at h
    simp only [Need] at n
    split at h
    · rename_i eo nm apos ea ed cpos
      simp only [Bool.and_eq_true, decide_eq_true_eq, Bool.not_eq_true'] at h
      obtain ⟨⟨⟨⟨⟨⟨⟨rfl, hb⟩, hl⟩, hs⟩, hs2⟩, h1⟩, h2⟩, h3⟩ := h
      obtain ⟨to, o1, o2, _⟩ := soundE (E := E) G o _ h1 n.1
      obtain ⟨ta, a1, a2, _⟩ := soundE (E := E) G a _ h2 n.2.1
      obtain ⟨td, d1, d2, _⟩ := soundE (E := E) G d _ h3 n.2.2
      have n2 : noSt [ea, ed] = true := by unfold noSt; simp [hs, hs2]
      have hm : ∀ X : Cx, M2 X eo "get" apos ea ed cpos := fun X => ⟨plain_base hb, few_ok n2 (by simp), hl, by rw [star_cons hs, star_cons hs2]; rfl⟩
      exact mkE (fun X C => pe_dget2 (by have := C.hu; omega) (o1 X C) (a1 X C) (d1 X C) (hm X)) (se_get2 o2 a2 d2) (fun _ => by simp only [pathOf]) (fun _ z => by cases z)
    · cases h
  | .mu m p es, h, n =>
    simp only [chkE] at h
    simp only [Need] at n
    split at h
    · simp only [Bool.and_eq_true, decide_eq_true_eq] at h
      obtain ⟨⟨⟨⟨⟨⟨rfl, hb⟩, hl⟩, hs⟩, hn⟩, h1⟩, h2⟩ := h
      obtain ⟨tp, p1, _, p3, _⟩ := soundE (E := E) G p _ h1 n.1
      obtain ⟨t, q1, q2, _, q4, _⟩ := soundEs (E := E) G es _ h2 n.2 hs
      exact mkE (fun X C => pe_mu m C.hK (p1 X C) (q1 X C) hb hl hs hn q4) (se_mu p3 q2) (fun _ => by simp only [pathOf]) (fun _ z => by cases z)
    · cases h
  | .lc elt m k its ifs, h, n =>
    simp only [chkE] at h
    simp only [Need] at n
    split at h
    · rename_i ee x px iter eifs scope pos
      simp only [Bool.and_eq_true, decide_eq_true_eq] at h
      obtain ⟨⟨⟨⟨⟨⟨⟨rfl, rfl⟩, hsc⟩, hset⟩, hi⟩, he⟩, h1⟩, ht⟩ := h
      obtain ⟨wi, i1, i2⟩ := soundI (E := E) G k its iter (.Name x px) hi n.2.2.1 n.2.1
      obtain ⟨te, e1, e2, _⟩ := soundE (E := fun _ _ _ _ => False) G elt ee he n.1
      obtain ⟨tt, t1, t2⟩ := soundTs1 (E := fun _ _ _ _ => False) G ifs eifs ht n.2.2.2 h1
      exact mkE (fun X C => pe_lc (C.lcScope hsc) (i1 X C) (fun cl Ca s3 H3 fp => t1 _ (C.blk hsc cl Ca s3 H3 fp)) (fun cl Ca s3 H3 fp => e1 _ (C.blk hsc cl Ca s3 H3 fp)) (no_set hset)) (se_lc1 i2 t2 e2) (fun _ => by simp only [pathOf]) (fun _ z => by cases z)
    · cases h
theorem soundEs {mg : Str → Option Value} (G : GOk W mg Γ) (cs : List CE) (es : List Expr) {N : List Str} {sc : Scope} {cm : Bool} {E : XS} (hh : chkEs N sc cm cs es = true) (nn : Needs Γ cs) (hs : noSt es = true) : OkA W mg N sc cm E Γ cs es := by
  match cs, hh, nn with
  | [], h, _ =>
    simp only [chkEs, List.isEmpty_iff] at h
    subst h
    exact ⟨_, fun X C => pa_nil, sa_nil, fun mk => sg_nil, fun _ => rfl, sq_nil⟩
  | c :: cs, h, n =>
    simp only [chkEs] at h
    simp only [Needs] at n
    split at h
    · rename_i e es
      rw [Bool.and_eq_true] at h
      obtain ⟨s1, s2⟩ := star_not hs
      obtain ⟨t, p1, p2, _, p4, _⟩ := soundE (E := E) G c e h.1 n.1
      obtain ⟨ts, q1, q2, q3, _, q5⟩ := soundEs (E := E) G cs es h.2 n.2 s2
      exact ⟨_, fun X C => pa_cons (p1 X C) (q1 X C) (star_cons s1), sa_cons p2 q2, fun mk => sg_cons p2 p4 (q3 mk.tail), (fun z => by cases z), sq_cons p2 q5⟩
    · cases h
theorem soundT {mg : Str → Option Value} (G : GOk W mg Γ) (c : CE) (e : Expr) {N : List Str} {sc : Scope} {cm : Bool} {E : XS} (hh : chkT N sc cm c e = true) (nn : Need Γ c) : OkT W mg N sc cm E Γ c e := by
  match c, hh, nn with
  | .t a, h, n =>
    simp only [chkT, Bool.and_eq_true] at h
    simp only [Need] at n
    obtain ⟨h0, h1⟩ := h
    obtain ⟨ta, a1, a2, _, _, a5⟩ := soundE (E := E) G a _ h1 n
    cases hc : isCmp e with
    | true => exact ⟨_, fun X C => (a5 X C hc).1, fun F H s σ A Q R p => st_test a2 F H s σ A Q R (by rw [dt_of a h0 hc] at p; exact p.refl fun z => by cases z)⟩
    | false =>
      have h0' : plainT e = true := by
        cases e <;> first | exact h0 | cases hc
      exact ⟨_, fun X C => pt_truthK C.hK (a1 X C) (plain_t h0'), st_t a2⟩
  | .tn a, h, n =>
    simp only [chkT] at h
    simp only [Need] at n
    split at h
    · simp only [Bool.and_eq_true, decide_eq_true_eq] at h
      obtain ⟨rfl, h1⟩ := h
      obtain ⟨t, p1, p2⟩ := soundT (E := E) G a _ h1 n
      exact ⟨_, fun X C => pt_not (p1 X C), st_tn p2⟩
    · cases h
  | .tb k es, h, n =>
    simp only [chkT] at h
    simp only [Need] at n
    split at h
    · rename_i o es' pos
      simp only [Bool.and_eq_true, decide_eq_true_eq, Bool.not_eq_true'] at h
      obtain ⟨⟨rfl, h1⟩, h2⟩ := h
      obtain ⟨t, p1, p2⟩ := soundTb (E := E) G k es es' pos h1 n h2
      exact ⟨t, fun X C => PW.pt (p1 X C), fun F H s σ A Q R p => p2 F H s σ A Q R (by simp only [dE] at p; exact p)⟩
    · cases h
  | .v _, h, _ => simp only [chkT, Bool.false_eq_true] at h
  | .b _, h, _ => simp only [chkT, Bool.false_eq_true] at h
  | .m _, h, _ => simp only [chkT, Bool.false_eq_true] at h
  | .c _, h, _ => simp only [chkT, Bool.false_eq_true] at h
  | .g _ _, h, _ => simp only [chkT, Bool.false_eq_true] at h
  | .bin _ _ _, h, _ => simp only [chkT, Bool.false_eq_true] at h
  | .cmp _ _ _, h, _ => simp only [chkT, Bool.false_eq_true] at h
  | .chn _ _ _ _ _, h, _ => simp only [chkT, Bool.false_eq_true] at h
  | .not _, h, _ => simp only [chkT, Bool.false_eq_true] at h
  | .ife _ _ _, h, _ => simp only [chkT, Bool.false_eq_true] at h
  | .lst _, h, _ => simp only [chkT, Bool.false_eq_true] at h
  | .lsd _, h, _ => simp only [chkT, Bool.false_eq_true] at h
  | .tup _, h, _ => simp only [chkT, Bool.false_eq_true] at h
  | .dsp _, h, _ => simp only [chkT, Bool.false_eq_true] at h
  | .ix _ _, h, _ => simp only [chkT, Bool.false_eq_true] at h
  | .sl _ _ _, h, _ => simp only [chkT, Bool.false_eq_true] at h
  | .rev _, h, _ => simp only [chkT, Bool.false_eq_true] at h
  | .call _ _ _ _, h, _ => simp only [chkT, Bool.false_eq_true] at h
  | .callB _ _ _, h, _ => simp only [chkT, Bool.false_eq_true] at h
  | .b1 _ _, h, _ => simp only [chkT, Bool.false_eq_true] at h
  | .b2 _ _ _, h, _ => simp only [chkT, Bool.false_eq_true] at h
  | .isi _ _, h, _ => simp only [chkT, Bool.false_eq_true] at h
  | .get2 _ _ _, h, _ => simp only [chkT, Bool.false_eq_true] at h
  | .mu _ _ _, h, _ => simp only [chkT, Bool.false_eq_true] at h
  | .lc _ _ _ _ _, h, _ => simp only [chkT, Bool.false_eq_true] at h
theorem soundTb {mg : Str → Option Value} (G : GOk W mg Γ) (k : Bool) (cs : List CE) (es : List Expr) (pos : Pos) {N : List Str} {sc : Scope} {cm : Bool} {E : XS} (hh : chkTs N sc cm cs es = true) (nn : Needs Γ cs) (h1 : cs.isEmpty = false) : ∃ t, (∀ X, Ctx W mg X N sc cm E Γ → PW X (.BoolOp (if k then .And else .Or) es pos) t) ∧ ST W E false t (dTb k cs) := by
  match cs, hh, nn, h1 with
  | [], _, _, h1 => cases h1
  | c :: cs, h, n, _ =>
    simp only [chkTs] at h
    simp only [Needs] at n
    split at h
    · rename_i e es
      rw [Bool.and_eq_true] at h
      obtain ⟨k1, k2⟩ := h
      obtain ⟨t, p1, p2⟩ := soundT (E := E) G c e k1 n.1
      cases hcs : cs.isEmpty with
      | true =>
        rw [List.isEmpty_iff] at hcs
        subst hcs
        simp only [chkTs, List.isEmpty_iff] at k2
        subst k2
        refine ⟨t, fun X C => ?_, st_tb1 p2⟩
        cases k with
        | true => exact pw_and1 (p1 X C)
        | false => exact pw_or1 (p1 X C)
      | false =>
        obtain ⟨u, q1, q2⟩ := soundTb (E := E) G k cs es pos k2 n.2 hcs
        cases es with
        | nil =>
          cases cs with
          | nil => cases hcs
          | cons _ _ => simp [chkTs] at k2
        | cons e2 es2 =>
          cases k with
          | true => exact ⟨_, fun X C => pw_and (p1 X C) (q1 X C), st_and p2 q2⟩
          | false => exact ⟨_, fun X C => pw_or (p1 X C) (q1 X C), st_or p2 q2⟩
    · cases h
theorem soundTs1 {mg : Str → Option Value} (G : GOk W mg Γ) (cs : List CE) (es : List Expr) {N : List Str} {sc : Scope} {cm : Bool} {E : XS} (hh : chkTs N sc cm cs es = true) (nn : Needs Γ cs) (h1 : es.length ≤ 1) : ∃ t, (∀ X, Ctx W mg X N sc cm E Γ → PTs X es t) ∧ ST W E false t (dTb true cs) := by
  match cs, hh, nn with
  | [], h, _ =>
    simp only [chkTs, List.isEmpty_iff] at h
    subst h
    refine ⟨_, fun X C => pts_nil, fun F H s σ A Q R p => ?_⟩
    simp only [dTb] at p
    obtain ⟨b, hb, q⟩ := Po.al R (Al.refl R.fh) tr_bl p
    cases hb
    exact q
  | c :: cs, h, n =>
    simp only [chkTs] at h
    simp only [Needs] at n
    split at h
    · rename_i e es
      rw [Bool.and_eq_true] at h
      have he : es = [] := by cases es with
        | nil => rfl
        | cons a b => simp at h1
      subst he
      have hcs : cs = [] := by cases cs with
        | nil => rfl
        | cons a b => simp [chkTs] at h
      subst hcs
      obtain ⟨t, p1, p2⟩ := soundT (E := E) G c e h.1 n.1
      exact ⟨t, fun X C => pts_one (p1 X C), st_tb1 p2⟩
    · cases h
theorem soundBo {mg : Str → Option Value} (G : GOk W mg Γ) (k : Bool) (cs : List CE) (es : List Expr) (pos : Pos) {N : List Str} {sc : Scope} {cm : Bool} {E : XS} (hh : chkEs N sc cm cs es = true) (nn : Needs Γ cs) (h1 : cs.isEmpty = false) : ∃ t, (∀ X, Ctx W mg X N sc cm E Γ → PE X (.BoolOp (if k then .And else .Or) es pos) t) ∧ SE W E false t (dBo k cs) := by
  match cs, hh, nn, h1 with
  | [], _, _, h1 => cases h1
  | c :: cs, h, n, _ =>
    simp only [chkEs] at h
    simp only [Needs] at n
    split at h
    · rename_i e es
      rw [Bool.and_eq_true] at h
      obtain ⟨k1, k2⟩ := h
      obtain ⟨t, p1, p2, _⟩ := soundE (E := E) G c e k1 n.1
      cases hcs : cs.isEmpty with
      | true =>
        rw [List.isEmpty_iff] at hcs
        subst hcs
        simp only [chkEs, List.isEmpty_iff] at k2
        subst k2
        exact ⟨t, fun X C => pe_one (p1 X C), se_bo1 p2⟩
      | false =>
        obtain ⟨u, q1, q2⟩ := soundBo (E := E) G k cs es pos k2 n.2 hcs
        cases es with
        | nil =>
          cases cs with
          | nil => cases hcs
          | cons _ _ => simp [chkEs] at k2
        | cons e2 es2 =>
          cases cs with
          | nil => cases hcs
          | cons c2 cs2 =>
            cases k with
            | true => exact ⟨_, fun X C => pe_and (p1 X C) (q1 X C), se_boA p2 q2⟩
            | false => exact ⟨_, fun X C => pe_or (p1 X C) (q1 X C), se_boO p2 q2⟩
    · cases h
theorem soundO {mg : Str → Option Value} (G : GOk W mg Γ) (cs : List CE) (o : Option Expr) {N : List Str} {sc : Scope} {cm : Bool} {E : XS} (hh : chkO N sc cm cs o = true) (nn : Needs Γ cs) : ∃ t, (∀ X, Ctx W mg X N sc cm E Γ → PO X o t) ∧ IsPt W E cs t := by
  match cs, hh, nn with
  | [], h, _ =>
    simp only [chkO, Option.isNone_iff_eq_none] at h
    subst h
    exact ⟨_, fun X C => po_none, .inl ⟨rfl, rfl⟩⟩
  | c :: cs, h, n =>
    simp only [chkO] at h
    simp only [Needs] at n
    split at h
    · simp only [Bool.and_eq_true, List.isEmpty_iff] at h
      obtain ⟨rfl, h⟩ := h
      obtain ⟨t, p1, p2, _⟩ := soundE (E := E) G c _ h n.1
      exact ⟨_, fun X C => po_some (p1 X C), .inr ⟨c, t, rfl, rfl, p2⟩⟩
    · cases h
theorem soundP {mg : Str → Option Value} (G : GOk W mg Γ) (cs : List CE) (ks : List (Option Expr)) (vs : List Expr) (pos : Pos) {N : List Str} {sc : Scope} {cm : Bool} {E : XS} (hh : chkP N sc cm cs ks vs = true) (nn : Needs Γ cs) : ∃ trs, (∀ X, Ctx W mg X N sc cm E Γ → PPs X pos ks vs trs) ∧ SP' W E trs cs ∧ ks.all (·.isSome) = true := by
  match cs, hh, nn with
  | [], h, _ =>
    simp only [chkP, Bool.and_eq_true, List.isEmpty_iff] at h
    obtain ⟨rfl, rfl⟩ := h
    exact ⟨_, fun X C => pps_nil, sp_nil, rfl⟩
  | [_], h, _ => simp only [chkP, Bool.false_eq_true] at h
  | k :: c :: cs, h, n =>
    simp only [chkP] at h
    simp only [Needs] at n
    split at h
    · simp only [Bool.and_eq_true] at h
      obtain ⟨⟨h1, h2⟩, h3⟩ := h
      obtain ⟨tk, k1, k2, _⟩ := soundE (E := E) G k _ h1 n.1
      obtain ⟨tc, c1, c2, _⟩ := soundE (E := E) G c _ h2 n.2.1
      obtain ⟨trs, p1, p2, p3⟩ := soundP (E := E) G cs _ _ pos h3 n.2.2
      exact ⟨_, fun X C => pps_cons (k1 X C) (c1 X C) (p1 X C), sp_cons k2 c2 p2, by rw [List.all_cons, p3]; rfl⟩
    · cases h
theorem soundI {mg : Str → Option Value} (G : GOk W mg Γ) (k : IK) (cs : List CE) (e tg : Expr) {N : List Str} {sc : Scope} {cm : Bool} {E : XS} (hh : chkI N sc cm k cs e = true) (nn : Needs Γ cs) (hr : k = .rng → Γ.B "range") : ∃ wi, (∀ X, Ctx W mg X N sc cm E Γ → PI X tg e wi) ∧ SI W E wi (fun s => (dEs cs s).it k) := by
  match cs, hh, nn with
  | [], h, _ => simp only [chkI, Bool.false_eq_true] at h
  | c :: cs, h, n =>
    simp only [chkI] at h
    simp only [Needs] at n
    cases k with
    | seq =>
      simp only [Bool.and_eq_true, List.isEmpty_iff] at h
      obtain ⟨rfl, h⟩ := h
      obtain ⟨t, p1, p2, _⟩ := soundE (E := E) G c e h n.1
      exact ⟨_, fun X C => pi_any C.hK (p1 X C), si_seq p2⟩
    | rng =>
      dsimp only at h
      split at h
      · rename_i y py es' pos
        simp only [Bool.and_eq_true, decide_eq_true_eq] at h
        obtain ⟨⟨⟨⟨rfl, hg⟩, hs⟩, hl⟩, h'⟩ := h
        split at h'
        · rename_i e1 es1
          rw [Bool.and_eq_true] at h'
          have h := h'
          obtain ⟨s1, s2⟩ := star_not hs
          obtain ⟨t, p1, p2, _, p4, _⟩ := soundE (E := E) G c e1 h.1 n.1
          obtain ⟨ts, q1, q2, _⟩ := soundEs (E := E) G cs es1 h.2 n.2 s2
          have hcl := chk_len h.2
          cases es1 with
          | nil =>
            cases cs with
            | nil => exact ⟨_, fun X C => pi_range1 (C.gl hg).1 (C.blt _ (hr rfl)) (pa_cons (p1 X C) (q1 X C) (star_cons s1)) (star_cons s1), si_rng1 (sa_cons p2 q2)⟩
            | cons _ _ => cases hcl
          | cons e2 es2 =>
            cases es2 with
            | nil =>
              cases cs with
              | nil => cases hcl
              | cons c2 cs =>
                cases cs with
                | nil =>
                  obtain ⟨s3, s4⟩ := star_not s2
                  exact ⟨_, fun X C => pi_range2 (C.gl hg).1 (C.blt _ (hr rfl)) (pa_cons (p1 X C) (q1 X C) (star_cons s1)) (by rw [star_cons s1, star_cons s3]; rfl) (star_cons s3), si_rng2 (sa_cons p2 q2)⟩
                | cons _ _ => cases hcl
            | cons e3 es3 => simp at hl
        · cases h'
      · cases h
    | enum => simp only [Bool.false_eq_true] at h
    | zip => simp only [Bool.false_eq_true] at h
    | rvd => simp only [Bool.false_eq_true] at h
end
end L3

set_option Elab.async false
set_option linter.all false
set_option maxRecDepth 100000
namespace L3
open PySem L2 PySem.Spec PyProof.Rows

theorem draw_list {prog : Program} {w : World} {A : Around} {E : Value → Shared → Prop} {it t : Addr} {items : Array Value} (ne : t ≠ it) : ∀ (n i : Nat) (s : Shared) (Q : List Value → Shared → Prop), s.heap.IsListIter it t i → s.heap.IsList t items → i + n ≤ items.size →
    (∀ h' : Heap, h'.IsListIter it t (i + n) → Heap.SameBut it s.heap h' → Q ((items.toList.drop i).take n) { s with heap := h' }) → wpAny (model prog w) A (draw (.ref it) n) Q E s
  | 0, i, s, Q, hi, ht, hl, q => by
    rw [draw.eq_1]
    refine wpAny_pure ?_
    have := q s.heap hi (Heap.SameBut.refl _ _)
    simpa using this
  | n + 1, i, s, Q, hi, ht, hl, q => by
    rw [draw.eq_2]
    have hlt : i < items.size := by omega
    refine wpAny_bind (wpAny_pyNext_list_item hi ht (Array.getElem?_eq_getElem hlt) fun h' hi' sb => ?_)
    have ht' : h'.IsList t items := by
      obtain ⟨o, ho, hc⟩ := ht
      exact ⟨o, (by rw [sb.2 t ne]; exact ho), hc⟩
    refine wpAny_bind (wpAny_holding (draw_list ne n (i + 1) _ _ hi' ht' (by omega) fun h2 hi2 sb2 => wpAny_pure ?_))
    have := q h2 (by rw [show i + (n + 1) = i + 1 + n by omega]; exact hi2) (sb.trans sb2)
    have e : (items.toList.drop i).take (n + 1) = items[i] :: (items.toList.drop (i + 1)).take n := by
      rw [List.drop_eq_getElem_cons (by simpa using hlt), List.take_succ_cons]
      simp
    rw [e] at this
    exact this
theorem unpackItems_list {prog : Program} {w : World} {A : Around} {E : Value → Shared → Prop} {s : Shared} {t : Addr} {items : Array Value} {Q : List Value → Shared → Prop} (hh : A.handled = none) (ht : s.heap.IsList t items)
    (hQ : ∀ h' : Heap, Heap.ExtBut s.heap.objs.size s.heap h' → Q items.toList { s with heap := h' }) : wpAny (model prog w) A (unpackItems (.ref t) items.size none) Q E s := by
  have hlt : t ≠ s.heap.objs.size := by
    obtain ⟨o, ho, _⟩ := ht
    exact Nat.ne_of_lt (Heap.lt_size ho)
  unfold unpackItems
  refine wpAny_bind ?_
  unfold notIterableAtAll
  refine wpAny_bind (wpAny_specialOf ht.typeIs PySem.F.slot_list_iter.lookup (wpAny_pure ?_))
  simp only [Bool.false_eq_true, if_false]
  refine wpAny_bind (wpAny_holding (wpAny_pyIter_list ht ?_))
  have h0 : (s.heap.push { cls := .type "list_iterator", data := .fields #[.ref t, .int 0 0] }).IsListIter s.heap.objs.size t 0 := ⟨_, Heap.get?_push_size _ rfl, rfl, rfl⟩
  have ht0 : (s.heap.push { cls := .type "list_iterator", data := .fields #[.ref t, .int 0 0] }).IsList t items := by
    obtain ⟨o, ho, hc⟩ := ht
    exact ⟨o, Heap.get?_push_of_some _ ho, hc⟩
  refine wpAny_bind (wpAny_holding (draw_list hlt items.size 0 _ _ h0 ht0 (by omega) fun h' hi' sb => ?_))
  have el : (items.toList.drop 0).take items.size = items.toList := by rw [List.drop_zero]; exact List.take_of_length_le (by simp)
  rw [el]
  have hn : ¬ items.toList.length < items.size := by simp
  rw [if_neg hn]
  have ht' : h'.IsList t items := by
    obtain ⟨o, ho, hc⟩ := ht0
    exact ⟨o, (by rw [sb.2 t hlt]; exact ho), hc⟩
  refine wpAny_bind (wpAny_holding (wpAny_pyNext_list_end hh (by simpa using hi') ht' (by simp) fun h2 xb => ?_))
  simp only [Option.isSome_none, Bool.false_eq_true, if_false]
  refine wpAny_pure (hQ h2 fun b o hb e => ?_)
  exact xb b o hb (sb.extBut b o hb (Heap.get?_push_of_some _ e))
theorem assign_Tuple_list {prog : Program} {w : World} {A : Around} {E : Value → Shared → Prop} {s : Shared} {env : Env} {elts : List Expr} {x1 : Nat} {pos : Pos} {t : Addr} {items : Array Value} {Q : Unit → Shared → Prop} (hh : A.handled = none) (ht : s.heap.IsList t items) (hl : (assignEach elts env).length = items.size)
    (hst : (assignEach elts env).findIdx? (·.1) = none) (h : ∀ h' : Heap, Heap.ExtBut s.heap.objs.size s.heap h' → wpAny (model prog w) A (assignInOrder ((assignEach elts env).map (·.2)) items.toList) Q E { s with heap := h' }) :
    wpAny (model prog w) A (assign (.Tuple elts x1 pos) env (.ref t)) Q E s := by
  rw [PyProof.Rows.assign_Tuple]
  refine wpAny_bind (wpAny_standAt ?_)
  unfold unpack
  rw [hst, hl]
  exact wpAny_bind (wpAny_holding (unpackItems_list hh ht h))
theorem pg_un {X : Cx} {es : List Expr} {k : Nat} {t : TGs} {n : Nat} {pos : Pos} (hc : X.calm = true) (h : PGs X es t) (hn : (assignEach es X.env).length = n) (hst : (assignEach es X.env).findIdx? (·.1) = none) : PG X (.Tuple es k pos) (gUn X.K n t) := by
  intro pins s σ H v u Q I r hw
  obtain ⟨a, xs, e1, hq, hl, hw⟩ := hw
  rcases hq with hq | hq
  · exact pg_tup hc h hn hst pins s σ H v u Q I r ⟨a, xs, e1, hq, hl, hw⟩
  · subst e1
    cases r
    obtain ⟨its, rv, ht, hz⟩ := I.list hq
    refine assign_Tuple_list (I.ok.hd hc) ht.isList (by simp [hn, ← hl, rv.length]) hst fun h' hx => ?_
    have I1 : Inv X pins σ H { s with heap := h' } := I.kept (t' := s.toks) fun b o e => hx b o (Nat.ne_of_lt (Heap.lt_size e)) e
    exact h pins _ σ H xs _ Q I1 (by simpa using rv) hw
end L3

set_option Elab.async false
set_option linter.all false
set_option maxRecDepth 100000
namespace L3
open PySem L2 PySem.Spec PyProof.Rows
variable {W : Wd} {Γ : Env3}

noncomputable def locN (N : List Str) (sc : Scope) (as : List Nat) (i : Nat) (x : Str) : Bool := decide (N[i]? = some x) && (decide (sc.names.lookup x = some .local) || decide (sc.names.lookup x = some .cell)) && as.contains i
noncomputable def chkNs (N : List Str) (sc : Scope) (as : List Nat) : List Nat → List Expr → Bool
  | [], es => es.isEmpty
  | i :: is, es => match es with
    | .Name x _ :: es => locN N sc as i x && chkNs N sc as is es
    | _ => false
noncomputable def chkG (N : List Str) (sc : Scope) (cm : Bool) (as : List Nat) : CT → Expr → Bool
  | .v i, e => match e with
    | .Name x _ => locN N sc as i x
    | _ => false
  | .tup is, e => match e with
    | .Tuple es _ _ => cm && chkNs N sc as is es
    | _ => false
  | .sub p k, e => match e with
    | .Subscript ep ek _ => plainIx ek && chkE N sc cm p ep && chkE N sc cm k ek
    | _ => false

noncomputable def isLc : CT → CE → Bool
  | .v _, .lc _ _ _ _ _ => true
  | _, _ => false
mutual
noncomputable def chkS (N : List Str) (sc : Scope) (cm : Bool) (as : List Nat) : CS → Stmt → Bool
  | .ret e, s => match s with
    | .Return (some e') _ => chkE N sc cm e e'
    | _ => false
  | .retN, s => match s with
    | .Return none _ => true
    | _ => false
  | .asg t e, s => match s with
    | .Assign [tg] e' _ => ((noComp e' && !star tg && (noTL tg || noTup e')) || isLc t e) && chkG N sc cm as t tg && chkE N sc cm e e'
    | _ => false
  | .aug i e, s => match s with
    | .AugAssign (.Name x _) o e' _ => decide (o = .Add) && locN N sc as i x && chkE N sc cm e e'
    | _ => false
  | .ife t a b, s => match s with
    | .If et sa sb _ => chkT N sc cm t et && chkSs N sc cm as a sa && chkSs N sc cm as b sb
    | _ => false
  | .loop t k its b, s => match s with
    | .For tg iter sb [] _ => cm && noSet iter && (match t with
      | .sub _ _ => false
      | _ => true) && chkG N sc cm as t tg && chkI N sc cm k its iter && chkSs N sc cm as b sb
    | _ => false
  | .whl _ t b, s => match s with
    | .While et sb [] _ => chkT N sc cm t et && chkSs N sc cm as b sb
    | _ => false
  | .ex e, s => match s with
    | .Expr e' _ => noComp e' && chkE N sc cm e e'
    | _ => false
  | .pass, s => match s with
    | .Pass _ => true
    | _ => false
  | .brk, s => match s with
    | .Break _ => true
    | _ => false
noncomputable def chkSs (N : List Str) (sc : Scope) (cm : Bool) (as : List Nat) : List CS → List Stmt → Bool
  | [], ss => ss.isEmpty
  | c :: cs, ss => match ss with
    | s :: ss => chkS N sc cm as c s && chkSs N sc cm as cs ss
    | [] => false
end
noncomputable def NeedT (Γ : Env3) : CT → Prop
  | .v _ => True
  | .tup _ => True
  | .sub p k => Need Γ p ∧ Need Γ k
mutual
noncomputable def NeedS (Γ : Env3) : CS → Prop
  | .ret e => Need Γ e
  | .retN => True
  | .asg t e => NeedT Γ t ∧ Need Γ e
  | .aug _ e => Need Γ e
  | .ife t a b => Need Γ t ∧ NeedSs Γ a ∧ NeedSs Γ b
  | .loop t k its b => NeedT Γ t ∧ (k = .rng → Γ.B "range") ∧ Needs Γ its ∧ NeedSs Γ b
  | .whl _ t b => Need Γ t ∧ NeedSs Γ b
  | .ex e => Need Γ e
  | .pass => True
  | .brk => True
noncomputable def NeedSs (Γ : Env3) : List CS → Prop
  | [] => True
  | c :: cs => NeedS Γ c ∧ NeedSs Γ cs
end
structure CtxS (W : Wd) (mg : Str → Option Value) (X : Cx) (N : List Str) (sc : Scope) (cm : Bool) (E : XS) (Γ : Env3) : Prop extends Ctx W mg X N sc cm E Γ where
  po : PassesOwn (model X.prog X.w) X.A X.env X.xe
  fn : ∀ x, X.fn x = true
section
variable {mg : Str → Option Value} {N : List Str} {sc : Scope} {cm : Bool} {E : XS} {as : List Nat}
theorem locN_is {i : Nat} {x : Str} (h : locN N sc as i x = true) : N[i]? = some x ∧ Loc sc x ∧ i ∈ as := by
  unfold locN at h
  simp only [Bool.and_eq_true, Bool.or_eq_true, decide_eq_true_eq, List.contains_iff_mem] at h
  exact ⟨h.1.1, h.1.2, h.2⟩
theorem CtxS.pgn {X : Cx} (C : CtxS W mg X N sc cm E Γ) {i : Nat} {x : Str} {pos : Pos} (h : locN N sc as i x = true) : PG X (.Name x pos) (gName i) := by
  obtain ⟨h1, h2, _⟩ := locN_is h
  exact pg_name (by rw [C.hN]; exact C.nd) (by rw [C.hN]; exact h1) (by rw [C.hs]; exact h2) (.inl (C.fn x))
theorem asg_cons {x : Str} {p : Pos} {es : List Expr} {env : Env} : (assignEach (.Name x p :: es) env) = (false, assign (.Name x p) env) :: assignEach es env := rfl
theorem CtxS.pgns {X : Cx} (C : CtxS W mg X N sc cm E Γ) : ∀ {is : List Nat} {es : List Expr}, chkNs N sc as is es = true → PGs X es (is.foldr (fun i g => gCons (gName i) g) gNil) ∧ (assignEach es X.env).length = is.length ∧ (assignEach es X.env).findIdx? (·.1) = none ∧ ∀ i ∈ is, i ∈ as
  | [], es, h => by
    simp only [chkNs, List.isEmpty_iff] at h
    subst h
    exact ⟨pgs_nil, rfl, rfl, fun _ z => by cases z⟩
  | i :: is, es, h => by
    simp only [chkNs] at h
    split at h
    · rename_i x p es
      rw [Bool.and_eq_true] at h
      obtain ⟨h1, h2, h3, h4⟩ := C.pgns h.2
      refine ⟨pgs_cons (C.pgn h.1) h1 rfl, by rw [asg_cons, List.length_cons, List.length_cons, h2], by rw [asg_cons, List.findIdx?_cons, h3]; rfl, fun j hj => ?_⟩
      rcases List.mem_cons.mp hj with z | z
      · rw [z]; exact (locN_is h.1).2.2
      · exact h4 j z
    · cases h
theorem soundG (G : GOk W mg Γ) (t : CT) (e : Expr) (h : chkG N sc cm as t e = true) (n : NeedT Γ t) : ∃ g, (∀ X, CtxS W mg X N sc cm E Γ → PG X e g) ∧ SGt W as g (asgT t) := by
  cases t with
  | v i =>
    simp only [chkG] at h
    split at h
    · exact ⟨_, fun X C => C.pgn h, sgt_v (locN_is h).2.2⟩
    · cases h
  | tup is =>
    simp only [chkG] at h
    split at h
    · rename_i es k pos
      rw [Bool.and_eq_true] at h
      obtain ⟨rfl, h⟩ := h
      by_cases hX : ∃ X, CtxS W mg X N sc true E Γ
      · obtain ⟨X0, C0⟩ := hX
        refine ⟨_, fun X C => ?_, sgt_tup (C0.pgns h).2.2.2⟩
        obtain ⟨h1, h2, h3, _⟩ := C.pgns h
        rw [← C.hK]
        exact pg_un C.hc h1 h2 h3
      · refine ⟨fun _ _ _ _ => True, fun X C => absurd ⟨X, C⟩ hX, fun F H s s' σ A o v B Q R t b nd e q => trivial⟩
    · cases h
  | sub p k =>
    simp only [chkG] at h
    simp only [NeedT] at n
    split at h
    · rename_i ep ek pos
      simp only [Bool.and_eq_true] at h
      obtain ⟨⟨h0, h1⟩, h2⟩ := h
      obtain ⟨tp, p1, _, p3, _⟩ := soundE (E := E) G p _ h1 n.1
      obtain ⟨tk, k1, k2, _⟩ := soundE (E := E) G k _ h2 n.2
      refine ⟨_, fun X C => pg_sub (p1 X C.toCtx) (k1 X C.toCtx) set_list (fun v => ?_), sgt_sub p3 k2⟩
      cases ek <;> first | rfl | cases h0
    · cases h
theorem soundGd (t : CT) (e : Expr) (h : chkG N sc cm as t e = true) (hs : (match t with
      | .sub _ _ => false
      | _ => true) = true) : ∃ g, (∀ X, CtxS W mg X N sc cm E Γ → PG X e g) ∧ SGd W as g t := by
  cases t with
  | v i =>
    simp only [chkG] at h
    split at h
    · exact ⟨_, fun X C => C.pgn h, sgd_v (locN_is h).2.2⟩
    · cases h
  | tup is =>
    simp only [chkG] at h
    split at h
    · rename_i es k pos
      rw [Bool.and_eq_true] at h
      obtain ⟨rfl, h⟩ := h
      by_cases hX : ∃ X, CtxS W mg X N sc true E Γ
      · obtain ⟨X0, C0⟩ := hX
        refine ⟨_, fun X C => ?_, sgd_tup (C0.pgns h).2.2.2⟩
        obtain ⟨h1, h2, h3, _⟩ := C.pgns h
        rw [← C.hK]
        exact pg_tup C.hc h1 h2 h3
      · refine ⟨fun _ _ _ _ => True, fun X C => absurd ⟨X, C⟩ hX, fun F H s s' σ A d v Q R t e q => trivial⟩
    · cases h
  | sub p k => cases hs
end
noncomputable def OkS (W : Wd) (mg : Str → Option Value) (N : List Str) (sc : Scope) (cm : Bool) (E : XS) (Γ : Env3) (as : List Nat) (c : CS) (s : Stmt) : Prop := ∃ t, (∀ X, CtxS W mg X N sc cm E Γ → PS X s t) ∧ SS W E as t (dS c)
noncomputable def OkSs (W : Wd) (mg : Str → Option Value) (N : List Str) (sc : Scope) (cm : Bool) (E : XS) (Γ : Env3) (as : List Nat) (cs : List CS) (ss : List Stmt) : Prop := ∃ t, (∀ X, CtxS W mg X N sc cm E Γ → PSs X ss t) ∧ SS W E as t (dSs cs)
theorem soundLC {mg : Str → Option Value} (G : GOk W mg Γ) (t : CT) (c : CE) (tg e : Expr) (spos : Pos) {N : List Str} {sc : Scope} {cm : Bool} {E : XS} {as : List Nat} (h0 : isLc t c = true) (h3 : chkG N sc cm as t tg = true) (h4 : chkE N sc cm c e = true) (n : Need Γ c) : OkS W mg N sc cm E Γ as (.asg t c) (.Assign [tg] e spos) := by
  cases t with
  | v i =>
    cases c with
    | lc elt m k its ifs =>
      simp only [chkG] at h3
      split at h3
      · rename_i z pz
        simp only [chkE] at h4
        simp only [Need] at n
        split at h4
        · rename_i ee x px iter eifs scope pos
          simp only [Bool.and_eq_true, decide_eq_true_eq] at h4
          obtain ⟨⟨⟨⟨⟨⟨⟨rfl, rfl⟩, hsc⟩, hset⟩, hi⟩, he⟩, h1⟩, ht⟩ := h4
          obtain ⟨wi, i1, i2⟩ := soundI (E := E) G k its iter (.Name x px) hi n.2.2.1 n.2.1
          obtain ⟨te, e1, e2, _⟩ := soundE (E := fun _ _ _ _ => False) G elt ee he n.1
          obtain ⟨tt, t1, t2⟩ := soundTs1 (E := fun _ _ _ _ => False) G ifs eifs ht n.2.2.2 h1
          obtain ⟨l1, l2, l3⟩ := locN_is h3
          refine ⟨_, fun X C => ?_, ss_asg (se_lc1 i2 t2 e2) (sgt_v l3)⟩
          have hN : X.N.Nodup := by rw [C.hN]; exact C.nd
          have hi' : X.N[i]? = some z := by rw [C.hN]; exact l1
          have hz : Loc X.env.scope z := by rw [C.hs]; exact l2
          obtain ⟨b, hb⟩ : ∃ b, swapsWith (.ListComp ee [⟨.Name x px, iter, eifs, 0⟩] scope pos) (some (.Name z pz)) spos.line X.env = pure b := ⟨_, rfl⟩
          cases b with
          | true => exact ps_setLC hN hi' hz (C.lcScope hsc) (i1 X C.toCtx) (fun cl Ca s3 H3 fp => t1 _ (C.toCtx.blk hsc cl Ca s3 H3 fp)) (fun cl Ca s3 H3 fp => e1 _ (C.toCtx.blk hsc cl Ca s3 H3 fp)) (no_set hset) hb (.inl (C.fn z))
          | false => exact ps_set hN hi' hz (pe_lc (C.lcScope hsc) (i1 X C.toCtx) (fun cl Ca s3 H3 fp => t1 _ (C.toCtx.blk hsc cl Ca s3 H3 fp)) (fun cl Ca s3 H3 fp => e1 _ (C.toCtx.blk hsc cl Ca s3 H3 fp)) (no_set hset)) hb (.inl (C.fn z))
        · cases h4
      · cases h3
    | _ => cases h0
  | tup is => cases h0
  | sub p k => cases h0
mutual
theorem soundS {mg : Str → Option Value} (G : GOk W mg Γ) (c : CS) (s : Stmt) {N : List Str} {sc : Scope} {cm : Bool} {E : XS} {as : List Nat} (hh : chkS N sc cm as c s = true) (nn : NeedS Γ c) : OkS W mg N sc cm E Γ as c s := by
  match c, hh, nn with
  | .ret e, h, n =>
    simp only [chkS] at h
    simp only [NeedS] at n
    split at h
    · obtain ⟨t, p1, p2, _⟩ := soundE (E := E) G e _ h n
      exact ⟨_, fun X C => ps_ret (p1 X C.toCtx), ss_ret p2⟩
    · cases h
  | .retN, h, n =>
    simp only [chkS] at h
    split at h
    · exact ⟨_, fun X C => ps_retN, ss_retN⟩
    · cases h
  | .asg t e, h, n =>
    simp only [chkS] at h
    simp only [NeedS] at n
    split at h
    · simp only [Bool.and_eq_true, Bool.or_eq_true, Bool.not_eq_true'] at h
      obtain ⟨⟨h0, h3⟩, h4⟩ := h
      rcases h0 with h0 | h0
      · obtain ⟨⟨h0, h1⟩, h2⟩ := h0
        obtain ⟨te, p1, p2, _⟩ := soundE (E := E) G e _ h4 n.2
        obtain ⟨g, g1, g2⟩ := soundG (E := E) G t _ h3 n.1
        exact ⟨_, fun X C => ps_asg (p1 X C.toCtx) (g1 X C) (no_swap h0) (no_stores (by simpa using h2)) (one_target h1), ss_asg p2 g2⟩
      · exact soundLC G t e _ _ _ h0 h3 h4 n.2
    · cases h
  | .aug i e, h, n =>
    simp only [chkS] at h
    simp only [NeedS] at n
    split at h
    · simp only [Bool.and_eq_true, decide_eq_true_eq] at h
      obtain ⟨⟨rfl, h1⟩, h2⟩ := h
      obtain ⟨te, p1, p2, _⟩ := soundE (E := E) G e _ h2 n
      obtain ⟨l1, l2, l3⟩ := locN_is h1
      exact ⟨_, fun X C => ps_aug (by rw [C.hN]; exact C.nd) (by rw [C.hN]; exact l1) (by rw [C.hs]; exact l2) (p1 X C.toCtx) ip_add (.inl (C.fn _)), ss_aug l3 p2⟩
    · cases h
  | .ife t a b, h, n =>
    simp only [chkS] at h
    simp only [NeedS] at n
    split at h
    · simp only [Bool.and_eq_true] at h
      obtain ⟨⟨h0, h1⟩, h2⟩ := h
      obtain ⟨tt, t1, t2⟩ := soundT (E := E) G t _ h0 n.1
      obtain ⟨ta, a1, a2⟩ := soundSs (E := E) G a _ h1 n.2.1
      obtain ⟨tb, b1, b2⟩ := soundSs (E := E) G b _ h2 n.2.2
      exact ⟨_, fun X C => ps_if (t1 X C.toCtx) (a1 X C) (b1 X C), ss_ife t2 a2 b2⟩
    · cases h
  | .loop t k its b, h, n =>
    simp only [chkS] at h
    simp only [NeedS] at n
    split at h
    · rename_i tg iter sb pos
      simp only [Bool.and_eq_true] at h
      obtain ⟨⟨⟨⟨⟨rfl, h0⟩, h1⟩, h2⟩, h3⟩, h4⟩ := h
      obtain ⟨wi, i1, i2⟩ := soundI (E := E) G k its iter tg h3 n.2.2.1 n.2.1
      obtain ⟨g, g1, g2⟩ := soundGd (W := W) (mg := mg) (E := E) (Γ := Γ) t _ h2 (by cases t <;> exact h1)
      obtain ⟨tb, b1, b2⟩ := soundSs (E := E) G b _ h4 n.2.2.2
      exact ⟨_, fun X C => ps_for C.po C.hc (i1 X C.toCtx) (g1 X C) (b1 X C) (no_set h0), ss_loop i2 g2 b2⟩
    · cases h
  | .whl m t b, h, n =>
    simp only [chkS] at h
    simp only [NeedS] at n
    split at h
    · simp only [Bool.and_eq_true] at h
      obtain ⟨tt, t1, t2⟩ := soundT (E := E) G t _ h.1 n.1
      obtain ⟨tb, b1, b2⟩ := soundSs (E := E) G b _ h.2 n.2
      exact ⟨_, fun X C => ps_while C.po (t1 X C.toCtx) (b1 X C), ss_whl t2 b2⟩
    · cases h
  | .ex e, h, n =>
    simp only [chkS] at h
    simp only [NeedS] at n
    split at h
    · rw [Bool.and_eq_true] at h
      obtain ⟨te, p1, p2, _⟩ := soundE (E := E) G e _ h.2 n
      exact ⟨_, fun X C => ps_expr (p1 X C.toCtx) (no_swap h.1), ss_ex p2⟩
    · cases h
  | .pass, h, n =>
    simp only [chkS] at h
    split at h
    · exact ⟨_, fun X C => ps_pass, ss_pass⟩
    · cases h
  | .brk, h, n =>
    simp only [chkS] at h
    split at h
    · exact ⟨_, fun X C => ps_break, ss_brk⟩
    · cases h
theorem soundSs {mg : Str → Option Value} (G : GOk W mg Γ) (cs : List CS) (ss : List Stmt) {N : List Str} {sc : Scope} {cm : Bool} {E : XS} {as : List Nat} (hh : chkSs N sc cm as cs ss = true) (nn : NeedSs Γ cs) : OkSs W mg N sc cm E Γ as cs ss := by
  match cs, hh, nn with
  | [], h, n =>
    simp only [chkSs, List.isEmpty_iff] at h
    subst h
    exact ⟨_, fun X C => pss_nil, ss_nil⟩
  | c :: cs, h, n =>
    simp only [chkSs] at h
    simp only [NeedSs] at n
    split at h
    · rw [Bool.and_eq_true] at h
      obtain ⟨t, p1, p2⟩ := soundS (E := E) G c _ h.1 n.1
      obtain ⟨u, q1, q2⟩ := soundSs (E := E) G cs _ h.2 n.2
      exact ⟨_, fun X C => pss_cons (p1 X C) (q1 X C), ss_cons p2 q2⟩
    · cases h
end
end L3

set_option Elab.async false
set_option linter.all false
set_option maxRecDepth 100000
namespace L3
open PySem L2 PySem.Spec PyProof.Rows
variable {W : Wd}

theorem pe_callX0 {X : Cx} {E : XS} {k j : Nat} {x : Str} {ps : List Str} {sp : Sp} {p pos : Pos} (hx : Thr X E) (F : OkX X.prog X.w X.K X.mg X.base k x ps sp) (hr : Room j X.A) (hk : k ≤ j) (hg : Gl X x) (hdb : (x == ("__debug__" : Str)) = false) : PE X (.Call (.Name x p) [] [] pos) (tCallX sp E tNil) := by
  intro pins s σ H Q I h
  obtain ⟨f, fd, kp, b, m, G⟩ := F.ex
  refine wpAny_Call_Name_kw (ld_glob I hg m ?_ hdb)
  exact PySem.W.callWith_K0 I.kIn kp (run_fnX (us := []) G (hr.mono hk) b hx I .nil h)
theorem pe_callN0 {X : Cx} {k j : Nat} {x : Str} {ps : List Str} {sp : Sp} {p pos : Pos} (F : OkX X.prog X.w X.K X.mg X.base k x ps sp) (hr : Room j X.A) (hk : k ≤ j) (hg : Gl X x) (hdb : (x == ("__debug__" : Str)) = false) : PE X (.Call (.Name x p) [] [] pos) (tCall sp [] E0 tNil) := by
  obtain ⟨f, fd, kp, b, m, G⟩ := F.ex
  exact pe_call0 G (hr.mono hk) hg m kp b .nil passN hdb
theorem tCallX_n {X : Cx} {e : Expr} {sp : Sp} {t : TA} (h : PE X e (tCall sp [] E0 t)) : PE X e (tCallX sp (fun _ _ _ _ => False) t) := by
  have e1 : tCall sp [] E0 t = tCallX sp (fun _ _ _ _ => False) t := by
    funext σ H Q
    show t σ H (fun vs H1 => sp (vs ++ []) H1 Q E0) = t σ H fun vs H1 => sp vs H1 Q fun c d H' => False
    simp only [List.append_nil]
  rw [← e1]; exact h

noncomputable def Gam (P : Program) (w : World) (mg : Str → Option Value) (base : Heap) (W : Wd) (k : Nat) : Env3 where
  F x mk n f := ∃ k' ps, k' ≤ k ∧ OkX P w W.K mg base k' x ps (SpM W mk n f)
  G x d := ∃ v, (∀ F, IsV W F d v) ∧ ∃ u, mg x = some u ∧ RelV v u
  B x := mg x = none
theorem gam_ok {P : Program} {w : World} {mg : Str → Option Value} {base : Heap} {k : Nat} : GOk W mg (Gam P w mg base W k) := fun _ _ h => h
theorem trL_rep {F H : Hp} (g : Same F H) (m : Nat) : ∀ {os : List O} {vs : List V} {B : List Addr}, TrL W F H os vs B → B.Nodup → (∀ b ∈ B, F b = none) → ∃ A, Rep W F H (os.map some ++ List.replicate m none) (vs.map some ++ List.replicate m none) A ∧ ∀ b, Ow A b → b ∈ B
  | [], vs, B, h, nd, fr => by
    simp only [TrL] at h
    obtain ⟨rfl, rfl⟩ := h
    refine ⟨fun _ => [], ⟨g, fun i o e => ?_, (fun _ _ h => by cases h), (fun _ _ _ h => by cases h), fun _ => .nil, by simp⟩, fun b ⟨_, z⟩ => by cases z⟩
    simp only [List.map_nil, List.nil_append] at e
    have := List.mem_of_getElem? e
    rw [List.mem_replicate] at this
    cases this.2
  | o :: os, vs, B, h, nd, fr => by
    simp only [TrL] at h
    obtain ⟨v, r, B1, B2, rfl, rfl, h1, h2⟩ := h
    have nd' := nd
    unfold List.Nodup at nd'
    rw [List.pairwise_append] at nd'
    obtain ⟨A, R, hA⟩ := trL_rep g m h2 nd'.2.1 fun b hb => fr b (List.mem_append_right _ hb)
    refine ⟨fun j => match j with
      | 0 => B1
      | j + 1 => A j, ⟨g, fun i o' e => ?_, fun i a ha => ?_, fun i j a ha hb => ?_, fun i => ?_, ?_⟩, fun b ⟨j, z⟩ => ?_⟩
    · cases i with
      | zero => simp at e; subst e; exact ⟨v, rfl, h1⟩
      | succ i => exact R.slot i o' (by simpa using e)
    · cases i with
      | zero => exact ⟨fr a (List.mem_append_left _ ha), h1.cell a ha⟩
      | succ i => exact R.own i a ha
    · cases i with
      | zero =>
        cases j with
        | zero => rfl
        | succ j => exact absurd rfl (nd'.2.2 a ha a (hA a ⟨j, hb⟩))
      | succ i =>
        cases j with
        | zero => exact absurd rfl (nd'.2.2 a hb a (hA a ⟨i, ha⟩))
        | succ j => rw [R.dis i j a ha hb]
    · cases i with
      | zero => exact nd'.1
      | succ i => exact R.nd i
    · have := R.len
      simpa using this
    · cases j with
      | zero => exact List.mem_append_left _ z
      | succ j => exact List.mem_append_right _ (hA b ⟨j, z⟩)
theorem nm_all {F F' H H' : Hp} (gF : Same F F') : ∀ {mk : List Bool} {os : List O} {vs : List V} {B : List Addr}, TrL W F H os vs B → NM mk os → mutOk mk [] = true → TrL W F' H' os vs []
  | mk, [], vs, B, t, _, _ => by simp only [TrL] at t; unfold TrL; exact ⟨t.1, rfl⟩
  | [], o :: os, vs, B, t, nm, hm => by
    simp only [TrL] at t
    obtain ⟨v, r, B1, B2, rfl, rfl, t1, t2⟩ := t
    obtain ⟨⟨d, rfl⟩, nm⟩ := nm
    simp only [Tr] at t1
    simp only [TrL]
    exact ⟨v, r, [], [], rfl, rfl, tr_fr (t1.2.mono gF), nm_all gF t2 nm rfl⟩
  | m :: mk, o :: os, vs, B, t, nm, hm => by
    simp only [mutOk, Bool.and_eq_true] at hm
    have : m = false := by simpa using hm.1
    subst this
    simp only [TrL] at t
    obtain ⟨v, r, B1, B2, rfl, rfl, t1, t2⟩ := t
    obtain ⟨⟨d, rfl⟩, nm⟩ := nm
    simp only [Tr] at t1
    simp only [TrL]
    exact ⟨v, r, [], [], rfl, rfl, tr_fr (t1.2.mono gF), nm_all gF t2 nm hm.2⟩
theorem args_back {F F' H H' : Hp} {s' : Sl} {σ' : L2.St} {A' : Nat → List Addr} (gF : Same F F') (R : Rep W F' H' s' σ' A') : ∀ (mk : List Bool) (os : List O) (vs : List V) (B : List Addr) (l : Sl) (off : Nat), TrL W F H os vs B → NM mk os → (∀ k, l[k]? = s'[off + k]?) → (∀ k v, mk[k]? = some true → vs[k]? = some v → σ'[off + k]? = some (some v)) → mutOk mk l = true →
    ∃ C, TrL W F' H' (fnD.mkArgs mk os ((l.take os.length).map fun x => x.getD (.fr .non))) vs C ∧ C.Nodup ∧ ∀ b ∈ C, ∃ j, off ≤ j ∧ b ∈ A' j
  | mk, [], vs, B, l, off, t, nm, hl, hv, hm => by
    simp only [TrL] at t
    refine ⟨[], ?_, .nil, fun _ h => by cases h⟩
    have : fnD.mkArgs mk [] ((l.take ([] : List O).length).map fun x => x.getD (.fr .non)) = [] := by
      cases mk with
      | nil => rfl
      | cons m mk => cases m <;> rfl
    rw [this]
    unfold TrL
    exact ⟨t.1, rfl⟩
  | mk, o :: os, vs, B, [], off, t, nm, hl, hv, hm => by
    have : fnD.mkArgs mk (o :: os) ((([] : Sl).take (o :: os).length).map fun x => x.getD (.fr .non)) = o :: os := by
      cases mk with
      | nil => rfl
      | cons m mk => cases m <;> rfl
    rw [this]
    exact ⟨[], nm_all gF t nm hm, .nil, fun _ h => by cases h⟩
  | mk, o :: os, vs, B, x :: l, off, t, nm, hl, hv, hm => by
    simp only [TrL] at t
    obtain ⟨v, r, B1, B2, rfl, rfl, t1, t2⟩ := t
    have hl' : ∀ k, l[k]? = s'[off + 1 + k]? := fun k => by
      have := hl (k + 1)
      rw [show off + 1 + k = off + (k + 1) by omega, ← this]
      simp
    have rest : ∀ (mk' : List Bool), NM mk' os → (∀ k v, mk'[k]? = some true → r[k]? = some v → σ'[off + 1 + k]? = some (some v)) → mutOk mk' l = true → ∃ C, TrL W F' H' (fnD.mkArgs mk' os ((l.take os.length).map fun x => x.getD (.fr .non))) r C ∧ C.Nodup ∧ ∀ b ∈ C, ∃ j, off + 1 ≤ j ∧ b ∈ A' j := fun mk' n' v' m' => args_back gF R mk' os r B2 l (off + 1) t2 n' hl' v' m'
    have frz : (∃ d, o = .fr d) → ∀ C, TrL W F' H' (fnD.mkArgs mk.tail os ((l.take os.length).map fun x => x.getD (.fr .non))) r C → fnD.mkArgs mk (o :: os) (((x :: l).take (o :: os).length).map fun x => x.getD (.fr .non)) = o :: fnD.mkArgs mk.tail os ((l.take os.length).map fun x => x.getD (.fr .non)) → TrL W F' H' (fnD.mkArgs mk (o :: os) (((x :: l).take (o :: os).length).map fun x => x.getD (.fr .non))) (v :: r) C := fun ⟨d, hd⟩ C tc eq => by
      rw [eq]
      subst hd
      simp only [Tr] at t1
      simp only [TrL]
      exact ⟨v, r, [], C, rfl, rfl, tr_fr (t1.2.mono gF), tc⟩
    cases mk with
    | nil =>
      obtain ⟨hd, nm⟩ := nm
      obtain ⟨C, tc, nc, jc⟩ := rest [] nm (fun k v z => by simp at z) (by cases l <;> rfl)
      refine ⟨C, frz hd C tc (by simp [fnD.mkArgs]), nc, fun b hb => ?_⟩
      obtain ⟨j, h1, h2⟩ := jc b hb
      exact ⟨j, by omega, h2⟩
    | cons m mk =>
      have hv' : ∀ k v, mk[k]? = some true → r[k]? = some v → σ'[off + 1 + k]? = some (some v) := fun k v z1 z2 => by
        rw [show off + 1 + k = off + (k + 1) by omega]
        exact hv (k + 1) v (by simpa using z1) (by simpa using z2)
      simp only [mutOk, Bool.and_eq_true] at hm
      cases m with
      | false =>
        obtain ⟨hd, nm⟩ := nm
        obtain ⟨C, tc, nc, jc⟩ := rest mk nm hv' hm.2
        refine ⟨C, frz hd C tc (by simp [fnD.mkArgs]), nc, fun b hb => ?_⟩
        obtain ⟨j, h1, h2⟩ := jc b hb
        exact ⟨j, by omega, h2⟩
      | true =>
        obtain ⟨C, tc, nc, jc⟩ := rest mk nm hv' hm.2
        have hx : ∃ o', x = some o' := by
          have := hm.1
          cases x with
          | none => simp at this
          | some o' => exact ⟨o', rfl⟩
        obtain ⟨o', rfl⟩ := hx
        have hs : s'[off]? = some (some o') := by
          have := hl 0
          simpa using this.symm
        obtain ⟨w, hw, tw⟩ := R.slot off o' hs
        have hvw := hv 0 v rfl rfl
        rw [show off + 0 = off from rfl, hw] at hvw
        cases hvw
        refine ⟨A' off ++ C, ?_, nodup_app (R.nd off) nc fun b hb z => ?_, fun b hb => ?_⟩
        · have : fnD.mkArgs (true :: mk) (o :: os) (((some o' :: l).take (o :: os).length).map fun x => x.getD (.fr .non)) = o' :: fnD.mkArgs mk os ((l.take os.length).map fun x => x.getD (.fr .non)) := by simp [fnD.mkArgs]
          rw [this]
          simp only [TrL]
          exact ⟨v, r, A' off, C, rfl, rfl, tw, tc⟩
        · obtain ⟨j, h1, h2⟩ := jc b z
          have := R.dis off j b hb h2
          omega
        · rcases List.mem_append.mp hb with z | z
          · exact ⟨off, Nat.le_refl _, z⟩
          · obtain ⟨j, h1, h2⟩ := jc b z
            exact ⟨j, by omega, h2⟩
noncomputable def mutFree (mk : List Bool) (as : List Nat) : Bool := as.all fun i => decide (mk[i]? ≠ some true)
theorem fn_ok {P : Program} {w : World} {mg : Str → Option Value} {base : Heap} {k : Nat} {x : Str} {st : Stmt} {ps N : List Str} {mk : List Bool} {as : List Nat} {body : List CS} (D : Df W.K mg x st ps) (Sc : FnScope N ps (defScope st))
    (hc : chkSs N (defScope st) true as body (defBody st) = true) (hm : mutFree mk as = true) (hp : ps.length ≤ N.length) (n : NeedSs (Gam P w mg base W k) body) : OkX P w W.K mg base (k + 1) x ps (SpM W mk ps.length (fnD mk ps.length N.length body)) := by
  refine D.okX Sc (fun vs H Q E h => h.1) (fun f cdv A outer s H vs Q E hr h => ?_)
  obtain ⟨hl, F, os, B, nm, gF, tr, fr, nd, po⟩ := h
  obtain ⟨t, p1, p2⟩ := soundSs (E := fun c d _ H' => E c d H') gam_ok body (defBody st) hc n
  refine ⟨t, p1 _ ⟨⟨rfl, rfl, Sc.nd, rfl, rfl, ?_, fun y mk n f hf => ?_, fun y mk n f hf X' g => ?_, rfl, fun y hy => hy⟩, PassesOwn.leaving, fun _ => rfl⟩, ?_⟩
  · have := hr.un
    show (A.deeper _).units + 64 < cLine
    omega
  · obtain ⟨k', ps', hk, F'⟩ := hf
    intro es t p pos ha hs hn hg hok h0
    cases es with
    | nil =>
      have := h0 rfl
      subst this
      exact pe_callX0 thr_leave F' hr hk hg (okN_d hok).1
    | cons e es =>
      obtain ⟨s1, s2⟩ := star_not hs
      exact pe_callX thr_leave F' hr hk ha hg (okN_d hok).1 (star_cons s1) (star_any s2)
  · obtain ⟨k', ps', hk, F'⟩ := hf
    intro es t p pos ha hs hn hg hok h0
    have F2 : OkX X'.prog X'.w X'.K X'.mg X'.base k' y ps' (SpM W mk n f) := by rw [g.prog, g.w, g.K, g.mg, g.base]; exact F'
    have hr2 : Room k X'.A := by rw [g.A]; exact hr
    cases es with
    | nil =>
      have := h0 rfl
      subst this
      exact tCallX_n (pe_callN0 F2 hr2 hk hg (okN_d hok).1)
    | cons e es =>
      obtain ⟨s1, s2⟩ := star_not hs
      exact tCallX_n (pe_callN F2 hr2 hk ha hg (okN_d hok).1 (star_cons s1) (star_any s2))
  · have hol : os.length = ps.length := by rw [← tr.len, hl]
    obtain ⟨A0, R0, hA⟩ := trL_rep gF (N.length - ps.length) tr nd fr
    have hst : L2.start N vs = vs.map some ++ List.replicate (N.length - ps.length) none := by unfold L2.start; rw [hl]
    rw [hst]
    refine p2 F H _ _ A0 _ R0 ?_
    have mf : ∀ i, mk[i]? = some true → i ∉ as := fun i hi z => by
      unfold mutFree at hm
      rw [List.all_eq_true] at hm
      have := hm i z
      simp [hi] at this
    have back : ∀ {s' : Sl} {F' H' : Hp} {σ' : L2.St} {A' : Nat → List Addr}, Rep W F' H' s' σ' A' → Same F F' → (∀ i, i ∉ as → σ'[i]? = (vs.map some ++ List.replicate (N.length - ps.length) (none : Option V))[i]?) → mutOk mk s' = true → ∃ C, TrL W F' H' (fnD.mkArgs mk os (argsOf ps.length s')) vs C ∧ C.Nodup ∧ ∀ b ∈ C, Ow A' b := fun {s' F' H' σ' A'} R gF' kp mo => by
      obtain ⟨C, c1, c2, c3⟩ := args_back gF' R mk os vs B s' 0 tr nm (fun k => by rw [Nat.zero_add]) (fun k v z1 z2 => by
        rw [Nat.zero_add, kp k (mf k z1), List.getElem?_append_left (by
          rw [List.length_map]
          rcases Nat.lt_or_ge k vs.length with z | z
          · exact z
          · rw [List.getElem?_eq_none z] at z2; cases z2), List.getElem?_map, z2]
        rfl) mo
      refine ⟨C, ?_, c2, fun b hb => ?_⟩
      · unfold argsOf
        rw [hol] at c1
        exact c1
      · obtain ⟨j, _, hj⟩ := c3 b hb
        exact ⟨j, hj⟩
    unfold fnD at po
    have exB : ∀ {F' H' : Hp} {P' : Addr → Prop}, Ex F H (Ow A0) F' H' P' → Ex F H (· ∈ B) F' H' P' := fun e => e.more hA
    have lo : os.map some ++ List.replicate (N.length - ps.length) (none : Option O) = os.map some ++ List.replicate (N.length - ps.length) none := rfl
    revert po
    cases dSs body (os.map some ++ List.replicate (N.length - ps.length) none) with
    | nx s' =>
      intro po F' H' σ' A' p
      dsimp only at po
      split at po
      · rename_i mo
        obtain ⟨C, c1, c2, c3⟩ := back p.rep p.ex.sF p.kp mo
        refine po .non F' H' C [] ⟨p.rep.fh, c1, tr_non, fun b hb => ?_, by rw [List.append_nil]; exact c2, (exB p.ex).less fun b hb => ?_⟩
        · rw [List.append_nil] at hb
          obtain ⟨j, hj⟩ := c3 b hb
          exact (p.rep.own j b hj).1
        · rw [List.append_nil] at hb
          exact c3 b hb
      · exact po.elim
    | rt o s' =>
      intro po v F' H' σ' A' B' p
      dsimp only at po
      split at po
      · rename_i mo
        obtain ⟨C, c1, c2, c3⟩ := back p.rep p.ex.sF p.kp mo
        refine po v F' H' C B' ⟨p.rep.fh, c1, p.tr, fun b hb => ?_, nodup_app c2 p.nd fun b hb z => p.by_.nP b z (c3 b hb), (exB p.ex).less fun b hb => ?_⟩
        · rcases List.mem_append.mp hb with z | z
          · obtain ⟨j, hj⟩ := c3 b z
            exact (p.rep.own j b hj).1
          · exact p.by_.fr b z
        · rcases List.mem_append.mp hb with z | z
          · exact .inl (c3 b z)
          · exact .inr z
      · exact po.elim
    | bk s' => exact fun po => po.elim
    | ct s' => exact fun po => po.elim
    | ex x s' =>
      intro po c d F' H' σ' A' p hx
      dsimp only at po
      split at po
      · rename_i mo
        obtain ⟨C, c1, c2, c3⟩ := back p.rep p.ex.sF p.kp mo
        exact po c d F' H' C ⟨p.rep.fh, c1, fun b hb => by obtain ⟨j, hj⟩ := c3 b hb; exact (p.rep.own j b hj).1, c2, (exB p.ex).less fun b hb => c3 b hb⟩ hx
      · exact po.elim
    | no => exact fun po => po
end L3
namespace L3
open PySem L2 PySem.Spec PyProof.Rows
variable {W : Wd}

noncomputable def spLaw (K : PySem.W.Frag) : Sp := fun vs H Q _ => ∃ (a : Addr) (ns : List Int), vs = [.ref a] ∧ SqL K H a (ns.map V.int) ∧ ns.length ≤ 63 ∧ ∀ H', Q (.bl true) H'
theorem ints_is {F : Hp} : ∀ ns : List Int, IsVs W F (ns.map D.int) (ns.map V.int)
  | [] => by simp only [List.map_nil, IsVs]
  | n :: ns => by simp only [List.map_cons, IsVs]; exact ⟨_, _, rfl, (by simp only [IsV]), ints_is ns⟩
theorem law_ok {P : Program} {w : World} {mg : Str → Option Value} {base : Heap} {k : Nat} {x y : Str} {st : Stmt} {N : List Str} {as : List Nat} {body : List CS} (D : Df W.K mg x st [y]) (Sc : FnScope N [y] (defScope st))
    (hc : chkSs N (defScope st) true as body (defBody st) = true) (n : NeedSs (Gam P w mg base W k) body) (hl : ∀ ns : List Int, ns.length ≤ 63 → ∃ os', fnD [] 1 N.length body [.fr (.kl (ns.map .int))] = .ok (fb true) os') : OkF P w W.K mg base (k + 1) x [y] (spLaw W.K) := by
  refine D.ok Sc (fun vs H Q E h => by obtain ⟨_, _, rfl, _⟩ := h; rfl) (fun f cdv A outer s H vs Q E hr h => ?_)
  obtain ⟨a, ns, rfl, hS, h63, q⟩ := h
  obtain ⟨t, p1, p2⟩ := soundSs (E := fun _ _ _ _ => False) gam_ok body (defBody st) hc n
  have callN : ∀ X' : Cx, SameG (cxOf CX0 P w W.K mg base N x (defScope st) f cdv A outer s H E).nox X' → ∀ y mk n g, (Gam P w mg base W k).F y mk n g → CallOk W X' (fun _ _ _ _ => False) y mk n g := fun X' g y mk n f hf => by
    obtain ⟨k', ps', hk, F'⟩ := hf
    intro es t p pos ha hs hn hg hok h0
    have F2 : OkX X'.prog X'.w X'.K X'.mg X'.base k' y ps' (SpM W mk n f) := by rw [g.prog, g.w, g.K, g.mg, g.base]; exact F'
    have hr2 : Room k X'.A := by rw [g.A]; exact hr
    cases es with
    | nil =>
      have := h0 rfl
      subst this
      exact tCallX_n (pe_callN0 F2 hr2 hk hg (okN_d hok).1)
    | cons e es =>
      obtain ⟨s1, s2⟩ := star_not hs
      exact tCallX_n (pe_callN F2 hr2 hk ha hg (okN_d hok).1 (star_cons s1) (star_any s2))
  refine ⟨t, p1 _ ⟨⟨rfl, rfl, Sc.nd, rfl, rfl, ?_, fun y mk n f hf => callN _ ⟨rfl, rfl, rfl, rfl, rfl, rfl⟩ y mk n f hf, fun y mk n f hf X' g => callN X' g y mk n f hf, rfl, fun y hy => hy⟩, PassesOwn.never, fun _ => rfl⟩, ?_⟩
  · have := hr.un
    show (A.deeper _).units + 64 < cLine
    omega
  · have tr : TrL W H H [.fr (.kl (ns.map .int))] [.ref a] [] := by
      simp only [TrL]
      refine ⟨_, _, [], [], rfl, rfl, tr_fr ?_, rfl, rfl⟩
      unfold IsV
      exact ⟨a, _, rfl, hS, ints_is ns, by rw [List.length_map]; omega⟩
    obtain ⟨A0, R0, hA⟩ := trL_rep (fun _ _ h => h) (N.length - 1) tr .nil (fun _ h => by cases h)
    refine p2 H H _ _ A0 _ R0 ?_
    obtain ⟨os', e⟩ := hl ns h63
    unfold fnD at e
    revert e
    show (match dSs body ([some (.fr (.kl (ns.map .int)))] ++ List.replicate (N.length - 1) none) with
      | .nx s => _
      | .rt o s => _
      | .ex x s => _
      | _ => _) = _ → PoS W _ as H H A0 _ _ (dSs body ([some (.fr (.kl (ns.map .int)))] ++ List.replicate (N.length - 1) none))
    cases dSs body ([some (.fr (.kl (ns.map .int)))] ++ List.replicate (N.length - 1) none) with
    | nx s' =>
      intro e
      simp only [mutOk, if_true, fb] at e
      cases e
    | rt o s' =>
      intro e v F' H' σ' A' B p
      simp only [mutOk, if_true] at e
      cases e
      have hv : v = .bl true := fz_bl p.tr rfl
      rw [hv]
      exact q H'
    | bk s' => exact fun e => by cases e
    | ct s' => exact fun e => by cases e
    | ex x s' =>
      intro e
      simp only [mutOk, if_true, fb] at e
      cases e
    | no => exact fun e => by cases e
end L3

set_option Elab.async false
set_option linter.all false
set_option maxRecDepth 100000
namespace L3
open PySem L2 PySem.Spec PyProof.Rows

section
variable {x y : O} {s s1 : Sl} {k : O → Sl → Rv} {k2 : O → O → Sl → Rv} {g : Sl → Rv} {q : Bool} {e : Exn} {kb : Bool → Sl → Rv} {ki : Option Int → Sl → Rv} {b : Bool} {o : O} {i : Int} {os : List O} {d : D}
theorem at_fr : Rv.at (some (.fr d)) s = .ok (.fr d) s := (rfl)
theorem at_fl {xs : List D} : Rv.at (some (.fl xs)) s = .bw (.fl xs) s := (rfl)
theorem scal_ok {os' : List O} (h : scalD d = true) : (Fr.ok (.fr d) os').scal s = .ok (.fr d) s := by simp only [Fr.scal, h, if_true]
end

theorem for_inv {bd : D → Sl → Option Sl} {body : Sl → Fw} : ∀ {ds : List D} {s : Sl} (I : Nat → Sl → Prop), I 0 s → (∀ i d s, ds[i]? = some d → I i s → ∃ s1 s2, bd d s = some s1 ∧ body s1 = .nx s2 ∧ I (i + 1) s2) → ∃ s', forLoop bd body ds s = .nx s' ∧ I ds.length s'
  | [], s, I, h0, _ => ⟨s, by simp only [forLoop], h0⟩
  | d :: ds, s, I, h0, h => by
    obtain ⟨s1, s2, h1, h2, h3⟩ := h 0 d s rfl h0
    simp only [forLoop, h1, h2, List.length_cons]
    exact for_inv (fun i => I (i + 1)) h3 fun i d s hd => h (i + 1) d s (by simpa using hd)
theorem wh_inv {t : Sl → Rv} {body : Sl → Fw} (I : Nat → Sl → Prop) (Z : Sl → Prop) (hs : ∀ m s, I m s → (∃ s1, t s = .ok (.fr (.bl false)) s1 ∧ Z s1) ∨ ∃ s1, t s = .ok (.fr (.bl true)) s1 ∧ ((∃ s2 m', body s1 = .nx s2 ∧ m' < m ∧ I m' s2) ∨ ∃ s2, body s1 = .bk s2 ∧ Z s2)) :
    ∀ (n m : Nat) (s : Sl), m < n → I m s → ∃ s', whLoop t body n s = .nx s' ∧ Z s'
  | 0, m, s, h, _ => absurd h (Nat.not_lt_zero _)
  | n + 1, m, s, hm, hi => by
    rcases hs m s hi with ⟨s1, h1, h2⟩ | ⟨s1, h1, ⟨s2, m', h2, h3, h4⟩ | ⟨s2, h2, h3⟩⟩
    · exact ⟨s1, by simp only [whLoop, h1], h2⟩
    · obtain ⟨s', h5, h6⟩ := wh_inv I Z hs n m' s2 (by omega) h4
      exact ⟨s', by simp only [whLoop, h1, h2, h5], h6⟩
    · exact ⟨s2, by simp only [whLoop, h1, h2], h3⟩

end L3
namespace L3
open PySem L2
section
variable {α : Type} {a b c d e : α} {l : List α}
theorem atI_lit {xs : List α} {n : Nat} {x : α} (h : xs[n]? = some x) : atI xs (n : Int) = some x := by
  have hl : n < xs.length := by
    rcases Nat.lt_or_ge n xs.length with z | z
    · exact z
    · rw [List.getElem?_eq_none z] at h; cases h
  unfold atI ixN
  rw [if_pos (by omega), if_pos (by omega)]
  simpa using h
theorem atI_c0 : atI (a :: l) 0 = some a := atI_lit (n := 0) rfl
theorem atI_c1 : atI (a :: b :: l) 1 = some b := atI_lit (n := 1) rfl
theorem atI_c2 : atI (a :: b :: c :: l) 2 = some c := atI_lit (n := 2) rfl
theorem atI_c3 : atI (a :: b :: c :: d :: l) 3 = some d := atI_lit (n := 3) rfl
theorem atI_c4 : atI (a :: b :: c :: d :: e :: l) 4 = some e := atI_lit (n := 4) rfl
end

inductive K1 where
  | neg | t | not | rev | b1 (b : B1) | isi (k : TyK)
noncomputable def K1.run : K1 → O → Sl → Rv
  | .neg, x, s => .of (negO x) s
  | .t, x, s => .ob (truD x.fz) s
  | .not, x, s => match x with
    | .fr (.bl c) => .ok (.fr (.bl (!c))) s
    | _ => .no
  | .rev, x, s => .of (revO x) s
  | .b1 b, x, s => .of (b1O b x) s
  | .isi k, x, s => .ob (isiO x k) s
inductive K2 where
  | bin (op : BO) | cmp (op : CO) | ix | b2 (b : B2)
noncomputable def K2.run : K2 → O → O → Sl → Rv
  | .bin op, x, y, s => .of (binO op x y) s
  | .cmp op, x, y, s => .ob (cmpO op x y) s
  | .ix, x, y, s => .at (ixO x y) s
  | .b2 b, x, y, s => .of (b2O b x y) s
noncomputable def Rv.k1 (r : Rv) (k : K1) : Rv := match r with
  | .ok x s => k.run x s
  | .bw x s => k.run x s
  | .ex e s => .ex e s
  | .no => .no
noncomputable def Rv.k2b (r : Rv) (k : K2) (x : O) : Rv := match r with
  | .ok y s => k.run x y s
  | .bw y s => k.run x y s
  | .ex e s => .ex e s
  | .no => .no
noncomputable def Rv.k2 (r : Rv) (k : K2) (q : Bool) (g : Sl → Rv) : Rv := match r with
  | .ok x s => (g s).k2b k x
  | .bw x s => if q = true then (g s).k2b k x else .no
  | .ex e s => .ex e s
  | .no => .no
noncomputable def Rv.tbK (r : Rv) (k : Bool) (g : Sl → Rv) : Rv := match r with
  | .ok (.fr (.bl c)) s => if c = k then g s else .ok (.fr (.bl c)) s
  | .ex e s => .ex e s
  | _ => .no
noncomputable def Rv.ifE (r : Rv) (f g : Sl → Rv) : Rv := match r with
  | .ok (.fr (.bl c)) s => if c = true then f s else g s
  | .ex e s => .ex e s
  | _ => .no
noncomputable def Rv.consK (r : Rv) (g : Sl → Rl) : Rl := match r with
  | .ok o s => (g s).cons o
  | .ex e s => .ex e s
  | _ => .no
noncomputable def Rv.consQ (r : Rv) (g : Sl → Rl) : Rl := match r with
  | .ok o s => (g s).cons o
  | .bw o s => (g s).cons o
  | .ex e s => .ex e s
  | _ => .no
noncomputable def Rv.frK (r : Rv) (g : Sl → Rl) : Rl := match r with
  | .ok o s => (g s).cons (.fr o.fz)
  | .ex e s => .ex e s
  | _ => .no
noncomputable def takeK (o : Option (Option O)) (i : Nat) (s : Sl) (g : Sl → Rl) : Rl := match o with
  | some (some o) => (g (s.set i none)).cons o
  | _ => .no
inductive KL where
  | lst | lsd | tup | tpd
noncomputable def KL.mk : KL → List O → O
  | .lst, os => .fl (fzs os)
  | .lsd, os => .ol os
  | .tup, os => .fr (.tp (fzs os))
  | .tpd, os => .tp os
noncomputable def Rl.mkK (r : Rl) (k : KL) : Rv := match r with
  | .ok os s => if os.length ≤ 16777216 then .ok (k.mk os) s else .no
  | .ex e s => .ex e s
  | .no => .no
noncomputable def Fr.putK (r : Fr) (mk : List Bool) (es : List CE) (s : Sl) : Rv := match r with
  | .ok o os' => .ok o (putA mk es os' s)
  | .ex x os' => .ex x (putA mk es os' s)
  | .no => .no
noncomputable def Rl.callK (r : Rl) (mk : List Bool) (es : List CE) (f : Fn) : Rv := match r with
  | .ok os s => (f os).putK mk es s
  | .ex e s => .ex e s
  | .no => .no
noncomputable def Rl.callBK (r : Rl) (f : Fn) : Rv := match r with
  | .ok os s => (f (os.map fun o => .fr o.fz)).scal s
  | .ex e s => .ex e s
  | .no => .no
noncomputable def Rp.dspK (r : Rp) : Rv := match r with
  | .ok ks ds s => if ks.length ≤ 15 then .ok (.fd (dputs [] [] ks ds).1 (dputs [] [] ks ds).2) s else .no
  | .ex e s => .ex e s
  | .no => .no
noncomputable def muAt (m : MU) (i : Nat) (st : List Nat) (os : List O) (s : Sl) : Rv := match s[i]? with
  | some (some o) => match getO o st with
    | some x => match muO m x os with
      | some (x', r) => .ok r (s.set i (some (setO o st x')))
      | none => .no
    | none => .no
  | _ => .no
noncomputable def Rl.muL (r : Rl) (m : MU) (i : Nat) (st : List Nat) : Rv := match r with
  | .ok os s => muAt m i st os s
  | .ex e s => .ex e s
  | .no => .no
noncomputable def muK (p : Option (Nat × List Nat)) (m : MU) (es : List CE) (s : Sl) (g : Sl → Rl) : Rv := match p with
  | some (i, st) => if (lsAt s i st && (st.isEmpty || quiets es)) = true then (g s).muL m i st else .no
  | none => .no
noncomputable def Rv.slA (r : Rv) (x : O) (l : Option Int) : Rv := match r with
  | .ok (.fr (.int h)) s => .of (slO x l (some h)) s
  | .ex e s => .ex e s
  | _ => .no
noncomputable def slB (x : O) (l : Option Int) (hi : List CE) (s : Sl) : Rv := match hi with
  | [] => .of (slO x l none) s
  | e :: es => if es.isEmpty = true then (dE e s).slA x l else .no
noncomputable def Rv.slL (r : Rv) (x : O) (hi : List CE) : Rv := match r with
  | .ok (.fr (.int l)) s => slB x (some l) hi s
  | .ex e s => .ex e s
  | _ => .no
noncomputable def slC (x : O) (lo hi : List CE) (s : Sl) : Rv := match lo with
  | [] => slB x none hi s
  | e :: es => if es.isEmpty = true then (dE e s).slL x hi else .no
noncomputable def Rv.slK (r : Rv) (lo hi : List CE) : Rv := match r with
  | .ok x s => slC x lo hi s
  | .bw x s => if (quiets lo && quiets hi) = true then slC x lo hi s else .no
  | .ex e s => .ex e s
  | .no => .no
noncomputable def Rv.get2B (r : Rv) (x y : O) : Rv := match r with
  | .ok z s => .of (get2O x y z) s
  | .ex e s => .ex e s
  | _ => .no
noncomputable def Rv.get2A (r : Rv) (x : O) (g : Sl → Rv) : Rv := match r with
  | .ok y s => (g s).get2B x y
  | .ex e s => .ex e s
  | _ => .no
noncomputable def Rv.get2K (r : Rv) (f g : Sl → Rv) : Rv := match r with
  | .ok x s => if isDc x = true then (f s).get2A x g else .no
  | .ex e s => .ex e s
  | _ => .no
noncomputable def Rv.keyB (r : Rv) (y : O) (g : Sl → Rp) : Rp := match r with
  | .ok z s => match keyD [y.fz] with
    | some [key] => (g s).cons key z.fz
    | _ => .no
  | .ex e s => .ex e s
  | _ => .no
noncomputable def Rv.keyK (r : Rv) (f : Sl → Rv) (g : Sl → Rp) : Rp := match r with
  | .ok y s => (f s).keyB y g
  | .ex e s => .ex e s
  | _ => .no

noncomputable def Fw.seq (r : Fw) (g : Sl → Fw) : Fw := match r with
  | .nx s => g s
  | .rt o s => .rt o s
  | .bk s => .bk s
  | .ct s => .ct s
  | .ex e s => .ex e s
  | .no => .no
noncomputable def Fw.ofo (o : Option Sl) : Fw := match o with
  | some s => .nx s
  | none => .no
noncomputable def Rv.retK (r : Rv) : Fw := match r with
  | .ok o s => .rt o s
  | .ex e s => .ex e s
  | _ => .no
noncomputable def Rv.asgK (r : Rv) (t : CT) : Fw := match r with
  | .ok o s => .ofo (asgT t o s)
  | .ex e s => .ex e s
  | _ => .no
noncomputable def Rv.exK (r : Rv) : Fw := match r with
  | .ok _ s => .nx s
  | .bw _ s => .nx s
  | .ex e s => .ex e s
  | .no => .no
noncomputable def Rv.ifK (r : Rv) (f g : Sl → Fw) : Fw := match r with
  | .ok (.fr (.bl c)) s => if c = true then f s else g s
  | .ex e s => .ex e s
  | _ => .no
noncomputable def Ri.forK (r : Ri) (t : CT) (g : Sl → Fw) : Fw := match r with
  | .ok ds s => forLoop (bindD t) g ds s
  | .ex e s => .ex e s
  | .no => .no
noncomputable def Fw.fin (r : Fw) (mk : List Bool) (os : List O) (np : Nat) : Fr := match r with
  | .nx s => if mutOk mk s = true then .ok (.fr .non) (fnD.mkArgs mk os (argsOf np s)) else .no
  | .rt o s => if mutOk mk s = true then .ok o (fnD.mkArgs mk os (argsOf np s)) else .no
  | .ex x s => if mutOk mk s = true then .ex x (fnD.mkArgs mk os (argsOf np s)) else .no
  | _ => .no
section
variable {s : Sl} {a b c e : CE} {es : List CE} {cs : List CS} {i : Nat} {o : O} {d : D}
theorem ev_c : dE (.c d) s = .ok (.fr d) s := by simp only [dE]
theorem ev_bin {op : BO} : dE (.bin op a b) s = (dE a s).k2 (.bin op) (quiet b) (dE b) := by
  simp only [dE, Rv.two, Rv.k2]; cases dE a s <;> simp only [Rv.one, Rv.k2b, K2.run] <;> rfl
theorem ev_cmp {op : CO} : dE (.cmp op a b) s = (dE a s).k2 (.cmp op) (quiet b) (dE b) := by
  simp only [dE, Rv.two, Rv.k2]; cases dE a s <;> simp only [Rv.one, Rv.k2b, K2.run] <;> rfl
theorem ev_ix : dE (.ix a b) s = (dE a s).k2 .ix (quiet b) (dE b) := by
  simp only [dE, Rv.two, Rv.k2]; cases dE a s <;> simp only [Rv.one, Rv.k2b, K2.run] <;> rfl
theorem ev_b2 {k : B2} : dE (.b2 k a b) s = (dE a s).k2 (.b2 k) (quiet b) (dE b) := by
  simp only [dE, Rv.two, Rv.k2]; cases dE a s <;> simp only [Rv.one, Rv.k2b, K2.run] <;> rfl
theorem ev_t : dE (.t a) s = (dE a s).k1 .t := by simp only [dE]; cases dE a s <;> rfl
theorem ev_rev : dE (.rev a) s = (dE a s).k1 .rev := by simp only [dE]; cases dE a s <;> rfl
theorem ev_b1 {k : B1} : dE (.b1 k a) s = (dE a s).k1 (.b1 k) := by simp only [dE]; cases dE a s <;> rfl
theorem ev_isi {k : TyK} : dE (.isi a k) s = (dE a s).k1 (.isi k) := by simp only [dE]; cases dE a s <;> rfl

end
end L3

set_option Elab.async false
set_option linter.all false
set_option maxRecDepth 100000
namespace L3
open PySem L2
noncomputable def Rv.notK (r : Rv) : Rv := match r with
  | .ok (.fr (.bl c)) s => .ok (.fr (.bl (!c))) s
  | .ex e s => .ex e s
  | _ => .no
section
variable {s s1 : Sl} {a b c e : CE} {es ks lo hi its ifs : List CE} {cs ds' : List CS} {i : Nat} {o x y : O} {d : D} {mk : List Bool} {f : Fn} {g : Sl → Rv} {gl : Sl → Rl} {gs gs' : Sl → Fw}
theorem ev_tn : dE (.tn a) s = (dE a s).notK := by simp only [dE]; cases dE a s with
  | ok o s => unfold Rv.bool Rv.notK; cases o with
    | fr d => cases d <;> rfl
    | _ => rfl
  | _ => rfl
theorem ev_b : dE (.b i) s = match s[i]? with
    | some (some (.fr d)) => .ok (.fr d) s
    | some (some o) => .bw o s
    | _ => .no := by simp only [dE] <;> rfl
theorem ev_v : dE (.v i) s = match s[i]? with
    | some (some o) => .ok (.fr o.fz) (s.set i (some (.fr o.fz)))
    | _ => .no := by simp only [dE] <;> rfl
theorem ev_m : dE (.m i) s = match s[i]? with
    | some (some o) => .ok o (s.set i none)
    | _ => .no := by simp only [dE] <;> rfl
theorem ev_tb {k : Bool} : dE (.tb k es) s = dTb k es s := by simp only [dE]
theorem ev_tb0 {k : Bool} : dTb k [] s = .ok (.fr (.bl k)) s := by simp only [dTb, fb]
theorem ev_tb1 {k : Bool} : dTb k (e :: es) s = (dE e s).tbK k (dTb k es) := by simp only [dTb]; cases dE e s with
  | ok o s => unfold Rv.bool Rv.tbK; cases o with
    | fr d => cases d <;> rfl
    | _ => rfl
  | _ => rfl
theorem ev_ife : dE (.ife c a b) s = (dE c s).ifE (dE a) (dE b) := by simp only [dE]; cases dE c s with
  | ok o s => unfold Rv.bool Rv.ifE; cases o with
    | fr d => cases d <;> rfl
    | _ => rfl
  | _ => rfl
theorem ev_lst : dE (.lst es) s = (dEs es s).mkK .lst := by simp only [dE]; cases dEs es s <;> rfl
theorem ev_lsd : dE (.lsd es) s = (dEs es s).mkK .lsd := by simp only [dE]; cases dEs es s <;> rfl
theorem ev_tup : dE (.tup es) s = (dEs es s).mkK .tup := by simp only [dE]; cases dEs es s <;> rfl
theorem ev_es0 : dEs [] s = .ok [] s := by simp only [dEs]
theorem ev_es1 : dEs (e :: es) s = (dE e s).consK (dEs es) := by simp only [dEs]; cases dE e s <;> rfl
theorem ev_qs0 : dQs [] s = .ok [] s := by simp only [dQs]
theorem ev_qs1 : dQs (e :: es) s = (dE e s).consQ (dQs es) := by simp only [dQs]; cases dE e s <;> rfl
theorem ev_as0 : dAs mk [] s = .ok [] s := by simp only [dAs]
theorem ev_as1 : dAs [] (e :: es) s = (dE e s).frK (dAs [] es) := by
  simp only [dAs, List.head?_nil, reduceCtorEq, if_false, List.tail_nil]; cases dE e s <;> rfl
theorem ev_as2 : dAs (false :: mk) (e :: es) s = (dE e s).frK (dAs mk es) := by
  simp only [dAs, List.head?_cons, Option.some.injEq, Bool.false_eq_true, if_false, List.tail_cons]; cases dE e s <;> rfl
theorem ev_as3 : dAs (true :: mk) (.b i :: es) s = takeK s[i]? i s (dAs mk es) := by
  simp only [dAs, List.head?_cons, if_true, isB, List.tail_cons, takeK]
  all_goals rfl
theorem ev_call {x : Str} : dE (.call x mk f es) s = (dAs mk es s).callK mk es f := by
  simp only [dE]; cases dAs mk es s with
  | ok os s1 => simp only [Rl.callK]; cases f os <;> rfl
  | _ => rfl
theorem ev_callB {x : Str} (h : quiets es = true) : dE (.callB x f es) s = (dQs es s).callBK f := by
  simp only [dE, h, if_true]; cases dQs es s <;> rfl
theorem ev_dsp : dE (.dsp es) s = (dPs es s).dspK := by simp only [dE]; cases dPs es s <;> rfl
theorem ev_ps0 : dPs [] s = .ok [] [] s := by simp only [dPs]
theorem ev_ps1 : dPs (a :: b :: es) s = (dE a s).keyK (dE b) (dPs es) := by
  simp only [dPs]; cases dE a s with
  | ok y s1 => simp only [Rv.keyK]; cases dE b s1 <;> rfl
  | _ => rfl
theorem ev_sl : dE (.sl a lo hi) s = (dE a s).slK lo hi := by
  have hB : ∀ x l s, (dOp hi s fun h s3 => Rv.of (slO x l h) s3) = slB x l hi s := fun x l s => by
    unfold slB
    cases hi with
    | nil => simp only [dOp]
    | cons e es =>
      simp only [dOp]
      split
      · cases dE e s with
        | ok o s => unfold Rv.part Rv.slA; cases o with
          | fr d => cases d <;> rfl
          | _ => rfl
        | _ => rfl
      · rfl
  have hC : ∀ x s, (dOp lo s fun l s2 => dOp hi s2 fun h s3 => Rv.of (slO x l h) s3) = slC x lo hi s := fun x s => by
    unfold slC
    cases lo with
    | nil => simp only [dOp]; exact hB x none s
    | cons e es =>
      simp only [dOp]
      split
      · cases dE e s with
        | ok o s => unfold Rv.part Rv.slL; cases o with
          | fr d => cases d with
            | int i => exact hB x (some i) s
            | _ => rfl
          | _ => rfl
        | _ => rfl
      · rfl
  simp only [dE]
  cases dE a s with
  | ok x s1 => exact hC x s1
  | bw x s1 =>
    simp only [Rv.slK]
    split
    · exact hC x s1
    · rfl
  | _ => rfl
theorem ev_get2 : dE (.get2 a b c) s = (dE a s).get2K (dE b) (dE c) := by
  simp only [dE]; cases dE a s with
  | ok x s1 =>
    simp only [Rv.get2K]
    split
    · cases dE b s1 with
      | ok y s2 => simp only [Rv.get2A]; cases dE c s2 <;> rfl
      | _ => rfl
    · rfl
  | _ => rfl
theorem ev_mu {m : MU} : dE (.mu m a es) s = muK (pathOf a s) m es s (dEs es) := by
  simp only [dE, muK]
  cases pathOf a s with
  | none => rfl
  | some p =>
    obtain ⟨i, st⟩ := p
    simp only []
    split
    · cases dEs es s with
      | ok os s1 => simp only [Rl.muL, muAt] <;> rfl
      | _ => rfl
    · rfl
theorem k1_ok {k : K1} : (Rv.ok x s).k1 k = k.run x s := (rfl)
theorem k1_bw {k : K1} : (Rv.bw x s).k1 k = k.run x s := (rfl)
theorem k2_ok {k : K2} {q : Bool} : (Rv.ok x s).k2 k q g = (g s).k2b k x := (rfl)
theorem k2_bw {k : K2} : (Rv.bw x s).k2 k true g = (g s).k2b k x := (rfl)
theorem k2b_ok {k : K2} : (Rv.ok y s).k2b k x = k.run x y s := (rfl)
theorem k2b_bw {k : K2} : (Rv.bw y s).k2b k x = k.run x y s := (rfl)
theorem r_t : K1.t.run x s = .ob (truD x.fz) s := (rfl)
theorem r_rev : K1.rev.run x s = .of (revO x) s := (rfl)
theorem r_b1 {k : B1} : (K1.b1 k).run x s = .of (b1O k x) s := (rfl)
theorem r_isi {k : TyK} : (K1.isi k).run x s = .ob (isiO x k) s := (rfl)
theorem r_bin {op : BO} : (K2.bin op).run x y s = .of (binO op x y) s := (rfl)
theorem r_cmp {op : CO} : (K2.cmp op).run x y s = .ob (cmpO op x y) s := (rfl)
theorem r_ix : K2.ix.run x y s = .at (ixO x y) s := (rfl)
theorem r_b2 {k : B2} : (K2.b2 k).run x y s = .of (b2O k x y) s := (rfl)
theorem of_ok : Rv.of (some x) s = .ok x s := (rfl)
theorem ob_ok {b : Bool} : Rv.ob (some b) s = .ok (.fr (.bl b)) s := (rfl)
theorem notK_ok {b : Bool} : (Rv.ok (.fr (.bl b)) s).notK = .ok (.fr (.bl (!b))) s := (rfl)
theorem tbK_ok {b k : Bool} : (Rv.ok (.fr (.bl b)) s).tbK k g = if b = k then g s else .ok (.fr (.bl b)) s := (rfl)
theorem ifE_ok {b : Bool} {h : Sl → Rv} : (Rv.ok (.fr (.bl b)) s).ifE g h = if b = true then g s else h s := (rfl)
theorem consK_ok : (Rv.ok o s).consK gl = (gl s).cons o := (rfl)
theorem consQ_ok : (Rv.ok o s).consQ gl = (gl s).cons o := (rfl)
theorem consQ_bw : (Rv.bw o s).consQ gl = (gl s).cons o := (rfl)
theorem frK_ok : (Rv.ok o s).frK gl = (gl s).cons (.fr o.fz) := (rfl)
theorem takeK_ok : takeK (some (some o)) i s gl = (gl (s.set i none)).cons o := (rfl)
theorem rl_cons {os : List O} : (Rl.ok os s).cons o = .ok (o :: os) s := (rfl)
theorem mkK_ok {k : KL} {os : List O} : (Rl.ok os s).mkK k = if os.length ≤ 16777216 then .ok (k.mk os) s else .no := (rfl)
theorem mk_lst {os : List O} : KL.lst.mk os = .fl (fzs os) := (rfl)
theorem mk_lsd {os : List O} : KL.lsd.mk os = .ol os := (rfl)
theorem mk_tup {os : List O} : KL.tup.mk os = .fr (.tp (fzs os)) := (rfl)
theorem callK_ok {os : List O} : (Rl.ok os s).callK mk es f = (f os).putK mk es s := (rfl)
theorem putK_ok {os : List O} : (Fr.ok o os).putK mk es s = .ok o (putA mk es os s) := (rfl)
theorem putA_n {os : List O} : putA [] es os s = s := by simp only [putA]
theorem putA_n2 : putA mk [] [] s = s := by
  cases mk with
  | nil => simp only [putA]
  | cons m mk => simp only [putA]
theorem putA_f {os : List O} : putA (false :: mk) (e :: es) (o :: os) s = putA mk es os s := by cases e <;> simp only [putA]
theorem putA_t {os : List O} : putA (true :: mk) (.b i :: es) (o :: os) s = putA mk es os (s.set i (some o)) := by simp only [putA]
theorem callBK_ok {os : List O} : (Rl.ok os s).callBK f = (f (os.map fun o => .fr o.fz)).scal s := (rfl)
theorem dspK_ok {ks : List Key} {ds : List D} : (Rp.ok ks ds s).dspK = if ks.length ≤ 15 then .ok (.fd (dputs [] [] ks ds).1 (dputs [] [] ks ds).2) s else .no := (rfl)
theorem keyK_ok {gp : Sl → Rp} : (Rv.ok y s).keyK g gp = (g s).keyB y gp := (rfl)
theorem keyB_str {t : List Nat} {gp : Sl → Rp} : (Rv.ok o s).keyB (.fr (.str t)) gp = (gp s).cons (.inr (S t)) o.fz := (rfl)
theorem rp_cons {k : Key} {ks : List Key} {ds : List D} : (Rp.ok ks ds s).cons k d = .ok (k :: ks) (d :: ds) s := (rfl)
theorem muK_ok {m : MU} {st : List Nat} (h : (lsAt s i st && (st.isEmpty || quiets es)) = true) : muK (some (i, st)) m es s gl = (gl s).muL m i st := by simp only [muK, h, if_true]
theorem muL_ok {m : MU} {st : List Nat} {os : List O} : (Rl.ok os s).muL m i st = muAt m i st os s := (rfl)
theorem slK_ok : (Rv.ok x s).slK lo hi = slC x lo hi s := (rfl)
theorem slC0 : slC x [] hi s = slB x none hi s := (rfl)
theorem slB1 {l : Option Int} : slB x l [e] s = (dE e s).slA x l := (rfl)
theorem slA_ok {h : Int} {l : Option Int} : (Rv.ok (.fr (.int h)) s).slA x l = .of (slO x l (some h)) s := (rfl)
theorem get2K_ok {h : Sl → Rv} (hd : isDc x = true) : (Rv.ok x s).get2K g h = (g s).get2A x h := by simp only [Rv.get2K, hd, if_true]
theorem get2A_ok : (Rv.ok y s).get2A x g = (g s).get2B x y := (rfl)
theorem get2B_ok : (Rv.ok o s).get2B x y = .of (get2O x y o) s := (rfl)
theorem it_some {k : IK} {os : List O} {ds : List D} (h : itD k (fzs os) = some ds) : (Rl.ok os s).it k = .ok ds s := by simp only [Rl.it, h]

theorem ev_ss0 : dSs [] s = .nx s := by simp only [dSs]
theorem ev_ss1 {c : CS} : dSs (c :: cs) s = (dS c s).seq (dSs cs) := by simp only [dSs]; cases dS c s <;> rfl
theorem ev_ret : dS (.ret e) s = (dE e s).retK := by simp only [dS]; cases dE e s <;> rfl
theorem ev_asg {t : CT} : dS (.asg t e) s = (dE e s).asgK t := by
  simp only [dS]; cases dE e s with
  | ok o s1 => simp only [Rv.asgK]; cases asgT t o s1 <;> rfl
  | _ => rfl
theorem ev_ex : dS (.ex e) s = (dE e s).exK := by simp only [dS]; cases dE e s <;> rfl
theorem ev_brk : dS .brk s = .bk s := by simp only [dS]
theorem ev_if : dS (.ife e cs ds') s = (dE e s).ifK (dSs cs) (dSs ds') := by
  simp only [dS]; cases dE e s with
  | ok o s => unfold Rv.ifK; cases o with
    | fr d => cases d with
      | bl c => cases c <;> rfl
      | _ => rfl
    | _ => rfl
  | _ => rfl
theorem ev_for {t : CT} {k : IK} : dS (.loop t k its cs) s = ((dEs its s).it k).forK t (dSs cs) := by simp only [dS]; cases (dEs its s).it k <;> rfl
theorem ev_whl {n : Nat} : dS (.whl n e cs) s = whLoop (dE e) (dSs cs) n s := by simp only [dS]
theorem seq_nx : (Fw.nx s).seq gs = gs s := (rfl)
theorem seq_rt : (Fw.rt o s).seq gs = .rt o s := (rfl)
theorem seq_bk : (Fw.bk s).seq gs = .bk s := (rfl)
theorem seq_ite {p : Prop} [Decidable p] {r r' : Fw} : (if p then r else r').seq gs = if p then r.seq gs else r'.seq gs := by split <;> rfl
theorem ite_okb {p : Prop} [Decidable p] {a b : Bool} : (if p then Rv.ok (.fr (.bl a)) s else Rv.ok (.fr (.bl b)) s) = Rv.ok (.fr (.bl (if p then a else b))) s := by split <;> rfl
theorem retK_ok : (Rv.ok o s).retK = .rt o s := (rfl)
theorem asgK_ok {t : CT} : (Rv.ok o s).asgK t = .ofo (asgT t o s) := (rfl)
theorem ofo_some : Fw.ofo (some s) = .nx s := (rfl)
theorem asg_v : asgT (.v i) o s = some (s.set i (some o)) := by simp only [asgT]
theorem exK_ok : (Rv.ok o s).exK = .nx s := (rfl)
theorem ifK_ok {b : Bool} : (Rv.ok (.fr (.bl b)) s).ifK gs gs' = if b = true then gs s else gs' s := (rfl)
theorem forK_ok {t : CT} {ds : List D} : (Ri.ok ds s).forK t gs = forLoop (bindD t) gs ds s := (rfl)
theorem ev_fn {np nl : Nat} {os : List O} : fnD mk np nl cs os = (dSs cs (os.map some ++ List.replicate (nl - np) none)).fin mk os np := by
  unfold fnD; cases dSs cs (os.map some ++ List.replicate (nl - np) none) <;> rfl
theorem fin_rt {os : List O} {np : Nat} : (Fw.rt o s).fin mk os np = if mutOk mk s = true then .ok o (fnD.mkArgs mk os (argsOf np s)) else .no := (rfl)
theorem fin_nx {os : List O} {np : Nat} : (Fw.nx s).fin mk os np = if mutOk mk s = true then .ok (.fr .non) (fnD.mkArgs mk os (argsOf np s)) else .no := (rfl)
theorem fin_ite {p : Prop} [Decidable p] {r r' : Fw} {os : List O} {np : Nat} : (if p then r else r').fin mk os np = if p then r.fin mk os np else r'.fin mk os np := by split <;> rfl
theorem mutOk_n {s : Sl} : mutOk [] s = true := by cases s <;> rfl
theorem mkArgs_n {os ns : List O} : fnD.mkArgs [] os ns = os := by cases os <;> cases ns <;> rfl

theorem o_add {i j : Int} : binO .add (.fr (.int i)) (.fr (.int j)) = some (.fr (.int (i + j))) := (rfl)
theorem o_sub {i j : Int} : binO .sub (.fr (.int i)) (.fr (.int j)) = some (.fr (.int (i - j))) := (rfl)
theorem o_mul {i j : Int} (h : IntMulOk i j) : binO .mul (.fr (.int i)) (.fr (.int j)) = some (.fr (.int (i * j))) := by simp only [binO, O.fz, intOp, h, if_true, Option.map_some]
theorem o_mod {i j : Int} (h : 0 < j) : binO .mod (.fr (.int i)) (.fr (.int j)) = some (.fr (.int (i % j))) := by simp only [binO, O.fz, intOp, h, if_true, Option.map_some]
theorem o_div {i j : Int} (h : 0 < j) (h' : j < 1073741824) : binO .fdiv (.fr (.int i)) (.fr (.int j)) = some (.fr (.int (i / j))) := by simp only [binO, O.fz, intOp, h, h', and_self, if_true, Option.map_some]
theorem o_shr {i j : Int} (h : 0 ≤ j) : binO .shr (.fr (.int i)) (.fr (.int j)) = some (.fr (.int (i / 2 ^ j.toNat))) := by simp only [binO, O.fz, intOp, h, if_true, Option.map_some]
theorem o_pow {i j : Int} (h : 0 ≤ j) (h1 : j ≤ 1000000) (h2 : i.natAbs < 2 ^ 64) : binO .pow (.fr (.int i)) (.fr (.int j)) = some (.fr (.int (i ^ j.toNat))) := by simp only [binO, O.fz, intOp, h, h1, h2, and_self, if_true, Option.map_some]

noncomputable def Sm (i : Int) : Prop := -18446744073709551616 < i ∧ i < 18446744073709551616
theorem sm_lit {i : Int} (h : -18446744073709551616 < i) (h' : i < 18446744073709551616) : Sm i := ⟨h, h'⟩
theorem sm_of {i : Int} (h : 0 ≤ i) (h' : i < 18446744073709551616) : Sm i := ⟨by omega, h'⟩
theorem o_mulL {i j : Int} (h : Sm i) : binO .mul (.fr (.int i)) (.fr (.int j)) = some (.fr (.int (i * j))) := o_mul (mulOk_l ⟨by have := h.1; omega, by have := h.2; omega⟩)
theorem o_mulR {i j : Int} (h : Sm j) : binO .mul (.fr (.int i)) (.fr (.int j)) = some (.fr (.int (i * j))) := o_mul (mulOk_r ⟨by have := h.1; omega, by have := h.2; omega⟩)
theorem o_pows {i j : Int} (h : 0 ≤ j) (h1 : j ≤ 1000000) (h2 : Sm i) : binO .pow (.fr (.int i)) (.fr (.int j)) = some (.fr (.int (i ^ j.toNat))) := o_pow h h1 (by have := h2.1; have := h2.2; omega)
theorem o_cat {x y : O} {xs ys : List D} (hx : vL x = some xs) (hy : vL y = some ys) (h : xs.length + ys.length ≤ 16777216) : binO .add x y = some (.fl (xs ++ ys)) := by
  have e1 : x.fz = .ls xs := by
    unfold vL at hx
    split at hx <;> cases hx <;> rfl
  have e2 : y.fz = .ls ys := by
    unfold vL at hy
    split at hy <;> cases hy <;> rfl
  simp only [binO, e1, e2, hx, hy, h, and_self, if_true]
theorem c_lt {i j : Int} : cmpO .lt (.fr (.int i)) (.fr (.int j)) = some (decide (i < j)) := (rfl)
theorem c_gt {i j : Int} : cmpO .gt (.fr (.int i)) (.fr (.int j)) = some (decide (j < i)) := (rfl)
theorem c_eqi {i j : Int} : cmpO .eq (.fr (.int i)) (.fr (.int j)) = some (decide (i = j)) := by simp only [cmpO, O.fz, eqDD, D.sc, scal, if_true, V.int.injEq]
theorem c_eqs {t u : List Nat} : cmpO .eq (.fr (.str t)) (.fr (.str u)) = some (decide (t = u)) := by simp only [cmpO, O.fz, eqDD, D.sc, scal, if_true, V.str.injEq, S_inj]
theorem c_nes {t u : List Nat} : cmpO .ne (.fr (.str t)) (.fr (.str u)) = some (!decide (t = u)) := by simp only [cmpO, O.fz, eqDD, D.sc, scal, if_true, V.str.injEq, S_inj, Option.map_some]
theorem x_tp {xs : List D} {i : Int} : ixO (.fr (.tp xs)) (.fr (.int i)) = (atI xs i).map .fr := (rfl)
theorem x_ls {xs : List D} {i : Int} : ixO (.fr (.ls xs)) (.fr (.int i)) = (atI xs i).map .fr := (rfl)
theorem x_kl {xs : List D} {i : Int} : ixO (.fr (.kl xs)) (.fr (.int i)) = (atI xs i).map .fr := (rfl)
theorem x_fl {xs : List D} {i : Int} : ixO (.fl xs) (.fr (.int i)) = (atI xs i).map .fr := (rfl)
theorem x_ol {xs : List O} {i : Int} : ixO (.ol xs) (.fr (.int i)) = atI xs i := (rfl)
theorem l_fl {xs : List D} : b1O .len (.fl xs) = some (.fr (.int xs.length)) := (rfl)
theorem l_ls {xs : List D} : b1O .len (.fr (.ls xs)) = some (.fr (.int xs.length)) := (rfl)
theorem l_kl {xs : List D} : b1O .len (.fr (.kl xs)) = some (.fr (.int xs.length)) := (rfl)
theorem b_intb {b : Bool} : b1O .int (.fr (.bl b)) = some (.fr (.int (if b then 1 else 0))) := (rfl)
theorem b_list {x : O} {xs : List D} (h : vK x = some xs) : b1O .list x = some (.fl xs) := by simp only [b1O, h]
theorem s_ls {xs : List D} {l h : Option Int} : slO (.fr (.ls xs)) l h = some (.fl (cutL xs l h)) := (rfl)
theorem b_max {i j : Int} : b2O .max (.fr (.int i)) (.fr (.int j)) = some (.fr (.int (if j > i then j else i))) := (rfl)
theorem b_min {i j : Int} : b2O .min (.fr (.int i)) (.fr (.int j)) = some (.fr (.int (if j < i then j else i))) := (rfl)
theorem rng1 {j : Int} (h : -(2 ^ 62) ≤ j ∧ j < 2 ^ 62) : itD .rng (fzs [.fr (.int j)]) = some ((List.range j.toNat).map fun (k : Nat) => .int (k : Int)) := by simp only [itD, fzs, O.fz, rngD, h, and_self, if_true]
theorem mu_app {xs : List D} (h : xs.length < 16777216) : muO .append (.fl xs) [y] = some (.fl (xs ++ [y.fz]), .fr .non) := by simp only [muO, h, if_true]
theorem mu_ext {xs ys : List D} (hy : vL y = some ys) (h : xs.length + ys.length ≤ 16777216) : muO .extend (.fl xs) [y] = some (.fl (xs ++ ys), .fr .non) := by simp only [muO, hy, h, if_true]
theorem mu_clear {xs : List D} : muO .clear (.fl xs) [] = some (.fl [], .fr .non) := (rfl)
theorem mu_pop {xs : List D} : muO .pop (.fl (xs ++ [d])) [] = some (.fl xs, .fr d) := by
  have : (xs ++ [d])[(xs ++ [d]).length - 1]? = some d := by simp
  simp only [muO, this, List.dropLast_concat]
end
end L3

set_option Elab.async false
set_option linter.all false
set_option maxRecDepth 100000
namespace L3
open PySem L2
section
variable {p q : Prop} [Decidable p] [Decidable q]
theorem nd_ : (!decide p) = decide (¬ p) := by by_cases h : p <;> simp [h]
theorem od_ : (decide p || decide q) = decide (p ∨ q) := by by_cases h : p <;> by_cases k : q <;> simp [h, k]
theorem ite_dd : (if p then decide q else decide p) = decide (p ∧ q) := by by_cases h : p <;> simp [h]
theorem ite_do [Decidable (¬ p)] : (if ¬ p then decide q else decide p) = decide (p ∨ q) := by by_cases h : p <;> simp [h]
theorem ite_d2 [Decidable (¬ p)] : (if ¬ p then true else decide p) = true := by by_cases h : p <;> simp [h]
theorem ite_d3 : (if p then true else decide p) = decide p := by by_cases h : p <;> simp [h]
theorem ite_d4 [Decidable (¬ p)] : (if ¬ p then false else decide p) = decide p := by by_cases h : p <;> simp [h]
end
theorem tru {b : Bool} (h : b = true) : b = true := h
section
variable {s s1 : Sl} {o x y : O} {d : D} {gs : Sl → Fw}
theorem asg_t {is : List Nat} {ds : List D} : asgT (.tup is) (.fr (.tp ds)) s = setN is (ds.map .fr) s := by simp only [asgT, unO]
theorem asg_tl {is : List Nat} {ds : List D} : asgT (.tup is) (.fr (.ls ds)) s = setN is (ds.map .fr) s := by simp only [asgT, unO]
theorem setN0 : setN [] [] s = some s := by simp only [setN]
theorem setN1 {i : Nat} {is : List Nat} {os : List O} : setN (i :: is) (o :: os) s = setN is os (s.set i (some o)) := by simp only [setN]
theorem cat_ff {xs ys : List D} (h : xs.length + ys.length ≤ 16777216) : binO .add (.fl xs) (.fl ys) = some (.fl (xs ++ ys)) := o_cat rfl rfl h
theorem cat_fs {xs ys : List D} (h : xs.length + ys.length ≤ 16777216) : binO .add (.fl xs) (.fr (.ls ys)) = some (.fl (xs ++ ys)) := o_cat rfl rfl h
theorem cat_ss {xs ys : List D} (h : xs.length + ys.length ≤ 16777216) : binO .add (.fr (.ls xs)) (.fr (.ls ys)) = some (.fl (xs ++ ys)) := o_cat rfl rfl h

noncomputable def inS (t : List Nat) : List D → Option Bool
  | [] => some false
  | .str u :: ds => (inS t ds).map (decide (t = u) || ·)
  | _ => none
theorem inS_ok {t : List Nat} : ∀ {ds : List D} {b : Bool}, inS t ds = some b → ∃ vs, scs ds = some vs ∧ inV (V.str (S t)) vs = b
  | [], b, h => ⟨[], rfl, by cases h; rfl⟩
  | .str u :: ds, b, h => by
    simp only [inS] at h
    cases hr : inS t ds with
    | none => rw [hr] at h; cases h
    | some c =>
      rw [hr] at h
      obtain ⟨vs, h1, h2⟩ := inS_ok hr
      refine ⟨V.str (S u) :: vs, by simp only [scs, D.sc, h1], ?_⟩
      cases h
      unfold inV at h2 ⊢
      rw [List.any_cons, h2]
      by_cases z : t = u
      · subst z; simp [eqV]
      · have : ¬ S u = S t := fun w => z (S_inj.mp w).symm
        simp [eqV, z, this]
theorem c_ninS {t : List Nat} {ds : List D} {b : Bool} (h : inS t ds = some b) : cmpO .notin (.fr (.str t)) (.fr (.tp ds)) = some (!b) := by
  obtain ⟨vs, h1, h2⟩ := inS_ok h
  simp only [cmpO, O.fz, inDD, D.sc, itemsD, h1, h2, Option.map_some]
theorem c_nin2 {t a b : List Nat} : cmpO .notin (.fr (.str t)) (.fr (.tp [.str a, .str b])) = some (!(decide (t = a) || decide (t = b))) := by rw [c_ninS (b := decide (t = a) || (decide (t = b) || false)) rfl, Bool.or_false]
theorem get2_fd {ks : List Key} {xs : List D} {k : List Nat} : get2O (.fd ks xs) (.fr (.str k)) y = some (.fr ((dget ks xs (.inr (S k))).getD y.fz)) := (rfl)
theorem emp_snoc {xs : List D} : (xs ++ [d]).isEmpty = false := by cases xs <;> rfl
theorem mkA_t {mk : List Bool} {os ns : List O} {n : O} : fnD.mkArgs (true :: mk) (o :: os) (n :: ns) = n :: fnD.mkArgs mk os ns := (rfl)
theorem mkA_f {mk : List Bool} {os ns : List O} {n : O} : fnD.mkArgs (false :: mk) (o :: os) (n :: ns) = o :: fnD.mkArgs mk os ns := (rfl)
theorem mut_t {mk : List Bool} : mutOk (true :: mk) (some o :: s) = mutOk mk s := by simp [mutOk]
theorem mut_f {mk : List Bool} {z : Option O} : mutOk (false :: mk) (z :: s) = mutOk mk s := by simp [mutOk]
theorem args3 {a b c : Option O} : argsOf 3 (a :: b :: c :: s) = [a.getD (.fr .non), b.getD (.fr .non), c.getD (.fr .non)] := by simp [argsOf]
theorem args2 {a b : Option O} : argsOf 2 (a :: b :: s) = [a.getD (.fr .non), b.getD (.fr .non)] := by simp [argsOf]
theorem args1 {a : Option O} : argsOf 1 (a :: s) = [a.getD (.fr .non)] := by simp [argsOf]
theorem args4 {a b c d : Option O} : argsOf 4 (a :: b :: c :: d :: s) = [a.getD (.fr .non), b.getD (.fr .non), c.getD (.fr .non), d.getD (.fr .non)] := by simp [argsOf]
theorem idx0 {a : O} {l : List O} : idx? (.ol (a :: l)) (.fr (.int 0)) = some 0 := by simp [idx?, ixN]
theorem idx1 {a b : O} {l : List O} : idx? (.ol (a :: b :: l)) (.fr (.int 1)) = some 1 := by simp [idx?, ixN]; omega
theorem idx2 {a b c : O} {l : List O} : idx? (.ol (a :: b :: c :: l)) (.fr (.int 2)) = some 2 := by simp [idx?, ixN]; omega
theorem rev_ls {xs : List D} : revO (.fr (.ls xs)) = some (.fl xs.reverse) := (rfl)
theorem mu_extF {xs ys : List D} (h : xs.length + ys.length ≤ 16777216) : muO .extend (.fl xs) [.fl ys] = some (.fl (xs ++ ys), .fr .non) := mu_ext rfl h
theorem it_rng1 {j : Int} (h : -(2 ^ 62) ≤ j ∧ j < 2 ^ 62) : (Rl.ok [.fr (.int j)] s).it .rng = .ok ((List.range j.toNat).map fun (k : Nat) => .int (k : Int)) s := it_some (rng1 h)
theorem for_rng {n i : Nat} {body : Sl → Fw} (I : Nat → Sl → Prop) (h0 : I 0 s) (hs : ∀ k s, k < n → I k s → ∃ s2, body (s.set i (some (.fr (.int (k : Int))))) = .nx s2 ∧ I (k + 1) s2) : ∃ s', forLoop (bindD (.v i)) body ((List.range n).map fun (k : Nat) => .int (k : Int)) s = .nx s' ∧ I n s' := by
  have := for_inv (bd := bindD (.v i)) (body := body) (ds := (List.range n).map fun (k : Nat) => .int (k : Int)) (s := s) I h0 (fun k d s hd hI => by
    rw [List.getElem?_map] at hd
    rcases Nat.lt_or_ge k n with z | z
    · rw [List.getElem?_range z] at hd
      cases hd
      obtain ⟨s2, h1, h2⟩ := hs k s z hI
      exact ⟨_, s2, rfl, h1, h2⟩
    · rw [List.getElem?_eq_none (by simpa using z)] at hd; cases hd)
  rwa [List.length_map, List.length_range] at this
theorem wh_pure {t : Sl → Rv} {body : Sl → Fw} (I : Nat → Sl → Prop) (Z : Sl → Prop) (hs : ∀ m s, I m s → (t s = .ok (.fr (.bl false)) s ∧ Z s) ∨ (t s = .ok (.fr (.bl true)) s ∧ ((∃ s2, body s = .nx s2 ∧ ∃ m', m' < m ∧ I m' s2) ∨ ∃ s2, body s = .bk s2 ∧ Z s2)))
    (n m : Nat) (s : Sl) (hm : m < n) (hi : I m s) : ∃ s', whLoop t body n s = .nx s' ∧ Z s' :=
  wh_inv I Z (fun m s h => by
    rcases hs m s h with ⟨a, b⟩ | ⟨a, ⟨s2, b, m', c, d⟩ | ⟨s2, b, c⟩⟩
    · exact .inl ⟨s, a, b⟩
    · exact .inr ⟨s, a, .inl ⟨s2, m', b, c, d⟩⟩
    · exact .inr ⟨s, a, .inr ⟨s2, b, c⟩⟩) n m s hm hi
theorem it_seqS {xs : List D} : (Rl.ok [.fr (.ls xs)] s).it .seq = .ok xs s := it_some rfl
theorem it_seqT {xs : List D} : (Rl.ok [.fr (.tp xs)] s).it .seq = .ok xs s := it_some rfl
theorem for0 {bd : D → Sl → Option Sl} : forLoop bd gs [] s = .nx s := by simp only [forLoop]

theorem atI_nat {α : Type} {xs : List α} {n : Nat} {z : α} (h : n < xs.length) : atI xs (n : Int) = some (xs.getD n z) := by
  apply atI_lit
  rw [List.getElem?_eq_getElem h, List.getD_eq_getElem?_getD, List.getElem?_eq_getElem h, Option.getD_some]
end
end L3

set_option Elab.async false
set_option linter.all false
set_option maxRecDepth 100000
namespace L3
open PySem L2

noncomputable def Dp (d : D) (n : Nat) : Prop := ∃ e, d.dat = some e ∧ flatD e = true ∧ depD e ≤ n
noncomputable def Dps (ds : List D) (n : Nat) : Prop := ∃ es, dats ds = some es ∧ flatDs es = true ∧ depDs es ≤ n
theorem Dp.str {t : List Nat} {n : Nat} : Dp (.str t) n := ⟨.fl (.str (S t)), by simp only [D.dat], rfl, Nat.zero_le _⟩
theorem Dp.int {i : Int} {n : Nat} : Dp (.int i) n := ⟨.fl (.int i), by simp only [D.dat], rfl, Nat.zero_le _⟩
theorem Dps.nil {n : Nat} : Dps [] n := ⟨[], by simp only [dats], rfl, Nat.zero_le _⟩
theorem Dps.cons {d : D} {ds : List D} {n : Nat} (h : Dp d n) (k : Dps ds n) : Dps (d :: ds) n := by
  obtain ⟨e, h1, h2, h3⟩ := h
  obtain ⟨es, k1, k2, k3⟩ := k
  exact ⟨e :: es, by simp only [dats, h1, k1], by simp only [flatDs, h2, k2, Bool.and_self], by simp only [depDs]; omega⟩
theorem Dp.tp {ds : List D} {n : Nat} (k : Dps ds n) : Dp (.tp ds) (n + 1) := by
  obtain ⟨es, k1, k2, k3⟩ := k
  exact ⟨.tp es, by simp only [D.dat, k1, Option.map_some], by simp only [flatD, k2], by simp only [depD]; omega⟩
theorem Dp.ls {ds : List D} {n : Nat} (k : Dps ds n) : Dp (.ls ds) (n + 1) := by
  obtain ⟨es, k1, k2, k3⟩ := k
  exact ⟨.ls es, by simp only [D.dat, k1, Option.map_some], by simp only [flatD, k2], by simp only [depD]; omega⟩
theorem Dp.le {d : D} {n m : Nat} (h : Dp d n) (l : n ≤ m) : Dp d m := by
  obtain ⟨e, h1, h2, h3⟩ := h
  exact ⟨e, h1, h2, by omega⟩
theorem Dps.le {d : List D} {n m : Nat} (h : Dps d n) (l : n ≤ m) : Dps d m := by
  obtain ⟨e, h1, h2, h3⟩ := h
  exact ⟨e, h1, h2, by omega⟩
theorem Dps.all {n : Nat} : ∀ {ds : List D}, (∀ d ∈ ds, Dp d n) → Dps ds n
  | [], _ => .nil
  | d :: ds, h => .cons (h d List.mem_cons_self) (.all fun d hd => h d (List.mem_cons_of_mem _ hd))
theorem eq_rfl {d : D} (h : Dp d 50) (hs : d.sc = none) : eqDD d d = some true := by
  obtain ⟨e, h1, h2, h3⟩ := h
  simp only [eqDD, hs, h1, h3, if_true, eqD_refl h2]
theorem eqls {xs : List D} (h : Dps xs 49) : eqDD (.ls xs) (.ls xs) = some true := eq_rfl (.ls h) rfl
theorem c_neL1 {xs : List D} (h : Dps xs 49) : cmpO .ne (.fr (.ls xs)) (.fr (.ls xs)) = some false := by simp only [cmpO, O.fz, eqls h, Option.map_some, Bool.not_true]
theorem c_neL3 {xs : List D} (h : Dps xs 49) : cmpO .ne (.fr (.ls xs)) (.fl xs) = some false := by simp only [cmpO, O.fz, eqls h, Option.map_some, Bool.not_true]
section
variable {s : Sl} {gs : Sl → Fw}

theorem for_seq {i : Nat} {xs : List D} {body : Sl → Fw} (I : Nat → Sl → Prop) (h0 : I 0 s) (hs : ∀ k d s, xs[k]? = some d → I k s → ∃ s2, body (s.set i (some (.fr d))) = .nx s2 ∧ I (k + 1) s2) : ∃ s', forLoop (bindD (.v i)) body xs s = .nx s' ∧ I xs.length s' :=
  for_inv I h0 fun k d s hd hI => by
    obtain ⟨s2, h1, h2⟩ := hs k d s hd hI
    exact ⟨_, s2, rfl, h1, h2⟩

theorem it_rngL {j : Int} (h : 0 ≤ j) (h' : j < 4611686018427387904) : (Rl.ok [.fr (.int j)] s).it .rng = .ok ((List.range j.toNat).map fun (k : Nat) => .int (k : Int)) s := it_rng1 (by omega)
theorem b_listS {xs : List D} : b1O .list (.fr (.ls xs)) = some (.fl xs) := b_list rfl
theorem cut_take {α : Type} {xs : List α} {n : Nat} : cutL xs none (some (n : Int)) = xs.take n := by
  unfold cutL
  rw [HT.sIx_nat, HT.sIx_none, List.drop_zero, Nat.sub_zero]
  rcases Nat.le_total n xs.length with h | h
  · rw [Nat.min_eq_left h]
  · rw [Nat.min_eq_right h, List.take_length, List.take_of_length_le h]
end
end L3

set_option maxHeartbeats 4000000
namespace My
open PySem L2 L3 PySem.Spec PyProof.Rows
inductive Pc where
  | lit (t : Tx)
  | hole (t : Tx)
  | each (n : Tx) (b : List Pc)
  | ife (n : Tx) (a b : List Pc)
  | seat (w n m : Tx) (b : List Pc)
mutual
noncomputable def dP : Pc → D
  | .lit t => .tp [.str [108, 105, 116], .str t]
  | .hole t => .tp [.str [104, 111, 108, 101], .str t]
  | .each n b => .tp [.str [101, 97, 99, 104], .str n, .ls (dPs b)]
  | .ife n a b => .tp [.str [105, 102], .str n, .ls (dPs a), .ls (dPs b)]
  | .seat w n m b => .tp [.str [115, 101, 97, 116], .str w, .str n, .str m, .ls (dPs b)]
noncomputable def dPs : List Pc → List D
  | [] => []
  | p :: ps => dP p :: dPs ps
end
mutual
noncomputable def szP : Pc → Nat
  | .lit _ => 1
  | .hole _ => 1
  | .each _ b => 1 + szPs b
  | .ife _ a b => 1 + szPs a + szPs b
  | .seat _ _ _ b => 2 + szPs b
noncomputable def szPs : List Pc → Nat
  | [] => 0
  | p :: ps => szP p + szPs ps
end
inductive It where
  | p (x : Pc)
  | o
noncomputable def szI : It → Nat
  | .p x => szP x
  | .o => 1
noncomputable def szS : List It → Nat
  | [] => 0
  | i :: s => szI i + szS s
theorem szS_app (a b : List It) : szS (a ++ b) = szS a + szS b := by
  induction a with
  | nil => simp [szS]
  | cons i a ih => simp only [List.cons_append, szS, ih]; omega
noncomputable def its : List Pc → List It
  | [] => []
  | p :: ps => .p p :: its ps
theorem szS_map : ∀ ps : List Pc, szS (its ps) = szPs ps
  | [] => rfl
  | p :: ps => by simp only [its, szS, szI, szPs, szS_map ps]
noncomputable def dInto (w n m : Tx) : D := .tp [.str [105, 110, 116, 111], .str w, .str n, .str m]
noncomputable def dOut : D := .tp [.str [111, 117, 116]]
noncomputable def brs : Pc → Nat → List Pc
  | .each _ _, 0 => []
  | .each _ b, _ + 1 => b
  | .ife _ a _, 0 => a
  | .ife _ _ b, _ + 1 => b
  | _, _ => []
theorem brs_each (n : Tx) (b : List Pc) (t : Nat) : szPs (brs (.each n b) t) ≤ szPs b := by cases t <;> simp [brs, szPs]
theorem brs_ife (n : Tx) (a b : List Pc) (t : Nat) : szPs (brs (.ife n a b) t) ≤ szPs a + szPs b := by cases t <;> simp [brs]

noncomputable def out : List It → List Nat → List D
  | [], _ => []
  | .o :: s, T => dOut :: out s T
  | .p (.lit t) :: s, T => dP (.lit t) :: out s T
  | .p (.hole t) :: s, T => dP (.hole t) :: out s T
  | .p (.seat w n m b) :: s, T => dInto w n m :: out (its b ++ .o :: s) T
  | .p (.each _ _) :: _, [] => []
  | .p (.each n b) :: s, t :: T => out (its (brs (.each n b) t) ++ s) T
  | .p (.ife _ _ _) :: _, [] => []
  | .p (.ife n a b) :: s, t :: T => out (its (brs (.ife n a b) t) ++ s) T
termination_by s _ => szS s
decreasing_by
  all_goals simp only [szS, szI, szP, szS_app, szS_map]
  all_goals first
    | omega
    | (have := brs_each n b t; omega)
    | (have := brs_ife n a b t; omega)
structure Way where
  T : List Nat
  A : List D
  C : List Nat
noncomputable def Way.then (x y : Way) : Way := ⟨x.T ++ y.T, x.A ++ y.A, x.C ++ y.C.map (· + x.A.length)⟩

inductive Goes : List Pc → Way → Prop
  | nil : Goes [] ⟨[], [], []⟩
  | lit {t : Tx} {ps : List Pc} {y : Way} : Goes ps y → Goes (.lit t :: ps) (Way.then ⟨[], [dP (.lit t)], []⟩ y)
  | hole {t : Tx} {ps : List Pc} {y : Way} : Goes ps y → Goes (.hole t :: ps) (Way.then ⟨[], [dP (.hole t)], []⟩ y)
  | seat {w n m : Tx} {b ps : List Pc} {x y : Way} : Goes b x → Goes ps y → Goes (.seat w n m b :: ps) (Way.then ⟨[], [dInto w n m], []⟩ (Way.then x (Way.then ⟨[], [dOut], []⟩ y)))
  | each {n : Tx} {b ps : List Pc} {t : Nat} {x y : Way} : t < 2 → Goes (brs (.each n b) t) x → Goes ps y → Goes (.each n b :: ps) (Way.then ⟨[t], [], [0]⟩ (Way.then x y))
  | ife {n : Tx} {a b ps : List Pc} {t : Nat} {x y : Way} : t < 2 → Goes (brs (.ife n a b) t) x → Goes ps y → Goes (.ife n a b :: ps) (Way.then ⟨[t], [], [0]⟩ (Way.then x y))

structure Sem (st : List It → List It) (x : Way) : Prop where
  all : ∀ s T, out (st s) (x.T ++ T) = x.A ++ out s T
  cut : ∀ s k c, x.C[k]? = some c → out (st s) (x.T.take k) = x.A.take c
  le : ∀ c ∈ x.C, c ≤ x.A.length
  len : x.C.length = x.T.length
theorem sem_nil : Sem (fun s => s) ⟨[], [], []⟩ := ⟨fun _ _ => rfl, (fun _ _ _ h => by simp at h), (fun _ h => by simp at h), rfl⟩
theorem sem_then {f g : List It → List It} {x y : Way} (h : Sem f x) (k : Sem g y) : Sem (fun s => f (g s)) (x.then y) := by
  refine ⟨fun s T => ?_, fun s n c hc => ?_, fun c hc => ?_, ?_⟩
  · show out (f (g s)) (x.T ++ y.T ++ T) = x.A ++ y.A ++ out s T
    rw [List.append_assoc, h.all, k.all, List.append_assoc]
  · show out (f (g s)) ((x.T ++ y.T).take n) = (x.A ++ y.A).take c
    have hc : (x.C ++ y.C.map (· + x.A.length))[n]? = some c := hc
    by_cases hn : n < x.C.length
    · rw [List.getElem?_append_left hn] at hc
      rw [List.take_append_of_le_length (by rw [← h.len]; omega), h.cut _ _ _ hc, List.take_append_of_le_length (h.le _ (List.mem_of_getElem? hc))]
    · rw [List.getElem?_append_right (by omega), List.getElem?_map] at hc
      cases hy : y.C[n - x.C.length]? with
      | none => rw [hy] at hc; cases hc
      | some c' =>
        rw [hy] at hc
        have hc : c' + x.A.length = c := Option.some.inj hc
        have hl := h.len
        rw [List.take_append, List.take_of_length_le (l := x.T) (by omega), h.all, ← hl, k.cut _ _ _ hy, ← hc, List.take_append, List.take_of_length_le (l := x.A) (by omega), Nat.add_sub_cancel]
  · rcases List.mem_append.mp hc with z | z
    · have := h.le c z
      show c ≤ (x.A ++ y.A).length
      rw [List.length_append]; omega
    · obtain ⟨c', hc', rfl⟩ := List.mem_map.mp z
      have := k.le c' hc'
      show c' + x.A.length ≤ (x.A ++ y.A).length
      rw [List.length_append]; omega
  · show (x.C ++ y.C.map (· + x.A.length)).length = (x.T ++ y.T).length
    rw [List.length_append, List.length_append, List.length_map, h.len, k.len]
theorem sem_pre {f g : List It → List It} {x : Way} {d : D} (h : Sem f x) (e : ∀ s T, out (g s) T = d :: out (f s) T) : Sem g (Way.then ⟨[], [d], []⟩ x) := by
  refine ⟨fun s T => ?_, fun s n c hc => ?_, fun c hc => ?_, ?_⟩
  · show out (g s) ([] ++ x.T ++ T) = [d] ++ x.A ++ out s T
    rw [e, List.nil_append, h.all]; rfl
  · show out (g s) (([] ++ x.T).take n) = ([d] ++ x.A).take c
    have hc : (x.C.map (· + 1))[n]? = some c := hc
    rw [List.getElem?_map] at hc
    cases hy : x.C[n]? with
    | none => rw [hy] at hc; cases hc
    | some c' =>
      rw [hy] at hc
      have hc : c' + 1 = c := Option.some.inj hc
      rw [e, List.nil_append, h.cut _ _ _ hy, ← hc]; rfl
  · obtain ⟨c', hc', rfl⟩ := List.mem_map.mp (show c ∈ x.C.map (· + 1) from hc)
    have := h.le c' hc'
    show c' + 1 ≤ ([d] ++ x.A).length
    rw [List.length_append, List.length_singleton]; omega
  · show (x.C.map (· + 1)).length = ([] ++ x.T).length
    rw [List.length_map, List.nil_append, h.len]
theorem sem_turn {f g : List It → List It} {x : Way} {t : Nat} (h : Sem f x) (e : ∀ s T, out (g s) (t :: T) = out (f s) T) (e0 : ∀ s, out (g s) [] = []) : Sem g (Way.then ⟨[t], [], [0]⟩ x) := by
  refine ⟨fun s T => ?_, fun s n c hc => ?_, fun c hc => ?_, ?_⟩
  · show out (g s) (t :: (x.T ++ T)) = [] ++ x.A ++ out s T
    rw [e, List.nil_append, h.all]
  · show out (g s) ((t :: x.T).take n) = ([] ++ x.A).take c
    have hc : (0 :: x.C.map (· + 0))[n]? = some c := hc
    cases n with
    | zero =>
      have hc : 0 = c := Option.some.inj hc
      rw [List.take_zero, e0, ← hc]; rfl
    | succ n =>
      rw [List.getElem?_cons_succ, List.getElem?_map] at hc
      cases hy : x.C[n]? with
      | none => rw [hy] at hc; cases hc
      | some c' =>
        rw [hy] at hc
        have hc : c' + 0 = c := Option.some.inj hc
        rw [List.take_succ_cons, e, List.nil_append, h.cut _ _ _ hy, ← hc]; rfl
  · rcases List.mem_cons.mp (show c ∈ 0 :: x.C.map (· + 0) from hc) with rfl | z
    · exact Nat.zero_le _
    · obtain ⟨c', hc', rfl⟩ := List.mem_map.mp z
      have := h.le c' hc'
      show c' + 0 ≤ ([] ++ x.A).length
      rw [List.nil_append]; exact this
  · show (0 :: x.C.map (· + 0)).length = (t :: x.T).length
    rw [List.length_cons, List.length_cons, List.length_map, h.len]
theorem goes_sem {ps : List Pc} {x : Way} (h : Goes ps x) : Sem (fun s => its ps ++ s) x := by
  induction h with
  | nil => exact sem_nil
  | lit _ ih => exact sem_pre ih fun s T => by simp only [its, List.cons_append, out]
  | hole _ ih => exact sem_pre ih fun s T => by simp only [its, List.cons_append, out]
  | @seat w n m b ps x y _ _ i1 i2 =>
    refine sem_pre (sem_then i1 (sem_pre (g := fun s => .o :: (its ps ++ s)) i2 fun s T => by simp only [out])) fun s T => ?_
    simp only [its, List.cons_append, out]
  | each _ _ _ i1 i2 => exact sem_turn (sem_then i1 i2) (fun s T => by simp only [its, List.cons_append, out]) (fun s => by simp only [its, List.cons_append, out])
  | ife _ _ _ i1 i2 => exact sem_turn (sem_then i1 i2) (fun s T => by simp only [its, List.cons_append, out]) (fun s => by simp only [its, List.cons_append, out])

theorem goes_take {ps : List Pc} {x : Way} (h : Goes ps x) (n : Nat) : (out (its ps) x.T).take n = x.A.take n := by
  have := (goes_sem h).all [] []
  simp only [List.append_nil, out] at this
  rw [this]
theorem goes_cut {ps : List Pc} {x : Way} (h : Goes ps x) {k c : Nat} (hc : x.C[k]? = some c) : out (its ps) (x.T.take k) = x.A.take c := by
  have := (goes_sem h).cut [] k c hc
  simpa using this

noncomputable def top (i : Nat) : Stmt := PySem.Challenge.pw_sealpress_k71_walked.main.body.getD i (.Pass ⟨0, 0, 0, 0⟩)
noncomputable abbrev s_branches_of : Stmt := top 1
noncomputable abbrev N_branches_of : List Str := ["piece"]
noncomputable abbrev ps_branches_of : List Str := ["piece"]
theorem sc_branches_of : FnScope N_branches_of ps_branches_of (defScope s_branches_of) := ⟨rfl, rfl, rfl, by decide +kernel, rfl, by decide +kernel, by decide +kernel⟩
noncomputable abbrev s_walked : Stmt := top 2
noncomputable abbrev N_walked : List Str := ["pieces", "place", "things", "ahead", "turns", "piece"]
noncomputable abbrev ps_walked : List Str := ["pieces", "place"]
theorem sc_walked : FnScope N_walked ps_walked (defScope s_walked) := ⟨rfl, rfl, rfl, by decide +kernel, rfl, by decide +kernel, by decide +kernel⟩
noncomputable abbrev s__law_cell : Stmt := top 4
noncomputable abbrev N__law_cell : List Str := ["_law_script", "_law_k", "_law_number"]
noncomputable abbrev ps__law_cell : List Str := ["_law_script", "_law_k"]
theorem sc__law_cell : FnScope N__law_cell ps__law_cell (defScope s__law_cell) := ⟨rfl, rfl, rfl, by decide +kernel, rfl, by decide +kernel, by decide +kernel⟩
noncomputable abbrev s__law_mix : Stmt := top 5
noncomputable abbrev N__law_mix : List Str := ["_law_cell_here", "_law_k", "_law_many", "_law_first", "_law_second", "_law_number"]
noncomputable abbrev ps__law_mix : List Str := ["_law_cell_here", "_law_k", "_law_many"]
theorem sc__law_mix : FnScope N__law_mix ps__law_mix (defScope s__law_mix) := ⟨rfl, rfl, rfl, by decide +kernel, rfl, by decide +kernel, by decide +kernel⟩
noncomputable abbrev s__law_part : Stmt := top 6
noncomputable abbrev N__law_part : List Str := ["_law_cell_here", "_law_k"]
noncomputable abbrev ps__law_part : List Str := ["_law_cell_here", "_law_k"]
theorem sc__law_part : FnScope N__law_part ps__law_part (defScope s__law_part) := ⟨rfl, rfl, rfl, by decide +kernel, rfl, by decide +kernel, by decide +kernel⟩
noncomputable abbrev s__law_fault : Stmt := top 7
noncomputable abbrev N__law_fault : List Str := ["_law_word", "_law_mark", "_law_kind", "_law_bad", "_law_ahead", "_law_turn"]
noncomputable abbrev ps__law_fault : List Str := ["_law_word", "_law_mark", "_law_kind"]
theorem sc__law_fault : FnScope N__law_fault ps__law_fault (defScope s__law_fault) := ⟨rfl, rfl, rfl, by decide +kernel, rfl, by decide +kernel, by decide +kernel⟩
noncomputable abbrev s__law_good : Stmt := top 8
noncomputable abbrev N__law_good : List Str := ["_law_cell_here", "_law_kind", "_law_deep", "_law_plants", "_law_found", "_law_due", "_law_k", "_law_plant", "_law_more"]
noncomputable abbrev ps__law_good : List Str := ["_law_cell_here", "_law_kind", "_law_deep", "_law_plants"]
theorem sc__law_good : FnScope N__law_good ps__law_good (defScope s__law_good) := ⟨rfl, rfl, rfl, by decide +kernel, rfl, by decide +kernel, by decide +kernel⟩
noncomputable abbrev s__law_some : Stmt := top 9
noncomputable abbrev N__law_some : List Str := ["_law_cell_here", "_law_kind", "_law_deep", "_law_plants", "_law_way", "_law_name", "_law_one", "_law_due", "_law_other", "_law_word"]
noncomputable abbrev ps__law_some : List Str := ["_law_cell_here", "_law_kind", "_law_deep", "_law_plants"]
theorem sc__law_some : FnScope N__law_some ps__law_some (defScope s__law_some) := ⟨rfl, rfl, rfl, by decide +kernel, rfl, by decide +kernel, by decide +kernel⟩
noncomputable abbrev s__law_within : Stmt := top 10
noncomputable abbrev N__law_within : List Str := ["_law_cell_here", "_law_lead", "_law_kind", "_law_close", "_law_deep", "_law_plants", "_law_one", "_law_due"]
noncomputable abbrev ps__law_within : List Str := ["_law_cell_here", "_law_lead", "_law_kind", "_law_close", "_law_deep", "_law_plants"]
theorem sc__law_within : FnScope N__law_within ps__law_within (defScope s__law_within) := ⟨rfl, rfl, rfl, by decide +kernel, rfl, by decide +kernel, by decide +kernel⟩
noncomputable abbrev s__law_compound : Stmt := top 11
noncomputable abbrev N__law_compound : List Str := ["_law_cell_here", "_law_kind", "_law_deep", "_law_plants", "_law_way", "_law_lead", "_law_tag", "_law_due", "_law_inner", "_law_more"]
noncomputable abbrev ps__law_compound : List Str := ["_law_cell_here", "_law_kind", "_law_deep", "_law_plants"]
theorem sc__law_compound : FnScope N__law_compound ps__law_compound (defScope s__law_compound) := ⟨rfl, rfl, rfl, by decide +kernel, rfl, by decide +kernel, by decide +kernel⟩
noncomputable abbrev s__law_made : Stmt := top 12
noncomputable abbrev N__law_made : List Str := ["_law_cell_here", "_law_plants", "_law_found", "_law_due", "_law_plant"]
noncomputable abbrev ps__law_made : List Str := ["_law_cell_here", "_law_plants"]
theorem sc__law_made : FnScope N__law_made ps__law_made (defScope s__law_made) := ⟨rfl, rfl, rfl, by decide +kernel, rfl, by decide +kernel, by decide +kernel⟩
noncomputable abbrev s__law_go : Stmt := top 13
noncomputable abbrev N__law_go : List Str := ["_law_pieces", "_law_cell_here", "_law_way", "_law_k", "_law_piece", "_law_number", "_law_turn"]
noncomputable abbrev ps__law_go : List Str := ["_law_pieces", "_law_cell_here", "_law_way"]
theorem sc__law_go : FnScope N__law_go ps__law_go (defScope s__law_go) := ⟨rfl, rfl, rfl, by decide +kernel, rfl, by decide +kernel, by decide +kernel⟩
noncomputable abbrev s__law_is : Stmt := top 14
noncomputable abbrev N__law_is : List Str := ["_law_found", "_law_due", "_law_thing"]
noncomputable abbrev ps__law_is : List Str := ["_law_found", "_law_due"]
theorem sc__law_is : FnScope N__law_is ps__law_is (defScope s__law_is) := ⟨rfl, rfl, rfl, by decide +kernel, rfl, by decide +kernel, by decide +kernel⟩
noncomputable abbrev s__law_right : Stmt := top 15
noncomputable abbrev N__law_right : List Str := ["_law_pieces", "_law_cell_here", "_law_way", "_law_turns", "_law_things", "_law_ahead", "_law_kept", "_law_many", "_law_found", "_law_k"]
noncomputable abbrev ps__law_right : List Str := ["_law_pieces", "_law_cell_here"]
theorem sc__law_right : FnScope N__law_right ps__law_right (defScope s__law_right) := ⟨rfl, rfl, rfl, by decide +kernel, rfl, by decide +kernel, by decide +kernel⟩
noncomputable abbrev s_law : Stmt := top 16
noncomputable abbrev N_law : List Str := ["_law_script", "_law_k", "_law_cell_here", "_law_pieces", "_law_j", "_law_some_here", "_law_seat", "_law_due"]
noncomputable abbrev ps_law : List Str := ["_law_script"]
theorem sc_law : FnScope N_law ps_law (defScope s_law) := ⟨rfl, rfl, rfl, by decide +kernel, rfl, by decide +kernel, by decide +kernel⟩
noncomputable def c_branches_of : List CS := [.ret (.ife (.t (.cmp .eq (.ix (.b 0) (.c (.int 0))) (.c (.str [101, 97, 99, 104])))) (.tup [(.lst []), (.ix (.b 0) (.c (.int 2)))]) (.tup [(.ix (.b 0) (.c (.int 2))), (.ix (.b 0) (.c (.int 3)))]))]
noncomputable abbrev as_branches_of : List Nat := []
noncomputable def F_branches_of : Fn := fnD [] 1 1 c_branches_of
noncomputable def c_walked : List CS := [.asg (.v 2) (.lst []),
    .asg (.v 3) (.rev (.b 0)),
    .asg (.v 4) (.rev (.ix (.b 1) (.c (.int 0)))),
    .whl 100000 (.tb true [(.t (.b 3)), (.t (.cmp .lt (.b1 .len (.b 2)) (.ix (.b 1) (.c (.int 1)))))]) [.asg (.v 5) (.mu .pop (.b 3) []),
    .ife (.t (.cmp .eq (.ix (.b 5) (.c (.int 0))) (.c (.str [115, 101, 97, 116])))) [.ex (.mu .append (.b 2) [(.tup [(.c (.str [105, 110, 116, 111])), (.ix (.b 5) (.c (.int 1))), (.ix (.b 5) (.c (.int 2))), (.ix (.b 5) (.c (.int 3)))])]),
    .ex (.mu .append (.b 3) [(.tup [(.c (.str [111, 117, 116]))])]),
    .ex (.mu .extend (.b 3) [(.rev (.ix (.b 5) (.c (.int 4))))])] [.ife (.t (.cmp .notin (.ix (.b 5) (.c (.int 0))) (.tup [(.c (.str [101, 97, 99, 104])), (.c (.str [105, 102]))]))) [.ex (.mu .append (.b 2) [(.v 5)])] [.ife (.t (.b 4)) [.ex (.mu .extend (.b 3) [(.rev (.ix (.call "branches_of" [] F_branches_of [(.v 5)]) (.mu .pop (.b 4) [])))])] [.brk]]]],
    .ret (.m 2)]
noncomputable abbrev as_walked : List Nat := [2, 3, 4, 5]
noncomputable def F_walked : Fn := fnD [] 2 6 c_walked
noncomputable def c__law_cell : List CS := [.ife (.t (.cmp .lt (.b 1) (.b1 .len (.b 0)))) [.ret (.bin .mod (.ix (.b 0) (.b 1)) (.bin .mul (.bin .mul (.bin .pow (.c (.int 10)) (.c (.int 60))) (.bin .pow (.c (.int 10)) (.c (.int 60)))) (.bin .pow (.c (.int 10)) (.c (.int 60)))))] [],
    .asg (.v 2) (.bin .add (.bin .mul (.c (.int 7919)) (.b 1)) (.c (.int 11))),
    .ife (.t (.cmp .gt (.b1 .len (.b 0)) (.c (.int 0)))) [.asg (.v 2) (.bin .add (.bin .mul (.bin .mod (.ix (.b 0) (.bin .mod (.bin .mul (.b 1) (.c (.int 7))) (.b1 .len (.b 0)))) (.bin .pow (.c (.int 10)) (.c (.int 60)))) (.c (.int 48271))) (.bin .mul (.bin .mul (.b 1) (.b 1)) (.c (.int 69621))))] [],
    .ret (.bin .mod (.bin .mul (.bin .mod (.b 2) (.c (.int 2147483647))) (.c (.int 16807))) (.c (.int 2147483629)))]
noncomputable abbrev as__law_cell : List Nat := [2]
noncomputable def F__law_cell : Fn := fnD [] 2 3 c__law_cell
noncomputable def c__law_mix : List CS := [.ife (.tb true [(.t (.cmp .eq (.bin .mod (.b 0) (.c (.int 2))) (.c (.int 0)))), (.t (.cmp .gt (.b 0) (.bin .pow (.c (.int 10)) (.c (.int 18))))), (.t (.cmp .gt (.bin .shr (.b 0) (.bin .add (.bin .mul (.c (.int 7)) (.b 1)) (.c (.int 8)))) (.c (.int 0))))]) [.ret (.bin .mod (.bin .shr (.b 0) (.bin .add (.bin .mul (.c (.int 7)) (.b 1)) (.c (.int 1)))) (.b 2))] [],
    .asg (.v 3) (.ix (.lst [(.c (.int 1000000007)), (.c (.int 1181783503)), (.c (.int 1372345291)), (.c (.int 1518500279)), (.c (.int 1636201513)), (.c (.int 1734723539)), (.c (.int 1871234567)), (.c (.int 2012345681))]) (.bin .mod (.b 1) (.c (.int 8)))),
    .asg (.v 4) (.ix (.lst [(.c (.int 100000000003)), (.c (.int 223606797763)), (.c (.int 314159265359)), (.c (.int 414213562379)), (.c (.int 577215664943)), (.c (.int 693147180563)), (.c (.int 732050807573))]) (.bin .mod (.b 1) (.c (.int 7)))),
    .asg (.v 5) (.bin .mod (.bin .mul (.bin .add (.bin .mod (.bin .add (.b 0) (.bin .mul (.bin .mul (.b 1) (.b 1)) (.b 1))) (.c (.int 1000000000039))) (.c (.int 1))) (.b 3)) (.c (.int 2147483629))),
    .ret (.bin .mod (.bin .mod (.bin .mul (.bin .add (.b 5) (.c (.int 1))) (.b 4)) (.c (.int 999999999989))) (.b 2))]
noncomputable abbrev as__law_mix : List Nat := [3, 4, 5]
noncomputable def F__law_mix : Fn := fnD [] 3 6 c__law_mix
noncomputable def c__law_part : List CS := [.ret (.call "_law_mix" [] F__law_mix [(.b 0), (.bin .add (.c (.int 30)) (.b 1)), (.c (.int 999999999989))])]
noncomputable abbrev as__law_part : List Nat := []
noncomputable def F__law_part : Fn := fnD [] 2 2 c__law_part
noncomputable def c__law_fault : List CS := [.asg (.v 3) (.dsp [(.c (.str [116, 101, 120, 116])), (.bin .add (.bin .add (.c (.str [60, 47])) (.b 1)) (.c (.str [62]))), (.c (.str [113, 117, 111, 116, 101, 100])), (.bin .add (.c (.str [34, 61])) (.b 1)), (.c (.str [114, 111, 119])), (.bin .add (.c (.str [41, 61])) (.b 1)), (.c (.str [115, 97, 105, 100])), (.bin .add (.c (.str [39, 61])) (.b 1))]),
    .asg (.v 4) (.dsp [(.c (.str [116, 101, 120, 116])), (.c (.str [120, 60])), (.c (.str [100, 111, 110, 101])), (.c (.str [32, 117])), (.c (.str [98, 97, 114, 101])), (.c (.str [126])), (.c (.str [113, 117, 111, 116, 101, 100])), (.c (.str [38]))]),
    .asg (.v 5) (.ix (.dsp [(.c (.str [116, 101, 120, 116])), (.c (.str [60, 117, 62])), (.c (.str [100, 111, 110, 101])), (.c (.str [32, 117, 58, 118])), (.c (.str [98, 97, 114, 101])), (.c (.str [32])), (.c (.str [113, 117, 111, 116, 101, 100])), (.c (.str [34])), (.c (.str [114, 111, 119])), (.c (.str [41])), (.c (.str [115, 97, 105, 100])), (.c (.str [39]))]) (.b 2)),
    .ife (.t (.cmp .eq (.b 0) (.c (.str [97, 115, 116, 114, 97, 121])))) [.ret (.lst [(.tup [(.c (.str [108, 105, 116])), (.get2 (.v 3) (.b 2) (.bin .add (.c (.str [61])) (.b 1)))])])] [],
    .ife (.t (.cmp .eq (.b 0) (.c (.str [110, 111, 112, 108, 97, 99, 101])))) [.ret (.lst [(.tup [(.c (.str [108, 105, 116])), (.get2 (.v 4) (.b 2) (.c (.str [92])))]), (.tup [(.c (.str [104, 111, 108, 101])), (.b 1)]), (.tup [(.c (.str [108, 105, 116])), (.c (.str [98]))])])] [],
    .ife (.t (.cmp .eq (.b 0) (.c (.str [105, 102])))) [.ret (.lst [(.tup [(.c (.str [105, 102])), (.b 1), (.lst [(.tup [(.c (.str [108, 105, 116])), (.v 5)])]), (.lst [])])])] [],
    .ife (.t (.cmp .eq (.b 0) (.c (.str [101, 97, 99, 104])))) [.ret (.lst [(.tup [(.c (.str [101, 97, 99, 104])), (.b 1), (.lst [(.tup [(.c (.str [108, 105, 116])), (.v 5)])])])])] [],
    .ret (.lst [(.tup [(.c (.str [115, 101, 97, 116])), (.c (.str [100, 114, 97, 119])), (.b 1), (.c (.str [])), (.lst [(.tup [(.c (.str [108, 105, 116])), (.v 5)])])])])]
noncomputable abbrev as__law_fault : List Nat := [3, 4, 5]
noncomputable def F__law_fault : Fn := fnD [] 3 6 c__law_fault
noncomputable def c__law_within (F__law_good : Fn) : List CS := [.asg (.tup [6, 7]) (.call "_law_good" [] F__law_good [(.call "_law_part" [] F__law_part [(.b 0), (.c (.int 8))]), (.b 2), (.bin .sub (.b 4) (.c (.int 1))), (.b 5)]),
    .ret (.tup [(.bin .add (.bin .add (.lst [(.tup [(.c (.str [108, 105, 116])), (.b 1)])]) (.b 6)) (.lst [(.tup [(.c (.str [108, 105, 116])), (.b 3)])])), (.v 7)])]
noncomputable abbrev as__law_within : List Nat := [6, 7]
noncomputable def c__law_compound (F__law_within : Fn) (F__law_good : Fn) : List CS := [.asg (.v 4) (.call "_law_mix" [] F__law_mix [(.b 0), (.c (.int 4)), (.c (.int 3))]),
    .ife (.t (.cmp .eq (.b 1) (.c (.str [100, 111, 110, 101])))) [.asg (.v 5) (.ix (.lst [(.c (.str [32, 113, 61, 34])), (.c (.str [32, 114, 40, 121, 44])), (.c (.str [32, 116, 33, 34, 119, 32, 39]))]) (.b 4)),
    .ret (.call "_law_within" [] F__law_within [(.b 0), (.v 5), (.ix (.lst [(.c (.str [113, 117, 111, 116, 101, 100])), (.c (.str [114, 111, 119])), (.c (.str [115, 97, 105, 100]))]) (.b 4)), (.ix (.lst [(.c (.str [34])), (.c (.str [41])), (.c (.str [39, 34]))]) (.b 4)), (.b 2), (.b 3)])] [],
    .ife (.t (.cmp .eq (.b 4) (.c (.int 0)))) [.asg (.tup [6, 7]) (.call "_law_within" [] F__law_within [(.b 0), (.c (.str [60, 98, 32, 119, 58])), (.c (.str [98, 97, 114, 101])), (.c (.str [62])), (.b 2), (.b 3)])] [.asg (.tup [6, 7]) (.call "_law_within" [] F__law_within [(.b 0), (.c (.str [60, 98, 32, 97, 61, 34, 120, 34])), (.c (.str [100, 111, 110, 101])), (.c (.str [62])), (.b 2), (.b 3)])],
    .asg (.tup [8, 9]) (.call "_law_good" [] F__law_good [(.call "_law_part" [] F__law_part [(.b 0), (.c (.int 9))]), (.c (.str [116, 101, 120, 116])), (.bin .sub (.b 2) (.c (.int 1))), (.b 3)]),
    .ret (.tup [(.bin .add (.bin .add (.b 6) (.b 8)) (.lst [(.tup [(.c (.str [108, 105, 116])), (.c (.str [60, 47, 98, 62]))])])), (.bin .add (.b 7) (.b 9))])]
noncomputable abbrev as__law_compound : List Nat := [4, 5, 6, 7, 8, 9]
noncomputable def c__law_some (F__law_compound : Fn) (F__law_good : Fn) : List CS := [.asg (.v 4) (.call "_law_mix" [] F__law_mix [(.b 0), (.c (.int 1)), (.c (.int 8))]),
    .asg (.v 5) (.ix (.lst [(.c (.str [97])), (.c (.str [97, 98])), (.c (.str [119, 104, 111])), (.c (.str [98]))]) (.call "_law_mix" [] F__law_mix [(.b 0), (.c (.int 2)), (.c (.int 4))])),
    .ife (.tb true [(.t (.cmp .eq (.b 4) (.c (.int 1)))), (.t (.cmp .ne (.b 1) (.c (.str [100, 111, 110, 101]))))]) [.ret (.tup [(.lst [(.tup [(.c (.str [104, 111, 108, 101])), (.v 5)])]), (.lst [(.tup [(.v 5), (.b 1)])])])] [],
    .ife (.tb false [(.t (.cmp .lt (.b 4) (.c (.int 2)))), (.t (.cmp .eq (.b 2) (.c (.int 0)))), (.tb true [(.t (.cmp .gt (.b 4) (.c (.int 4)))), (.t (.cmp .notin (.b 1) (.tup [(.c (.str [116, 101, 120, 116])), (.c (.str [100, 111, 110, 101]))])))])]) [.ret (.tup [(.lst [(.tup [(.c (.str [108, 105, 116])), (.get2 (.dsp [(.c (.str [116, 101, 120, 116])), (.c (.str [120, 32, 121, 38, 48, 53, 59])), (.c (.str [100, 111, 110, 101])), (.c (.str [32, 99, 61, 34, 121, 34]))]) (.b 1) (.c (.str [122, 48])))])]), (.lst [])])] [],
    .ife (.t (.cmp .gt (.b 4) (.c (.int 4)))) [.ret (.call "_law_compound" [] F__law_compound [(.b 0), (.b 1), (.b 2), (.b 3)])] [],
    .asg (.tup [6, 7]) (.call "_law_good" [] F__law_good [(.call "_law_part" [] F__law_part [(.b 0), (.c (.int 6))]), (.b 1), (.bin .sub (.b 2) (.c (.int 1))), (.b 3)]),
    .ife (.t (.cmp .eq (.b 4) (.c (.int 2)))) [.ret (.tup [(.lst [(.tup [(.c (.str [101, 97, 99, 104])), (.v 5), (.v 6)])]), (.v 7)])] [],
    .ife (.t (.cmp .eq (.b 4) (.c (.int 3)))) [.asg (.v 8) (.call "_law_good" [] F__law_good [(.call "_law_part" [] F__law_part [(.b 0), (.c (.int 7))]), (.b 1), (.bin .sub (.b 2) (.c (.int 1))), (.b 3)]),
    .ret (.tup [(.lst [(.tup [(.c (.str [105, 102])), (.v 5), (.v 6), (.ix (.b 8) (.c (.int 0)))])]), (.bin .add (.b 7) (.ix (.b 8) (.c (.int 1))))])] [],
    .asg (.v 9) (.ix (.lst [(.c (.str [98, 108, 111, 99, 107])), (.c (.str [101, 108, 100, 101, 114])), (.c (.str [100, 114, 97, 119]))]) (.call "_law_mix" [] F__law_mix [(.b 0), (.c (.int 3)), (.c (.int 3))])),
    .ret (.tup [(.lst [(.tup [(.c (.str [115, 101, 97, 116])), (.v 9), (.c (.str [97])), (.ix (.lst [(.c (.str [98])), (.c (.str []))]) (.b1 .int (.cmp .eq (.b 9) (.c (.str [100, 114, 97, 119]))))), (.v 6)])]), (.v 7)])]
noncomputable abbrev as__law_some : List Nat := [4, 5, 6, 7, 8, 9]
noncomputable def c__law_good (F__law_some : Fn) : List CS := [.asg (.v 4) (.lst []),
    .asg (.v 5) (.lst []),
    .loop (.v 6) .rng [(.call "_law_mix" [] F__law_mix [(.b 0), (.c (.int 5)), (.c (.int 4))])] [.loop (.v 7) .seq [(.b 3)] [.asg (.sub (.b 7) (.c (.int 0))) (.bin .sub (.ix (.b 7) (.c (.int 0))) (.c (.int 1))),
    .ife (.t (.cmp .eq (.ix (.b 7) (.c (.int 0))) (.c (.int 0)))) [.asg (.v 4) (.bin .add (.b 4) (.call "_law_fault" [] F__law_fault [(.ix (.b 7) (.c (.int 1))), (.ix (.b 7) (.c (.int 2))), (.b 1)]))] []],
    .asg (.v 8) (.call "_law_some" [] F__law_some [(.call "_law_part" [] F__law_part [(.b 0), (.b 6)]), (.b 1), (.b 2), (.b 3)]),
    .asg (.v 4) (.bin .add (.b 4) (.ix (.b 8) (.c (.int 0)))),
    .asg (.v 5) (.bin .add (.b 5) (.ix (.b 8) (.c (.int 1))))],
    .ret (.tup [(.v 4), (.v 5)])]
noncomputable abbrev as__law_good : List Nat := [4, 5, 6, 7, 8]
mutual
noncomputable def F__law_good : Nat → Fn
  | 0 => fun _ => .no
  | n + 1 => fnD [] 4 9 (c__law_good (F__law_some n))
noncomputable def F__law_some : Nat → Fn
  | 0 => fun _ => .no
  | n + 1 => fnD [] 4 10 (c__law_some (F__law_compound n) (F__law_good n))
noncomputable def F__law_within : Nat → Fn
  | 0 => fun _ => .no
  | n + 1 => fnD [] 6 8 (c__law_within (F__law_good n))
noncomputable def F__law_compound : Nat → Fn
  | 0 => fun _ => .no
  | n + 1 => fnD [] 4 10 (c__law_compound (F__law_within n) (F__law_good n))
end
noncomputable def c__law_made : List CS := [.asg (.tup [2, 3]) (.call "_law_good" [] (F__law_good 20) [(.b 0), (.c (.str [116, 101, 120, 116])), (.c (.int 3)), (.b 1)]),
    .loop (.v 4) .seq [(.b 1)] [.ife (.t (.cmp .gt (.ix (.b 4) (.c (.int 0))) (.c (.int 0)))) [.asg (.v 2) (.bin .add (.b 2) (.call "_law_fault" [] F__law_fault [(.ix (.b 4) (.c (.int 1))), (.ix (.b 4) (.c (.int 2))), (.c (.str [116, 101, 120, 116]))])),
    .asg (.sub (.b 4) (.c (.int 0))) (.c (.int 0))] []],
    .ret (.tup [(.v 2), (.v 3)])]
noncomputable abbrev as__law_made : List Nat := [2, 3, 4]
noncomputable def F__law_made : Fn := fnD [] 2 5 c__law_made
noncomputable def c__law_go (F__law_go : Fn) : List CS := [.loop (.v 3) .rng [(.b1 .len (.b 0))] [.asg (.v 4) (.ix (.b 0) (.b 3)),
    .asg (.v 5) (.bin .add (.call "_law_mix" [] F__law_mix [(.b 1), (.bin .add (.c (.int 20)) (.bin .mod (.b 3) (.c (.int 9)))), (.c (.int 999999999989))]) (.b 3)),
    .ife (.t (.cmp .eq (.ix (.b 4) (.c (.int 0))) (.c (.str [115, 101, 97, 116])))) [.ex (.mu .append (.ix (.b 2) (.c (.int 1))) [(.tup [(.c (.str [105, 110, 116, 111])), (.ix (.b 4) (.c (.int 1))), (.ix (.b 4) (.c (.int 2))), (.ix (.b 4) (.c (.int 3)))])]),
    .ex (.call "_law_go" [false, false, true] F__law_go [(.ix (.b 4) (.c (.int 4))), (.b 5), .b 2]),
    .ex (.mu .append (.ix (.b 2) (.c (.int 1))) [(.tup [(.c (.str [111, 117, 116]))])])] [.ife (.tb false [(.t (.cmp .eq (.ix (.b 4) (.c (.int 0))) (.c (.str [101, 97, 99, 104])))), (.t (.cmp .eq (.ix (.b 4) (.c (.int 0))) (.c (.str [105, 102]))))]) [.asg (.v 6) (.call "_law_mix" [] F__law_mix [(.b 5), (.c (.int 6)), (.c (.int 2))]),
    .ex (.mu .append (.ix (.b 2) (.c (.int 0))) [(.b 6)]),
    .ex (.mu .append (.ix (.b 2) (.c (.int 2))) [(.b1 .len (.ix (.b 2) (.c (.int 1))))]),
    .ife (.t (.cmp .eq (.ix (.b 4) (.c (.int 0))) (.c (.str [105, 102])))) [.ex (.call "_law_go" [false, false, true] F__law_go [(.ix (.b 4) (.bin .add (.c (.int 2)) (.b 6))), (.b 5), .b 2])] [.ife (.t (.cmp .eq (.b 6) (.c (.int 1)))) [.ex (.call "_law_go" [false, false, true] F__law_go [(.ix (.b 4) (.c (.int 2))), (.b 5), .b 2])] []]] [.ex (.mu .append (.ix (.b 2) (.c (.int 1))) [(.b 4)])]]]]
noncomputable abbrev as__law_go : List Nat := [3, 4, 5, 6]
noncomputable def F__law_go : Nat → Fn
  | 0 => fun _ => .no
  | n + 1 => fnD [false, false, true] 3 7 (c__law_go (F__law_go n))
noncomputable def c__law_is : List CS := [.ife (.tb false [(.tn (.t (.isi (.b 0) .list))), (.t (.cmp .ne (.b 0) (.b 1)))]) [.ret (.c (.bl false))] [],
    .loop (.v 2) .seq [(.b 0)] [.ife (.tn (.t (.isi (.b 2) .tuple))) [.ret (.c (.bl false))] []],
    .ret (.c (.bl true))]
noncomputable abbrev as__law_is : List Nat := [2]
noncomputable def F__law_is : Fn := fnD [] 2 3 c__law_is
noncomputable def c__law_right (F__law_go : Fn) : List CS := [.asg (.v 2) (.lsd [(.lst []), (.lst []), (.lst [])]),
    .ex (.call "_law_go" [false, false, true] F__law_go [(.b 0), (.b 1), .b 2]),
    .asg (.tup [3, 4, 5]) (.v 2),
    .asg (.v 6) (.b1 .list (.b 3)),
    .loop (.v 7) .seq [(.tup [(.c (.int 0)), (.b1 .len (.b 4)), (.call "_law_mix" [] F__law_mix [(.b 1), (.c (.int 7)), (.bin .add (.b1 .len (.b 4)) (.c (.int 1)))]), (.bin .fdiv (.b1 .len (.b 4)) (.c (.int 2)))])] [.asg (.v 8) (.call "walked" [] F_walked [(.b 0), (.tup [(.v 3), (.b 7)])]),
    .ife (.tb false [(.tn (.t (.callB "_law_is" F__law_is [(.b 8), (.sl (.b 4) [] [(.b 7)])]))), (.t (.cmp .ne (.b 3) (.b 6)))]) [.ret (.c (.bl false))] [],
    .ex (.mu .clear (.b 8) []),
    .ife (.tn (.t (.call "_law_is" [] F__law_is [(.call "walked" [] F_walked [(.b 0), (.tup [(.v 3), (.b 7)])]), (.sl (.b 4) [] [(.b 7)])]))) [.ret (.c (.bl false))] []],
    .loop (.v 9) .rng [(.b1 .len (.b 3))] [.ife (.tn (.t (.call "_law_is" [] F__law_is [(.call "walked" [] F_walked [(.b 0), (.tup [(.sl (.b 3) [] [(.b 9)]), (.ix (.b 5) (.b 9))])]), (.sl (.b 4) [] [(.ix (.b 5) (.b 9))])]))) [.ret (.c (.bl false))] [],
    .ife (.tn (.t (.call "_law_is" [] F__law_is [(.call "walked" [] F_walked [(.b 0), (.tup [(.sl (.b 3) [] [(.bin .add (.b 9) (.c (.int 1)))]), (.ix (.b 5) (.b 9))])]), (.sl (.b 4) [] [(.ix (.b 5) (.b 9))])]))) [.ret (.c (.bl false))] []],
    .ret (.c (.bl true))]
noncomputable abbrev as__law_right : List Nat := [2, 3, 4, 5, 6, 7, 8, 9]
noncomputable def F__law_right : Fn := fnD [] 2 10 (c__law_right (F__law_go 20))
noncomputable def c_law : List CS := [.loop (.v 1) .rng [(.b2 .max (.c (.int 2)) (.b2 .min (.b1 .len (.b 0)) (.c (.int 6))))] [.asg (.v 2) (.call "_law_cell" [] F__law_cell [(.b 0), (.b 1)]),
    .asg (.v 3) (.ix (.call "_law_made" [] F__law_made [(.v 2), (.lst [])]) (.c (.int 0))),
    .loop (.v 4) .rng [(.c (.int 3))] [.ife (.tn (.t (.call "_law_right" [] F__law_right [(.v 3), (.bin .add (.bin .fdiv (.b 2) (.bin .add (.c (.int 3)) (.b 4))) (.b 4))]))) [.ret (.c (.bl false))] []],
    .ife (.t (.cmp .ne (.b 3) (.ix (.call "_law_made" [] F__law_made [(.v 2), (.lst [])]) (.c (.int 0))))) [.ret (.c (.bl false))] []],
    .asg (.v 5) (.lst [(.tup [(.c (.str [105, 102])), (.c (.str [97])), (.lst [(.tup [(.c (.str [108, 105, 116])), (.c (.str [120]))])]), (.lst [(.tup [(.c (.str [104, 111, 108, 101])), (.c (.str [98]))])])]), (.tup [(.c (.str [101, 97, 99, 104])), (.c (.str [99])), (.lst [(.tup [(.c (.str [108, 105, 116])), (.c (.str [121]))])])]), (.tup [(.c (.str [108, 105, 116])), (.c (.str [122]))])]),
    .asg (.v 6) (.lst [(.tup [(.c (.str [115, 101, 97, 116])), (.c (.str [101, 108, 100, 101, 114])), (.c (.str [112])), (.c (.str [113])), (.v 5)]), (.tup [(.c (.str [108, 105, 116])), (.c (.str [119]))])]),
    .asg (.v 7) (.lst [(.tup [(.c (.str [105, 110, 116, 111])), (.c (.str [101, 108, 100, 101, 114])), (.c (.str [112])), (.c (.str [113]))]), (.tup [(.c (.str [104, 111, 108, 101])), (.c (.str [98]))]), (.tup [(.c (.str [108, 105, 116])), (.c (.str [121]))]), (.tup [(.c (.str [108, 105, 116])), (.c (.str [122]))]), (.tup [(.c (.str [111, 117, 116]))]), (.tup [(.c (.str [108, 105, 116])), (.c (.str [119]))])]),
    .ife (.tn (.t (.call "_law_is" [] F__law_is [(.call "walked" [] F_walked [(.v 6), (.tup [(.lst [(.c (.int 0)), (.c (.int 0))]), (.c (.int 3))])]), (.lst [(.ix (.b 7) (.c (.int 0))), (.tup [(.c (.str [108, 105, 116])), (.c (.str [120]))]), (.ix (.b 7) (.c (.int 3)))])]))) [.ret (.c (.bl false))] [],
    .ret (.call "_law_is" [] F__law_is [(.call "walked" [] F_walked [(.v 6), (.tup [(.lst [(.c (.int 1)), (.c (.int 1))]), (.c (.int 6))])]), (.v 7)])]
noncomputable abbrev as_law : List Nat := [1, 2, 3, 4, 5, 6, 7]
noncomputable def F_law : Fn := fnD [] 1 8 c_law
theorem k_branches_of : chkSs N_branches_of (defScope s_branches_of) true as_branches_of c_branches_of (defBody s_branches_of) = true := by decide +kernel
theorem k_walked : chkSs N_walked (defScope s_walked) true as_walked c_walked (defBody s_walked) = true := by decide +kernel
theorem k__law_cell : chkSs N__law_cell (defScope s__law_cell) true as__law_cell c__law_cell (defBody s__law_cell) = true := by decide +kernel
theorem k__law_mix : chkSs N__law_mix (defScope s__law_mix) true as__law_mix c__law_mix (defBody s__law_mix) = true := by decide +kernel
theorem k__law_part : chkSs N__law_part (defScope s__law_part) true as__law_part c__law_part (defBody s__law_part) = true := by decide +kernel
theorem k__law_fault : chkSs N__law_fault (defScope s__law_fault) true as__law_fault c__law_fault (defBody s__law_fault) = true := by decide +kernel
theorem k__law_within {F__law_good : Fn} : chkSs N__law_within (defScope s__law_within) true as__law_within (c__law_within F__law_good) (defBody s__law_within) = true := by kernel_rfl
theorem k__law_compound {F__law_within : Fn} {F__law_good : Fn} : chkSs N__law_compound (defScope s__law_compound) true as__law_compound (c__law_compound F__law_within F__law_good) (defBody s__law_compound) = true := by kernel_rfl
theorem k__law_some {F__law_compound : Fn} {F__law_good : Fn} : chkSs N__law_some (defScope s__law_some) true as__law_some (c__law_some F__law_compound F__law_good) (defBody s__law_some) = true := by kernel_rfl
theorem k__law_good {F__law_some : Fn} : chkSs N__law_good (defScope s__law_good) true as__law_good (c__law_good F__law_some) (defBody s__law_good) = true := by kernel_rfl
theorem k__law_made : chkSs N__law_made (defScope s__law_made) true as__law_made c__law_made (defBody s__law_made) = true := by decide +kernel
theorem k__law_go {F__law_go : Fn} : chkSs N__law_go (defScope s__law_go) true as__law_go (c__law_go F__law_go) (defBody s__law_go) = true := by kernel_rfl
theorem k__law_is : chkSs N__law_is (defScope s__law_is) true as__law_is c__law_is (defBody s__law_is) = true := by decide +kernel
theorem k__law_right {F__law_go : Fn} : chkSs N__law_right (defScope s__law_right) true as__law_right (c__law_right F__law_go) (defBody s__law_right) = true := by kernel_rfl
theorem k_law : chkSs N_law (defScope s_law) true as_law c_law (defBody s_law) = true := by decide +kernel

local macro_rules | `(tactic| walk_at "dis") => `(tactic| first | assumption | with_unfolding_all exact tru rfl | omega | exact ⟨by omega, by omega⟩ | exact sm_lit (by omega) (by omega) | (simp only [List.length_append, List.length_cons, List.length_nil, List.length_map, List.length_range]; omega))
local macro_rules | `(tactic| walk_at "ev*") => `(tactic| simp (disch := walk_at "dis") only [ev_c, ev_bin, ev_cmp, ev_ix, ev_b2, ev_t, ev_rev, ev_b1, ev_isi, ev_tn, ev_b, ev_v, ev_m, ev_tb, ev_tb0, ev_tb1, ev_ife, ev_lst, ev_lsd, ev_tup, ev_es0, ev_es1, ev_qs0, ev_qs1, ev_as0, ev_as1, ev_as2, ev_as3, ev_call, ev_callB, ev_dsp, ev_ps0, ev_ps1, ev_sl, ev_get2, ev_mu, k1_ok, k1_bw, k2_ok, k2_bw, k2b_ok, k2b_bw, r_t, r_rev, r_b1, r_isi, r_bin, r_cmp, r_ix, r_b2, of_ok, ob_ok, at_fr, at_fl, notK_ok, tbK_ok, ifE_ok, consK_ok, consQ_ok, consQ_bw, frK_ok, takeK_ok, rl_cons, mkK_ok, mk_lst, mk_lsd, mk_tup, callK_ok, putK_ok, putA_n, putA_n2, putA_f, putA_t, callBK_ok, dspK_ok, keyK_ok, keyB_str, rp_cons, muK_ok, muL_ok, slK_ok, slC0, slB1, slA_ok, get2K_ok, get2A_ok, get2B_ok, ev_ss0, ev_ss1, ev_ret, ev_asg, ev_ex, ev_brk, ev_if, ev_for, ev_whl, seq_nx, seq_rt, seq_bk, retK_ok, asgK_ok, ofo_some, asg_v, exK_ok, ifK_ok, forK_ok, ev_fn, fin_rt, fin_nx, mutOk_n, mkArgs_n, o_add, o_sub, o_mod, o_div, o_shr, ite_okb, seq_ite, fin_ite, Bool.not_eq_true, c_lt, c_gt, c_eqi, c_eqs, c_nes, x_tp, x_ls, x_kl, x_fl, x_ol, l_fl, l_ls, l_kl, b_intb, b_max, b_min, s_ls, mu_clear, mu_pop, atI_c0, atI_c1, atI_c2, atI_c3, atI_c4, quiet, quiets, pathOf, lsAt, getO, setO, isLs, isDc, muAt, isiO, tyD, truD, O.fz, fzs, scal_ok, scalD, bindD, List.getElem?_cons_zero, List.getElem?_cons_succ, List.getElem?_nil, List.set_cons_zero, List.set_cons_succ, List.set_nil, Nat.reduceAdd, Nat.reduceSub, Nat.reduceLeDiff, Nat.reduceLT, Nat.reduceEqDiff, Nat.reduceMul, Nat.reducePow, Int.reduceAdd, Int.reduceSub, Int.reduceMul, Int.reducePow, Int.reduceNeg, Int.reduceLT, Int.reduceLE, Int.reduceEq, Int.reduceToNat, Int.reduceMod, Int.reduceDiv, Int.reduceBEq, List.map_cons, List.map_nil, List.cons_append, List.nil_append, List.append_nil, List.length_cons, List.length_nil, List.replicate, List.isEmpty_nil, List.isEmpty_cons, List.all_cons, List.all_nil, Option.map_some, Option.map_none, reduceCtorEq, decide_true, decide_false, decide_eq_true_eq, Bool.not_true, Bool.not_false, Bool.and_true, Bool.true_and, Bool.and_false, Bool.false_and, Bool.or_true, Bool.true_or, Bool.or_false, Bool.false_or, Bool.not_eq_true', Bool.false_eq_true, Bool.true_eq_false, and_true, true_and, and_self, if_true, if_false, ↓reduceIte, decide_eq_false_iff_not, ne_eq, not_false_eq_true, not_true_eq_false, String.reduceBEq, o_mulL, o_mulR, o_pows, true_or, or_true, asg_t, asg_tl, setN0, setN1, cat_ff, cat_fs, cat_ss, c_nin2, get2_fd, it_seqS, it_seqT, for0, Int.cast_ofNat_Int, nd_, od_, ite_dd, ite_do, ite_d2, ite_d3, ite_d4, o_mul, rev_ls, mu_extF, mu_app, emp_snoc, List.cons.injEq, false_and, and_false, List.map_append, List.reverse_cons, List.reverse_nil, mkA_t, mkA_f, mut_t, mut_f, args1, args2, args3, args4, idx0, idx1, idx2, Option.getD_some, c_neL1, c_neL3, b_listS, cut_take, it_rngL, Int.toNat_natCast, *])

noncomputable def L1 (k : Int) : Int := [1000000007, 1181783503, 1372345291, 1518500279, 1636201513, 1734723539, 1871234567, 2012345681].getD (k % 8).toNat 0
noncomputable def L2' (k : Int) : Int := [100000000003, 223606797763, 314159265359, 414213562379, 577215664943, 693147180563, 732050807573].getD (k % 7).toNat 0
theorem at8 (k : Int) : atI [D.int 1000000007, D.int 1181783503, D.int 1372345291, D.int 1518500279, D.int 1636201513, D.int 1734723539, D.int 1871234567, D.int 2012345681] (k % 8) = some (D.int (L1 k)) := by
  have : k % 8 = 0 ∨ k % 8 = 1 ∨ k % 8 = 2 ∨ k % 8 = 3 ∨ k % 8 = 4 ∨ k % 8 = 5 ∨ k % 8 = 6 ∨ k % 8 = 7 := by omega
  unfold L1
  rcases this with e | e | e | e | e | e | e | e <;> rw [e] <;> rfl
theorem at7 (k : Int) : atI [D.int 100000000003, D.int 223606797763, D.int 314159265359, D.int 414213562379, D.int 577215664943, D.int 693147180563, D.int 732050807573] (k % 7) = some (D.int (L2' k)) := by
  have : k % 7 = 0 ∨ k % 7 = 1 ∨ k % 7 = 2 ∨ k % 7 = 3 ∨ k % 7 = 4 ∨ k % 7 = 5 ∨ k % 7 = 6 := by omega
  unfold L2'
  rcases this with e | e | e | e | e | e | e <;> rw [e] <;> rfl
theorem L1_sm (k : Int) : Sm (L1 k) := by
  have : k % 8 = 0 ∨ k % 8 = 1 ∨ k % 8 = 2 ∨ k % 8 = 3 ∨ k % 8 = 4 ∨ k % 8 = 5 ∨ k % 8 = 6 ∨ k % 8 = 7 := by omega
  unfold L1 Sm
  rcases this with e | e | e | e | e | e | e | e <;> rw [e] <;> decide
theorem L2_sm (k : Int) : Sm (L2' k) := by
  have : k % 7 = 0 ∨ k % 7 = 1 ∨ k % 7 = 2 ∨ k % 7 = 3 ∨ k % 7 = 4 ∨ k % 7 = 5 ∨ k % 7 = 6 := by omega
  unfold L2' Sm
  rcases this with e | e | e | e | e | e | e <;> rw [e] <;> decide
noncomputable def mixB (c k : Int) : Int := (((c + k * k * k) % 1000000000039 + 1) * L1 k % 2147483629 + 1) * L2' k % 999999999989
noncomputable def mixA (c k : Int) : Int := if c % 2 = 0 ∧ 1000000000000000000 < c ∧ 0 < c / 2 ^ (7 * k + 8).toNat then c / 2 ^ (7 * k + 1).toNat else mixB c k
noncomputable def mixM (c k m : Int) : Nat := (mixA c k % m).toNat
theorem mix_lt {c k m : Int} (h : 0 < m) : (mixM c k m : Int) < m := by
  unfold mixM
  have := Int.emod_nonneg (mixA c k) (by omega : m ≠ 0)
  have := Int.emod_lt_of_pos (mixA c k) h
  omega
theorem mix_eq {c k m : Int} (h : 0 < m) : mixA c k % m = ((mixM c k m : Nat) : Int) := (Int.toNat_of_nonneg (Int.emod_nonneg _ (by omega))).symm
theorem f_mix {c k m : Int} (h0 : 0 ≤ k) (h1 : k ≤ 1000) (hm : 0 < m) : F__law_mix [.fr (.int c), .fr (.int k), .fr (.int m)] = .ok (.fr (.int (mixM c k m : Nat))) [.fr (.int c), .fr (.int k), .fr (.int m)] := by
  unfold F__law_mix c__law_mix
  rw [← mix_eq hm]
  have q1 : 0 ≤ 7 * k + 8 := by omega
  have q2 : 0 ≤ 7 * k + 1 := by omega
  have q3 : Sm k := sm_of h0 (by omega)
  have q4 := at8 k
  have q5 := at7 k
  have q6 := L1_sm k
  have q7 := L2_sm k
  walk_at "ev*"
  unfold mixA mixB
  split <;> rfl


noncomputable def partM (c k : Int) : Int := (mixM c (30 + k) 999999999989 : Nat)
noncomputable def kText : Tx := [116, 101, 120, 116]
noncomputable def kDone : Tx := [100, 111, 110, 101]
noncomputable def nameM (c : Int) : Tx := [[97], [97, 98], [119, 104, 111], [98]].getD (mixM c 2 4) []
noncomputable def wordM (c : Int) : Tx := [[98, 108, 111, 99, 107], [101, 108, 100, 101, 114], [100, 114, 97, 119]].getD (mixM c 3 3) []
noncomputable def litM (kind : Tx) : Tx := if kind = kText then [120, 32, 121, 38, 48, 53, 59] else if kind = kDone then [32, 99, 61, 34, 121, 34] else [122, 48]
noncomputable def withF (G : Int → Tx → List Pc) (c : Int) (lead kind close : Tx) : List Pc := [.lit lead] ++ G (partM c 8) kind ++ [.lit close]
noncomputable def compF (G : Int → Tx → List Pc) (c : Int) (kind : Tx) : List Pc :=
  if kind = kDone then withF G c ([[32, 113, 61, 34], [32, 114, 40, 121, 44], [32, 116, 33, 34, 119, 32, 39]].getD (mixM c 4 3) []) ([[113, 117, 111, 116, 101, 100], [114, 111, 119], [115, 97, 105, 100]].getD (mixM c 4 3) []) ([[34], [41], [39, 34]].getD (mixM c 4 3) [])
  else (if mixM c 4 3 = 0 then withF G c [60, 98, 32, 119, 58] [98, 97, 114, 101] [62] else withF G c [60, 98, 32, 97, 61, 34, 120, 34] kDone [62]) ++ G (partM c 9) kText ++ [.lit [60, 47, 98, 62]]
noncomputable def someF (z : Bool) (G : Int → Tx → List Pc) (c : Int) (kind : Tx) : List Pc :=
  if mixM c 1 8 = 1 ∧ kind ≠ kDone then [.hole (nameM c)]
  else if mixM c 1 8 < 2 ∨ z = true ∨ (4 < mixM c 1 8 ∧ kind ≠ kText ∧ kind ≠ kDone) then [.lit (litM kind)]
  else if 4 < mixM c 1 8 then compF G c kind
  else if mixM c 1 8 = 2 then [.each (nameM c) (G (partM c 6) kind)]
  else if mixM c 1 8 = 3 then [.ife (nameM c) (G (partM c 6) kind) (G (partM c 7) kind)]
  else [.seat (wordM c) [97] (if wordM c = [100, 114, 97, 119] then [] else [98]) (G (partM c 6) kind)]
noncomputable def goodF (z : Bool) (G : Int → Tx → List Pc) (c : Int) (kind : Tx) : List Pc := ((List.range (mixM c 5 4)).map fun (k : Nat) => someF z G (partM c k) kind).flatten
noncomputable def goodM : Nat → Int → Tx → List Pc
  | 0 => goodF true fun _ _ => []
  | d + 1 => goodF false (goodM d)
noncomputable def someM : Nat → Int → Tx → List Pc
  | 0 => someF true fun _ _ => []
  | d + 1 => someF false (goodM d)
noncomputable def gL : Nat → Nat
  | 0 => 10
  | d + 1 => 3 * (3 + 2 * gL d) + 10
theorem dPs_app : ∀ a b : List Pc, dPs (a ++ b) = dPs a ++ dPs b
  | [], _ => by simp only [dPs, List.nil_append]
  | p :: a, b => by simp only [List.cons_append, dPs, dPs_app a b]
theorem szPs_app : ∀ a b : List Pc, szPs (a ++ b) = szPs a + szPs b
  | [], _ => by simp only [szPs, List.nil_append, Nat.zero_add]
  | p :: a, b => by simp only [List.cons_append, szPs, szPs_app a b]; omega
theorem szP_pos (x : Pc) : 1 ≤ szP x := by cases x <;> simp only [szP] <;> omega
theorem dPs_le : ∀ ps : List Pc, (dPs ps).length ≤ szPs ps
  | [] => by simp only [dPs, szPs]; exact Nat.le_refl 0
  | p :: ps => by
    have := dPs_le ps
    have := szP_pos p
    simp only [dPs, szPs, List.length_cons]; omega
noncomputable def accM (d : Nat) (c : Int) (kind : Tx) (i : Nat) : List Pc := ((List.range i).map fun (k : Nat) => someM d (partM c k) kind).flatten
theorem accM_succ (d : Nat) (c : Int) (kind : Tx) (i : Nat) : accM d c kind (i + 1) = accM d c kind i ++ someM d (partM c i) kind := by
  unfold accM
  rw [List.range_succ, List.map_append, List.flatten_append]
  simp
theorem goodM_acc (d : Nat) (c : Int) (kind : Tx) : goodM d c kind = accM d c kind (mixM c 5 4) := by cases d <;> rfl
noncomputable def sBd (d : Nat) : Nat := if d = 0 then 1 else 3 + 2 * gL (d - 1)
theorem sB_le (d : Nat) : 3 * sBd d ≤ gL d := by
  cases d with
  | zero => decide
  | succ d => show 3 * (3 + 2 * gL d) ≤ 3 * (3 + 2 * gL d) + 10; omega
theorem f_part {c k : Int} (h0 : 0 ≤ k) (h1 : k ≤ 100) : F__law_part [.fr (.int c), .fr (.int k)] = .ok (.fr (.int (partM c k))) [.fr (.int c), .fr (.int k)] := by
  unfold F__law_part c__law_part
  have q := f_mix (c := c) (k := 30 + k) (m := 999999999989) (by omega) (by omega) (by omega)
  walk_at "ev*"
  rfl

noncomputable def Mk (G : Fn) (os : List O) (ps : List Pc) (n : Nat) : Prop := ∃ due : List D, G os = .ok (.fr (.tp [.ls (dPs ps), .ls due])) os ∧ due.length ≤ n ∧ szPs ps ≤ n
noncomputable abbrev a4 (c : Int) (kind : Tx) (d : Nat) : List O := [.fr (.int c), .fr (.str kind), .fr (.int d), .fr (.ls [])]
noncomputable abbrev a6 (c : Int) (l k z : Tx) (d : Nat) : List O := [.fr (.int c), .fr (.str l), .fr (.str k), .fr (.str z), .fr (.int d), .fr (.ls [])]
noncomputable def GoodK (G : Fn) (d : Nat) : Prop := ∀ c kind, Mk G (a4 c kind d) (goodM d c kind) (gL d)
noncomputable def WithK (G : Fn) (d : Nat) : Prop := ∀ c l k z, Mk G (a6 c l k z (d + 1)) (withF (goodM d) c l k z) (2 + gL d)
noncomputable def CompK (G : Fn) (d : Nat) : Prop := ∀ c kind, Mk G (a4 c kind (d + 1)) (compF (goodM d) c kind) (3 + 2 * gL d)
noncomputable def SomeK (G : Fn) (d : Nat) : Prop := ∀ c kind, Mk G (a4 c kind d) (someM d c kind) (sBd d)
theorem dm1 (d : Nat) : ((d + 1 : Nat) : Int) - 1 = (d : Int) := by omega
theorem f_within {G : Fn} {d : Nat} (h : GoodK G d) (hd : gL d ≤ 1000000) : WithK (fnD [] 6 8 (c__law_within G)) d := by
  intro c l k z
  obtain ⟨due, q, h1, h2⟩ := h (partM c 8) k
  have h3 := dPs_le (goodM d (partM c 8) k)
  have q2 := f_part (c := c) (k := 8) (by decide) (by decide)
  have q3 := dm1 d
  refine ⟨due, ?_, by omega, ?_⟩
  · unfold c__law_within withF
    simp only [dPs_app, dPs, dP]
    walk_at "ev*"
  · unfold withF
    simp only [szPs_app, szPs, szP]; omega
theorem mix3 (c k : Int) : mixM c k 3 = 0 ∨ mixM c k 3 = 1 ∨ mixM c k 3 = 2 := by
  have := mix_lt (c := c) (k := k) (m := 3) (by decide)
  omega
theorem f_compound {W G : Fn} {d : Nat} (hW : WithK W d) (h : GoodK G d) (hd : gL d ≤ 1000000) : CompK (fnD [] 4 10 (c__law_compound W G)) d := by
  intro c kind
  have q1 := f_mix (c := c) (k := 4) (m := 3) (by decide) (by decide) (by decide)
  have q2 := f_part (c := c) (k := 9) (by decide) (by decide)
  have q3 := dm1 d
  by_cases hk : kind = kDone
  · subst hk
    have hq : kDone = [100, 111, 110, 101] := rfl
    have e0 : ((0 : Nat) : Int) = 0 := rfl
    have e1 : ((1 : Nat) : Int) = 1 := rfl
    have e2 : ((2 : Nat) : Int) = 2 := rfl
    unfold compF
    simp only [if_true]
    rcases mix3 c 4 with e | e | e
    · rw [e] at q1 ⊢
      obtain ⟨due, q, h1, h2⟩ := hW c [32, 113, 61, 34] [113, 117, 111, 116, 101, 100] [34]
      refine ⟨due, ?_, by omega, Nat.le_trans h2 (by omega)⟩
      unfold c__law_compound
      simp only [List.getD_cons_zero, List.getD_cons_succ]
      walk_at "ev*"
    · rw [e] at q1 ⊢
      obtain ⟨due, q, h1, h2⟩ := hW c [32, 114, 40, 121, 44] [114, 111, 119] [41]
      refine ⟨due, ?_, by omega, Nat.le_trans h2 (by omega)⟩
      unfold c__law_compound
      simp only [List.getD_cons_zero, List.getD_cons_succ]
      walk_at "ev*"
    · rw [e] at q1 ⊢
      obtain ⟨due, q, h1, h2⟩ := hW c [32, 116, 33, 34, 119, 32, 39] [115, 97, 105, 100] [39, 34]
      refine ⟨due, ?_, by omega, Nat.le_trans h2 (by omega)⟩
      unfold c__law_compound
      simp only [List.getD_cons_zero, List.getD_cons_succ]
      walk_at "ev*"
  · have hq : ¬ kind = [100, 111, 110, 101] := hk
    obtain ⟨due2, g, h3, h4⟩ := h (partM c 9) kText
    have g0 : kText = [116, 101, 120, 116] := rfl
    have hD : kDone = [100, 111, 110, 101] := rfl
    have h5 := dPs_le (goodM d (partM c 9) kText)
    unfold compF
    rw [if_neg hk]
    by_cases e : mixM c 4 3 = 0
    · rw [if_pos e]
      obtain ⟨due, q, h1, h2⟩ := hW c [60, 98, 32, 119, 58] [98, 97, 114, 101] [62]
      have h6 := dPs_le (withF (goodM d) c [60, 98, 32, 119, 58] [98, 97, 114, 101] [62])
      refine ⟨due ++ due2, ?_, by rw [List.length_append]; omega, by simp only [szPs_app, szPs, szP]; omega⟩
      have e' : ((mixM c 4 3 : Nat) : Int) = 0 := by omega
      unfold c__law_compound
      rw [g0] at g h5 h4 ⊢
      simp only [dPs_app, dPs, dP]
      rw [e'] at q1
      walk_at "ev*"
    · rw [if_neg e]
      obtain ⟨due, q, h1, h2⟩ := hW c [60, 98, 32, 97, 61, 34, 120, 34] kDone [62]
      have h6 := dPs_le (withF (goodM d) c [60, 98, 32, 97, 61, 34, 120, 34] kDone [62])
      refine ⟨due ++ due2, ?_, by rw [List.length_append]; omega, by simp only [szPs_app, szPs, szP]; omega⟩
      have e' : ¬ ((mixM c 4 3 : Nat) : Int) = 0 := by omega
      unfold c__law_compound
      rw [g0] at g h5 h4 ⊢
      rw [hD] at q h6 h2 ⊢
      simp only [dPs_app, dPs, dP]
      walk_at "ev*"
theorem lit_get (kind : Tx) : (dget (dputs [] [] [.inr (S [116, 101, 120, 116]), .inr (S [100, 111, 110, 101])] [D.str [120, 32, 121, 38, 48, 53, 59], D.str [32, 99, 61, 34, 121, 34]]).1 (dputs [] [] [.inr (S [116, 101, 120, 116]), .inr (S [100, 111, 110, 101])] [D.str [120, 32, 121, 38, 48, 53, 59], D.str [32, 99, 61, 34, 121, 34]]).2 (.inr (S kind))).getD (D.str [122, 48]) = D.str (litM kind) := by
  have e : dputs [] [] [.inr (S [116, 101, 120, 116]), .inr (S [100, 111, 110, 101])] [D.str [120, 32, 121, 38, 48, 53, 59], D.str [32, 99, 61, 34, 121, 34]] = ([.inr (S [116, 101, 120, 116]), .inr (S [100, 111, 110, 101])], [D.str [120, 32, 121, 38, 48, 53, 59], D.str [32, 99, 61, 34, 121, 34]]) := by
    simp only [dputs, dput, List.any_nil, List.any_cons, Bool.false_eq_true, if_false, List.nil_append]
    rfl
  rw [e]
  unfold litM dget
  by_cases h1 : kind = kText
  · subst h1; rfl
  · rw [if_neg h1]
    by_cases h2 : kind = kDone
    · subst h2; rfl
    · rw [if_neg h2]
      have n1 : ¬ S [116, 101, 120, 116] = S kind := fun z => h1 (S_inj.mp z).symm
      have n2 : ¬ S [100, 111, 110, 101] = S kind := fun z => h2 (S_inj.mp z).symm
      simp [List.find?, n1, n2]
theorem name_at (c : Int) : atI [D.str [97], D.str [97, 98], D.str [119, 104, 111], D.str [98]] (mixM c 2 4 : Nat) = some (D.str (nameM c)) := by
  have h := mix_lt (c := c) (k := 2) (m := 4) (by decide)
  have : mixM c 2 4 = 0 ∨ mixM c 2 4 = 1 ∨ mixM c 2 4 = 2 ∨ mixM c 2 4 = 3 := by omega
  unfold nameM
  rcases this with e | e | e | e <;> rw [e] <;> rfl
theorem word_at (c : Int) : atI [D.str [98, 108, 111, 99, 107], D.str [101, 108, 100, 101, 114], D.str [100, 114, 97, 119]] (mixM c 3 3 : Nat) = some (D.str (wordM c)) := by
  have h := mix_lt (c := c) (k := 3) (m := 3) (by decide)
  have : mixM c 3 3 = 0 ∨ mixM c 3 3 = 1 ∨ mixM c 3 3 = 2 := by omega
  unfold wordM
  rcases this with e | e | e <;> rw [e] <;> rfl
theorem f_some0 {C G : Fn} : SomeK (fnD [] 4 10 (c__law_some C G)) 0 := by
  intro c kind
  have q1 := f_mix (c := c) (k := 1) (m := 8) (by decide) (by decide) (by decide)
  have q2 := f_mix (c := c) (k := 2) (m := 4) (by decide) (by decide) (by decide)
  have q3 := name_at c
  have q4 := lit_get kind
  have hD : kDone = [100, 111, 110, 101] := rfl
  have e0 : ((0 : Nat) : Int) = 0 := rfl
  show Mk _ _ (someF true (fun _ _ => []) c kind) 1
  unfold someF
  by_cases h1 : mixM c 1 8 = 1 ∧ kind ≠ kDone
  · rw [if_pos h1]
    have h1' : ((mixM c 1 8 : Nat) : Int) = 1 ∧ ¬ kind = [100, 111, 110, 101] := ⟨by omega, h1.2⟩
    refine ⟨[.tp [.str (nameM c), .str kind]], ?_, Nat.le_refl _, Nat.le_refl _⟩
    unfold c__law_some
    simp only [dPs, dP]
    walk_at "ev*"
  · rw [if_neg h1, if_pos (.inr (.inl rfl))]
    have h1' : ¬ (((mixM c 1 8 : Nat) : Int) = 1 ∧ ¬ kind = [100, 111, 110, 101]) := fun h => h1 ⟨by omega, h.2⟩
    refine ⟨[], ?_, Nat.zero_le _, Nat.le_refl _⟩
    unfold c__law_some
    simp only [dPs, dP]
    walk_at "ev*"
theorem f_some {C G : Fn} {d : Nat} (hC : CompK C d) (h : GoodK G d) (hd : gL d ≤ 1000000) : SomeK (fnD [] 4 10 (c__law_some C G)) (d + 1) := by
  intro c kind
  have q1 := f_mix (c := c) (k := 1) (m := 8) (by decide) (by decide) (by decide)
  have q2 := f_mix (c := c) (k := 2) (m := 4) (by decide) (by decide) (by decide)
  have q5 := f_mix (c := c) (k := 3) (m := 3) (by decide) (by decide) (by decide)
  have q6 := f_part (c := c) (k := 6) (by decide) (by decide)
  have q7 := f_part (c := c) (k := 7) (by decide) (by decide)
  have q3 := name_at c
  have q8 := word_at c
  have q4 := lit_get kind
  have q9 := dm1 d
  have hD : kDone = [100, 111, 110, 101] := rfl
  have hT : kText = [116, 101, 120, 116] := rfl
  have e0 : ¬ ((d + 1 : Nat) : Int) = 0 := by omega
  have hb : sBd (d + 1) = 3 + 2 * gL d := rfl
  rw [hb]
  show Mk _ _ (someF false (goodM d) c kind) _
  unfold someF
  by_cases h1 : mixM c 1 8 = 1 ∧ kind ≠ kDone
  · rw [if_pos h1]
    have h1' : ((mixM c 1 8 : Nat) : Int) = 1 ∧ ¬ kind = [100, 111, 110, 101] := ⟨by omega, h1.2⟩
    refine ⟨[.tp [.str (nameM c), .str kind]], ?_, by simp only [List.length_cons, List.length_nil]; omega, by simp only [szPs, szP]; omega⟩
    unfold c__law_some
    simp only [dPs, dP]
    walk_at "ev*"
  · rw [if_neg h1]
    have h1' : ¬ (((mixM c 1 8 : Nat) : Int) = 1 ∧ ¬ kind = [100, 111, 110, 101]) := fun h => h1 ⟨by omega, h.2⟩
    by_cases h2 : mixM c 1 8 < 2 ∨ false = true ∨ (4 < mixM c 1 8 ∧ kind ≠ kText ∧ kind ≠ kDone)
    · rw [if_pos h2]
      have h2' : ((mixM c 1 8 : Nat) : Int) < 2 ∨ ((4 : Int) < (mixM c 1 8 : Nat) ∧ ¬ (kind = [116, 101, 120, 116] ∨ kind = [100, 111, 110, 101])) := by
        rcases h2 with h2 | h2 | h2
        · exact .inl (by omega)
        · cases h2
        · exact .inr ⟨by omega, fun z => z.elim h2.2.1 h2.2.2⟩
      refine ⟨[], ?_, Nat.zero_le _, by simp only [szPs, szP]; omega⟩
      unfold c__law_some
      simp only [dPs, dP]
      clear h1 h2
      walk_at "ev*"
    · rw [if_neg h2]
      have h2' : ¬ (((mixM c 1 8 : Nat) : Int) < 2 ∨ ((4 : Int) < (mixM c 1 8 : Nat) ∧ ¬ (kind = [116, 101, 120, 116] ∨ kind = [100, 111, 110, 101]))) := by
        rintro (z | ⟨z1, z2⟩)
        · exact h2 (.inl (by omega))
        · exact h2 (.inr (.inr ⟨by omega, fun z => z2 (.inl z), fun z => z2 (.inr z)⟩))
      clear h2
      have h7 : ¬ ((mixM c 1 8 : Nat) : Int) < 2 := fun z => h2' (.inl z)
      by_cases h3 : 4 < mixM c 1 8
      · rw [if_pos h3]
        have h3' : (4 : Int) < (mixM c 1 8 : Nat) := by omega
        obtain ⟨due, q, g1, g2⟩ := hC c kind
        refine ⟨due, ?_, g1, g2⟩
        unfold c__law_some
        clear h1
        have h8 : ¬ ¬ (kind = [116, 101, 120, 116] ∨ kind = [100, 111, 110, 101]) := fun z => h2' (.inr ⟨h3', z⟩)
        walk_at "ev*"
      · rw [if_neg h3]
        have h3' : ¬ (4 : Int) < (mixM c 1 8 : Nat) := by omega
        obtain ⟨due, q, g1, g2⟩ := h (partM c 6) kind
        by_cases h4 : mixM c 1 8 = 2
        · rw [if_pos h4]
          have h4' : ((mixM c 1 8 : Nat) : Int) = 2 := by omega
          refine ⟨due, ?_, by omega, by simp only [szPs, szP]; omega⟩
          unfold c__law_some
          simp only [dPs, dP]
          clear h1 h4
          walk_at "ev*"
        · rw [if_neg h4]
          have h4' : ¬ ((mixM c 1 8 : Nat) : Int) = 2 := by omega
          by_cases h5 : mixM c 1 8 = 3
          · rw [if_pos h5]
            have h5' : ((mixM c 1 8 : Nat) : Int) = 3 := by omega
            obtain ⟨due2, g, g3, g4⟩ := h (partM c 7) kind
            refine ⟨due ++ due2, ?_, by rw [List.length_append]; omega, by simp only [szPs, szP]; omega⟩
            unfold c__law_some
            simp only [dPs, dP]
            clear h1 h5
            walk_at "ev*"
          · rw [if_neg h5]
            have h5' : ¬ ((mixM c 1 8 : Nat) : Int) = 3 := by omega
            refine ⟨due, ?_, by omega, by simp only [szPs, szP]; omega⟩
            unfold c__law_some
            simp only [dPs, dP]
            clear h1
            by_cases h6 : wordM c = [100, 114, 97, 119]
            · rw [if_pos h6]
              walk_at "ev*"
            · rw [if_neg h6]
              walk_at "ev*"
theorem f_good {M : Fn} {d : Nat} (h : SomeK M d) (hd : gL d ≤ 1000000) : GoodK (fnD [] 4 9 (c__law_good M)) d := by
  intro c kind
  have q1 := f_mix (c := c) (k := 5) (m := 4) (by decide) (by decide) (by decide)
  have hm := mix_lt (c := c) (k := 5) (m := 4) (by decide)
  have hsB := sB_le d
  rw [goodM_acc]
  unfold c__law_good
  unfold Mk
  walk_at "ev*"
  generalize hL : forLoop _ _ _ _ = L
  obtain ⟨s', rfl, o6, o8, due, rfl, h1, h2⟩ : ∃ s', L = .nx s' ∧ ∃ (o6 o8 : Option O) (due : List D), s' = [some (O.fr (D.int c)), some (O.fr (D.str kind)), some (O.fr (D.int d)), some (O.fr (D.ls [])), some (O.fl (dPs (accM d c kind (mixM c 5 4)))), some (O.fl due), o6, none, o8] ∧ due.length ≤ mixM c 5 4 * sBd d ∧ szPs (accM d c kind (mixM c 5 4)) ≤ mixM c 5 4 * sBd d := by
    rw [← hL]
    refine for_rng (fun k s' => ∃ (o6 o8 : Option O) (due : List D), s' = [some (O.fr (D.int c)), some (O.fr (D.str kind)), some (O.fr (D.int d)), some (O.fr (D.ls [])), some (O.fl (dPs (accM d c kind k))), some (O.fl due), o6, none, o8] ∧ due.length ≤ k * sBd d ∧ szPs (accM d c kind k) ≤ k * sBd d) ⟨none, none, [], by simp only [accM, List.range_zero, List.map_nil, List.flatten_nil, dPs], by simp, by simp [accM, szPs]⟩ ?_
    rintro k s hk ⟨o6, o8, due, rfl, h1, h2⟩
    have q2 := f_part (c := c) (k := k) (by omega) (by omega)
    obtain ⟨due2, q3, g1, g2⟩ := h (partM c k) kind
    have g3 := dPs_le (accM d c kind k)
    have g4 := dPs_le (someM d (partM c k) kind)
    have g5 : k * sBd d ≤ 3 * sBd d := Nat.mul_le_mul_right _ (by omega)
    rw [accM_succ, dPs_app, szPs_app]
    refine ⟨_, ?_, some (O.fr (.int k)), some (.fr (.tp [.ls (dPs (someM d (partM c k) kind)), .ls due2])), due ++ due2, rfl, by rw [List.length_append, Nat.succ_mul]; omega, by rw [Nat.succ_mul]; omega⟩
    walk_at "ev*"
  have g5 : mixM c 5 4 * sBd d ≤ 3 * sBd d := Nat.mul_le_mul_right _ (by omega)
  refine ⟨due, ?_, by omega, by omega⟩
  walk_at "ev*"
theorem goods : ∀ d, d ≤ 3 → ∀ n, 4 * d + 2 ≤ n → GoodK (F__law_good n) d ∧ gL d ≤ 1000000
  | 0, _, n, hn => by
    obtain ⟨m, rfl⟩ : ∃ m, n = m + 2 := ⟨n - 2, by omega⟩
    refine ⟨?_, by decide⟩
    simp only [F__law_good]
    exact f_good (by simp only [F__law_some]; exact f_some0) (by decide)
  | d + 1, hd, n, hn => by
    obtain ⟨m, rfl⟩ : ∃ m, n = m + 6 := ⟨n - 6, by omega⟩
    have hg : gL d ≤ 1000000 := (goods d (by omega) (4 * d + 2) (Nat.le_refl _)).2
    have hg' : gL (d + 1) ≤ 1000000 := by
      have : d = 0 ∨ d = 1 ∨ d = 2 := by omega
      rcases this with rfl | rfl | rfl <;> decide
    refine ⟨?_, hg'⟩
    rw [F__law_good]
    refine f_good ?_ hg'
    rw [F__law_some]
    refine f_some ?_ (goods d (by omega) _ (by omega)).1 hg
    rw [F__law_compound]
    refine f_compound ?_ (goods d (by omega) _ (by omega)).1 hg
    rw [F__law_within]
    exact f_within (goods d (by omega) _ (by omega)).1 hg
theorem good3 : GoodK (F__law_good 20) 3 := (goods 3 (by decide) 20 (by decide)).1
theorem f_made {c : Int} : Mk F__law_made [.fr (.int c), .fr (.ls [])] (goodM 3 c kText) (gL 3) := by
  obtain ⟨due, q, h1, h2⟩ := good3 c kText
  have hT : kText = [116, 101, 120, 116] := rfl
  have e3 : ((3 : Nat) : Int) = 3 := rfl
  rw [hT] at q ⊢
  simp only [a4, e3] at q
  refine ⟨due, ?_, h1, h2⟩
  unfold F__law_made c__law_made
  walk_at "ev*"

theorem at_map {ns : List Int} {k : Int} (h0 : 0 ≤ k) (h : k < ns.length) : atI (ns.map D.int) k = some (.int (ns.getD k.toNat 0)) := by
  have := atI_nat (xs := ns.map D.int) (n := k.toNat) (z := .int 0) (by simp; omega)
  rw [Int.toNat_of_nonneg h0] at this
  rw [this, List.getD_eq_getElem?_getD, List.getD_eq_getElem?_getD, List.getElem?_map]
  cases ns[k.toNat]? <;> rfl
noncomputable abbrev T60 : Int := 1000000000000000000000000000000000000000000000000000000000000
noncomputable abbrev T120 : Int := 1000000000000000000000000000000000000000000000000000000000000000000000000000000000000000000000000000000000000000000000000
theorem mul60 : IntMulOk T60 T60 := by decide +kernel
theorem mul120 : IntMulOk T120 T60 := by decide +kernel
theorem f_cell {ns : List Int} {k : Int} (h0 : 0 ≤ k) (h1 : k ≤ 100) : ∃ c, F__law_cell [.fr (.kl (ns.map .int)), .fr (.int k)] = .ok (.fr (.int c)) [.fr (.kl (ns.map .int)), .fr (.int k)] := by
  have m1 := mul60
  have m2 := mul120
  unfold F__law_cell c__law_cell
  by_cases hk : k < ns.length
  · have q := at_map (ns := ns) h0 hk
    have hk' : k < ((ns.map D.int).length : Nat) := by rw [List.length_map]; exact hk
    walk_at "ev*"
    exact ⟨_, rfl⟩
  · have hk' : ¬ k < ((ns.map D.int).length : Nat) := by rw [List.length_map]; exact hk
    by_cases hl : (0 : Int) < ns.length
    · have hl' : (0 : Int) < ((ns.map D.int).length : Nat) := by rw [List.length_map]; exact hl
      have q := at_map (ns := ns) (k := k * 7 % (ns.length : Nat)) (Int.emod_nonneg _ (by omega)) (Int.emod_lt_of_pos _ hl)
      have e : ((ns.map D.int).length : Nat) = ns.length := List.length_map _
      walk_at "ev*"
      exact ⟨_, rfl⟩
    · have hl' : ¬ (0 : Int) < ((ns.map D.int).length : Nat) := by rw [List.length_map]; exact hl
      walk_at "ev*"
      exact ⟨_, rfl⟩

noncomputable def dI : It → D
  | .p x => dP x
  | .o => dOut
theorem dI_its : ∀ ps : List Pc, (its ps).map dI = dPs ps
  | [] => by simp only [its, List.map_nil, dPs]
  | p :: ps => by simp only [its, List.map_cons, dI, dPs, dI_its ps]
theorem szS_len : ∀ st : List It, st.length ≤ szS st
  | [] => Nat.le_refl _
  | .o :: st => by have := szS_len st; simp only [List.length_cons, szS, szI]; omega
  | .p x :: st => by have := szS_len st; have := szP_pos x; simp only [List.length_cons, szS, szI]; omega
theorem f_branches {x : Pc} {n : Tx} (hx : (∃ b, x = .each n b) ∨ ∃ a b, x = .ife n a b) : F_branches_of [.fr (dP x)] = .ok (.fr (.tp [.ls (dPs (brs x 0)), .ls (dPs (brs x 1))])) [.fr (dP x)] := by
  unfold F_branches_of c_branches_of
  rcases hx with ⟨b, rfl⟩ | ⟨a, b, rfl⟩
  · simp only [dP, brs, dPs]
    walk_at "ev*"
  · simp only [dP, brs]
    walk_at "ev*"

noncomputable def wI (ps : List Pc) (T : List Nat) (n : Nat) (m : Nat) (s : Sl) : Prop := ∃ (st : List It) (T' : List Nat) (th : List D) (o5 : Option O), m = szS st ∧ m < 100000 ∧ s = [some (.fr (.ls (dPs ps))), some (.fr (.tp [.ls (T.map fun (t : Nat) => D.int t), .int n])), some (.fl th), some (.fl (st.map dI).reverse), some (.fl (T'.map fun (t : Nat) => D.int t).reverse), o5] ∧ th ++ out st T' = out (its ps) T ∧ th.length ≤ n ∧ T'.length ≤ 100000 ∧ ∀ t ∈ T', t < 2
noncomputable def wZ (ps : List Pc) (T : List Nat) (n : Nat) (s : Sl) : Prop := ∃ (o3 o4 o5 : Option O), s = [some (.fr (.ls (dPs ps))), some (.fr (.tp [.ls (T.map fun (t : Nat) => D.int t), .int n])), some (.fl ((out (its ps) T).take n)), o3, o4, o5]
theorem at01 {t : Nat} {a b : D} (h : t < 2) : atI [a, b] (t : Nat) = some (if t = 0 then a else b) := by
  have : t = 0 ∨ t = 1 := by omega
  rcases this with rfl | rfl <;> rfl
theorem brs01 (x : Pc) {t : Nat} (h : t < 2) : (if t = 0 then D.ls (dPs (brs x 0)) else D.ls (dPs (brs x 1))) = .ls (dPs (brs x t)) := by
  have : t = 0 ∨ t = 1 := by omega
  rcases this with rfl | rfl <;> rfl
theorem f_walked {ps : List Pc} {T : List Nat} {n : Nat} (hT : ∀ t ∈ T, t < 2) (hl : T.length ≤ 100000) (hs : szPs ps < 100000) (hn : n ≤ 100000) :
    F_walked [.fr (.ls (dPs ps)), .fr (.tp [.ls (T.map fun (t : Nat) => D.int t), .int n])] = .ok (.fl ((out (its ps) T).take n)) [.fr (.ls (dPs ps)), .fr (.tp [.ls (T.map fun (t : Nat) => D.int t), .int n])] := by
  unfold F_walked c_walked
  walk_at "ev*"
  generalize hL : whLoop _ _ _ _ = L
  obtain ⟨s', rfl, o3, o4, o5, rfl⟩ : ∃ s', L = .nx s' ∧ wZ ps T n s' := by
    rw [← hL]
    refine wh_pure (wI ps T n) (wZ ps T n) ?_ 100000 (szS (its ps)) _ (by rw [szS_map]; exact hs) ⟨its ps, T, [], none, rfl, by rw [szS_map]; exact hs, by rw [dI_its], rfl, Nat.zero_le _, hl, hT⟩
    rintro m s ⟨st, T', th, o5, rfl, hm, rfl, he, hle, hT'l, hT'⟩
    clear hL
    have hfin : out st T' = [] ∨ th.length = n → th = (out (its ps) T).take n := fun h => by
      rw [← he]
      rcases h with h | h
      · rw [h, List.append_nil, List.take_of_length_le hle]
      · rw [← h, List.take_left]
    cases st with
    | nil =>
      refine .inl ⟨?_, _, _, _, by rw [← hfin (.inl (by simp only [out]))]⟩
      walk_at "ev*"
    | cons i st' =>
      by_cases hlt : th.length = n
      · have hlt' : ¬ ((th.length : Nat) : Int) < (n : Nat) := by omega
        refine .inl ⟨?_, _, _, _, by rw [← hfin (.inr hlt)]⟩
        clear hlt hle
        walk_at "ev*"
      · have hlt' : ((th.length : Nat) : Int) < (n : Nat) := by omega
        have hlt2 : th.length < n := by omega
        have hln := szS_len st'
        refine .inr ⟨by walk_at "ev*", ?_⟩
        cases i with
        | o =>
          refine .inl ?_
          simp only [dI, dOut, List.map_cons]
          walk_at "ev*"
          exact ⟨_, rfl, szS st', by simp only [szS, szI]; omega, st', T', _, _, rfl, by simp only [szS, szI] at hm; omega, rfl, by rw [← he, List.append_assoc]; simp only [out, dOut, List.cons_append, List.nil_append], by rw [List.length_append]; simp only [List.length_cons, List.length_nil]; omega, hT'l, hT'⟩
        | p x =>
          cases x with
          | lit t =>
            refine .inl ?_
            simp only [dI, dP, List.map_cons]
            walk_at "ev*"
            exact ⟨_, rfl, szS st', by simp only [szS, szI, szP]; omega, st', T', _, _, rfl, by simp only [szS, szI, szP] at hm; omega, rfl, by rw [← he, List.append_assoc]; simp only [out, dP, List.cons_append, List.nil_append], by rw [List.length_append]; simp only [List.length_cons, List.length_nil]; omega, hT'l, hT'⟩
          | hole t =>
            refine .inl ?_
            simp only [dI, dP, List.map_cons]
            walk_at "ev*"
            exact ⟨_, rfl, szS st', by simp only [szS, szI, szP]; omega, st', T', _, _, rfl, by simp only [szS, szI, szP] at hm; omega, rfl, by rw [← he, List.append_assoc]; simp only [out, dP, List.cons_append, List.nil_append], by rw [List.length_append]; simp only [List.length_cons, List.length_nil]; omega, hT'l, hT'⟩
          | seat w' n' m' b =>
            refine .inl ?_
            simp only [szS, szI, szP] at hm
            have hb := dPs_le b
            have l1 : (st'.map dI).reverse.length < 16777216 := by rw [List.length_reverse, List.length_map]; omega
            have l2 : ((st'.map dI).reverse ++ [D.tp [D.str [111, 117, 116]]]).length + (dPs b).reverse.length ≤ 16777216 := by rw [List.length_append, List.length_reverse, List.length_reverse, List.length_map]; simp only [List.length_cons, List.length_nil]; omega
            simp only [dI, dP, List.map_cons]
            walk_at "ev*"
            exact ⟨_, rfl, szS (its b ++ .o :: st'), by simp only [szS, szI, szP, szS_app, szS_map]; omega, its b ++ .o :: st', T', _, _, rfl, by simp only [szS, szI, szP, szS_app, szS_map]; omega, by simp only [List.map_append, List.map_cons, dI_its, dI, dOut, List.reverse_append, List.reverse_cons, List.append_assoc]; rfl, by rw [← he, List.append_assoc]; simp only [out, dInto, List.cons_append, List.nil_append], by rw [List.length_append]; simp only [List.length_cons, List.length_nil]; omega, hT'l, hT'⟩
          | each n' b =>
            cases T' with
            | nil =>
              refine .inr ?_
              simp only [dI, dP, List.map_cons]
              walk_at "ev*"
              exact ⟨_, rfl, _, _, _, by rw [← hfin (.inl (by simp only [out]))]⟩
            | cons t T2 =>
              refine .inl ?_
              simp only [szS, szI, szP] at hm
              have hb := dPs_le (brs (.each n' b) t)
              have hb2 := brs_each n' b t
              have ht := hT' t List.mem_cons_self
              have q := f_branches (x := .each n' b) (n := n') (.inl ⟨b, rfl⟩)
              have q2 := at01 (a := D.ls (dPs (brs (.each n' b) 0))) (b := D.ls (dPs (brs (.each n' b) 1))) ht
              rw [brs01 _ ht] at q2
              simp only [dP] at q
              have l2 : (st'.map dI).reverse.length + (dPs (brs (.each n' b) t)).reverse.length ≤ 16777216 := by rw [List.length_reverse, List.length_reverse, List.length_map]; omega
              simp only [dI, dP, List.map_cons]
              walk_at "ev*"
              exact ⟨_, rfl, szS (its (brs (.each n' b) t) ++ st'), by simp only [szS, szI, szP, szS_app, szS_map]; omega, its (brs (.each n' b) t) ++ st', T2, _, _, rfl, by simp only [szS, szI, szP, szS_app, szS_map]; omega, by simp only [List.map_append, dI_its, List.reverse_append]; rfl, by rw [← he]; simp only [out], hle, by simp only [List.length_cons] at hT'l; omega, fun u hu => hT' u (List.mem_cons_of_mem _ hu)⟩
          | ife n' a b =>
            cases T' with
            | nil =>
              refine .inr ?_
              simp only [dI, dP, List.map_cons]
              walk_at "ev*"
              exact ⟨_, rfl, _, _, _, by rw [← hfin (.inl (by simp only [out]))]⟩
            | cons t T2 =>
              refine .inl ?_
              simp only [szS, szI, szP] at hm
              have hb := dPs_le (brs (.ife n' a b) t)
              have hb2 := brs_ife n' a b t
              have ht := hT' t List.mem_cons_self
              have q := f_branches (x := .ife n' a b) (n := n') (.inr ⟨a, b, rfl⟩)
              have q2 := at01 (a := D.ls (dPs (brs (.ife n' a b) 0))) (b := D.ls (dPs (brs (.ife n' a b) 1))) ht
              rw [brs01 _ ht] at q2
              simp only [dP] at q
              have l2 : (st'.map dI).reverse.length + (dPs (brs (.ife n' a b) t)).reverse.length ≤ 16777216 := by rw [List.length_reverse, List.length_reverse, List.length_map]; omega
              simp only [dI, dP, List.map_cons]
              walk_at "ev*"
              exact ⟨_, rfl, szS (its (brs (.ife n' a b) t) ++ st'), by simp only [szS, szI, szP, szS_app, szS_map]; omega, its (brs (.ife n' a b) t) ++ st', T2, _, _, rfl, by simp only [szS, szI, szP, szS_app, szS_map]; omega, by simp only [List.map_append, dI_its, List.reverse_append]; rfl, by rw [← he]; simp only [out], hle, by simp only [List.length_cons] at hT'l; omega, fun u hu => hT' u (List.mem_cons_of_mem _ hu)⟩
  walk_at "ev*"

noncomputable def dT (T : List Nat) : List D := T.map fun (t : Nat) => D.int t
theorem dT_app (a b : List Nat) : dT (a ++ b) = dT a ++ dT b := List.map_append
theorem dT_one (t : Nat) : dT [t] = [D.int t] := rfl
theorem dT_nil : dT [] = [] := rfl
theorem dT_len (a : List Nat) : (dT a).length = a.length := List.length_map _
noncomputable def wO (w : Way) : O := .ol [.fl (dT w.T), .fl w.A, .fl (dT w.C)]
theorem then_assoc (a b c : Way) : (a.then b).then c = a.then (b.then c) := by
  simp only [Way.then, List.append_assoc, List.map_append, List.map_map, List.length_append, Way.mk.injEq, true_and]
  congr 2
  apply List.map_congr_left
  intro x _
  simp only [Function.comp]
  omega
theorem then_nil (a : Way) : a.then ⟨[], [], []⟩ = a := by simp only [Way.then, List.append_nil, List.map_nil]
theorem nil_then (a : Way) : Way.then ⟨[], [], []⟩ a = a := by simp [Way.then]
theorem goes_app {a b : List Pc} {x y : Way} (h : Goes a x) (k : Goes b y) : Goes (a ++ b) (x.then y) := by
  induction h with
  | nil => rw [nil_then]; exact k
  | lit _ ih => rw [then_assoc]; exact .lit ih
  | hole _ ih => rw [then_assoc]; exact .hole ih
  | seat h1 _ _ ih => rw [then_assoc, then_assoc, then_assoc]; exact .seat h1 ih
  | each ht h1 _ _ ih => rw [then_assoc, then_assoc]; exact .each ht h1 ih
  | ife ht h1 _ _ ih => rw [then_assoc, then_assoc]; exact .ife ht h1 ih
mutual
noncomputable def dpP : Pc → Nat
  | .lit _ => 0
  | .hole _ => 0
  | .each _ b => 1 + dpPs b
  | .ife _ a b => 1 + max (dpPs a) (dpPs b)
  | .seat _ _ _ b => 1 + dpPs b
noncomputable def dpPs : List Pc → Nat
  | [] => 0
  | p :: ps => max (dpP p) (dpPs ps)
end
theorem dpPs_app : ∀ a b : List Pc, dpPs (a ++ b) = max (dpPs a) (dpPs b)
  | [], _ => by simp only [dpPs, List.nil_append]; omega
  | p :: a, b => by simp only [List.cons_append, dpPs, dpPs_app a b]; omega
theorem dp_at : ∀ {ps : List Pc} {k : Nat} {p : Pc}, ps[k]? = some p → dpP p ≤ dpPs ps ∧ szPs (ps.take k) + szP p ≤ szPs ps ∧ ps.take (k + 1) = ps.take k ++ [p]
  | [], k, p, h => by simp at h
  | q :: ps, 0, p, h => by
    cases h
    simp only [dpPs, szPs, List.take_zero, List.take_succ_cons, List.nil_append]
    exact ⟨by omega, by omega, trivial⟩
  | q :: ps, k + 1, p, h => by
    have := dp_at (ps := ps) (k := k) (p := p) (by simpa using h)
    simp only [dpPs, szPs, List.take_succ_cons, List.cons_append]
    exact ⟨by omega, by omega, by rw [this.2.2]⟩
theorem dPs_at : ∀ {ps : List Pc} {k : Nat}, k < (dPs ps).length → ∃ p, ps[k]? = some p ∧ (dPs ps)[k]? = some (dP p)
  | [], k, h => by simp [dPs] at h
  | q :: ps, 0, h => ⟨q, rfl, by simp only [dPs]; rfl⟩
  | q :: ps, k + 1, h => by
    obtain ⟨p, h1, h2⟩ := dPs_at (ps := ps) (k := k) (by simp only [dPs, List.length_cons] at h; omega)
    exact ⟨p, by simpa using h1, by simp only [dPs, List.getElem?_cons_succ]; exact h2⟩
theorem dPs_len : ∀ ps : List Pc, (dPs ps).length = ps.length
  | [] => by simp only [dPs, List.length_nil]
  | _ :: ps => by simp only [dPs, List.length_cons, dPs_len ps]

noncomputable def GoK (F : Fn) (n : Nat) : Prop := ∀ (ps : List Pc) (c : Int) (w : Way), dpPs ps < n → w.T.length + szPs ps ≤ 100000 → w.A.length + szPs ps ≤ 100000 → w.C.length = w.T.length → ∃ x : Way, Goes ps x ∧ x.A.length ≤ szPs ps ∧ x.T.length ≤ szPs ps ∧ F [.fr (.ls (dPs ps)), .fr (.int c), wO w] = .ok (.fr .non) [.fr (.ls (dPs ps)), .fr (.int c), wO (w.then x)]
theorem brs_dp2 (n : Tx) (a b : List Pc) (t : Nat) : dpPs (brs (.ife n a b) t) ≤ max (dpPs a) (dpPs b) := by cases t <;> simp only [brs] <;> omega
theorem mix2 (c : Int) : mixM c 6 2 < 2 := by
  have := mix_lt (c := c) (k := 6) (m := 2) (by decide)
  omega
noncomputable def gI (ps : List Pc) (c : Int) (w : Way) (k : Nat) (s : Sl) : Prop := ∃ (x : Way) (o3 o4 o5 o6 : Option O), Goes (ps.take k) x ∧ x.A.length ≤ szPs (ps.take k) ∧ x.T.length ≤ szPs (ps.take k) ∧ s = [some (.fr (.ls (dPs ps))), some (.fr (.int c)), some (wO (w.then x)), o3, o4, o5, o6]
theorem wA (w : Way) (d : D) : wO (w.then ⟨[], [d], []⟩) = .ol [.fl (dT w.T), .fl (w.A ++ [d]), .fl (dT w.C)] := by simp only [wO, Way.then, List.append_nil, List.map_nil]
theorem wT (w : Way) (t : Nat) : wO (w.then ⟨[t], [], [0]⟩) = .ol [.fl (dT w.T ++ [.int t]), .fl w.A, .fl (dT w.C ++ [.int w.A.length])] := by simp only [wO, Way.then, List.append_nil, List.map_nil, List.map_cons, dT_app, dT_one, Nat.zero_add]
theorem lenT (x y : Way) : (x.then y).T.length = x.T.length + y.T.length := List.length_append
theorem lenA (x y : Way) : (x.then y).A.length = x.A.length + y.A.length := List.length_append
theorem lenC (x y : Way) : (x.then y).C.length = x.C.length + y.C.length := by simp only [Way.then, List.length_append, List.length_map]
theorem gI_in {ps : List Pc} {c : Int} {w : Way} {k : Nat} {W : O} {o3 o4 o5 o6 : Option O} (x : Way) (g : Goes (ps.take k) x) (h1 : x.A.length ≤ szPs (ps.take k)) (h2 : x.T.length ≤ szPs (ps.take k)) (e : W = wO (w.then x)) : gI ps c w k [some (.fr (.ls (dPs ps))), some (.fr (.int c)), some W, o3, o4, o5, o6] := ⟨x, o3, o4, o5, o6, g, h1, h2, by rw [e]⟩
theorem f_go {F : Fn} {n : Nat} (IH : GoK F n) : GoK (fnD [false, false, true] 3 7 (c__law_go F)) (n + 1) := by
  intro ps c w hd hT hA hC
  have hsz := dPs_le ps
  unfold c__law_go wO
  walk_at "ev*"
  generalize hL : forLoop _ _ _ _ = L
  obtain ⟨s', rfl, x, o3, o4, o5, o6, g1, g2, g3, rfl⟩ : ∃ s', L = .nx s' ∧ gI ps c w (dPs ps).length s' := by
    rw [← hL]
    refine for_rng (gI ps c w) ⟨⟨[], [], []⟩, none, none, none, none, .nil, Nat.zero_le _, Nat.zero_le _, by rw [then_nil, wO]⟩ ?_
    rintro k s hk ⟨x, o3, o4, o5, o6, g1, g2, g3, rfl⟩
    clear hL
    obtain ⟨p, hp, hq⟩ := dPs_at hk
    obtain ⟨d1, d2, d3⟩ := dp_at hp
    have qa := atI_lit hq
    have q1 := f_mix (c := c) (k := 20 + (k : Int) % 9) (m := 999999999989) (by omega) (by omega) (by decide)
    have glen := (goes_sem g1).len
    have esz : szPs [p] = szP p := by simp only [szPs]; omega
    have hl1 := lenT w x
    have hl2 := lenA w x
    have hl3 := lenC w x
    generalize hy : w.then x = y at hl1 hl2 hl3 ⊢
    have t1 := dT_len y.T
    have t2 := dT_len y.C
    cases p with
    | lit t =>
      simp only [dP, szP] at qa d2 esz
      simp only [wO]
      replace hl1 := Nat.le_of_eq hl1
      replace hl2 := Nat.le_of_eq hl2
      replace hl3 := Nat.le_of_eq hl3
      walk_at "ev*"
      refine ⟨_, rfl, x.then ⟨[], [dP (.lit t)], []⟩, _, _, _, _, by rw [d3]; exact goes_app g1 (.lit .nil), by rw [d3, szPs_app, lenA, esz]; exact Nat.add_le_add_right g2 _, by rw [d3, szPs_app, lenT, esz]; exact Nat.add_le_add g3 (Nat.zero_le _), by rw [← then_assoc, hy, wA, dP]⟩
    | hole t =>
      simp only [dP, szP] at qa d2 esz
      simp only [wO]
      replace hl1 := Nat.le_of_eq hl1
      replace hl2 := Nat.le_of_eq hl2
      replace hl3 := Nat.le_of_eq hl3
      walk_at "ev*"
      refine ⟨_, rfl, x.then ⟨[], [dP (.hole t)], []⟩, _, _, _, _, by rw [d3]; exact goes_app g1 (.hole .nil), by rw [d3, szPs_app, lenA, esz]; exact Nat.add_le_add_right g2 _, by rw [d3, szPs_app, lenT, esz]; exact Nat.add_le_add g3 (Nat.zero_le _), by rw [← then_assoc, hy, wA, dP]⟩
    | seat w' n' m' b =>
      simp only [dP, szP, dpP] at qa d2 esz d1
      have z1 := lenT y ⟨[], [dInto w' n' m'], []⟩
      have z2 := lenA y ⟨[], [dInto w' n' m'], []⟩
      have z3 := lenC y ⟨[], [dInto w' n' m'], []⟩
      simp only [List.length_cons, List.length_nil] at z1 z2 z3
      obtain ⟨x2, i1, i2, i3, i4⟩ := IH b ((mixM c (20 + (k : Int) % 9) 999999999989 : Nat) + (k : Int)) (y.then ⟨[], [dInto w' n' m'], []⟩) (by omega) (by omega) (by omega) (by omega)
      have hv1 := lenA (y.then ⟨[], [dInto w' n' m'], []⟩) x2
      generalize hv : (y.then ⟨[], [dInto w' n' m'], []⟩).then x2 = v at i4 hv1
      rw [wA] at i4
      simp only [wO, dInto] at i4 ⊢
      replace hl1 := Nat.le_of_eq hl1
      replace hl2 := Nat.le_of_eq hl2
      replace hl3 := Nat.le_of_eq hl3
      walk_at "ev*"
      refine ⟨_, rfl, gI_in (x.then (Way.then ⟨[], [dInto w' n' m'], []⟩ (x2.then (Way.then ⟨[], [dOut], []⟩ ⟨[], [], []⟩)))) (by rw [d3]; exact goes_app g1 (.seat i1 .nil)) ?_ ?_ ?_⟩
      · rw [d3, szPs_app, lenA, lenA, lenA, lenA, esz]; simp only [List.length_cons, List.length_nil]; omega
      · rw [d3, szPs_app, lenT, lenT, lenT, lenT, esz]; simp only [List.length_cons, List.length_nil]; omega
      · rw [then_nil, ← then_assoc, hy, ← then_assoc, ← then_assoc, hv, wA, dOut]
    | each n' b =>
      simp only [dP, szP, dpP] at qa d2 esz d1
      obtain ⟨num, hnum⟩ : ∃ num : Int, ((mixM c (20 + (k : Int) % 9) 999999999989 : Nat) + (k : Int)) = num := ⟨_, rfl⟩
      have q2 := f_mix (c := num) (k := 6) (m := 2) (by decide) (by decide) (by decide)
      obtain ⟨t, ht⟩ : ∃ t : Nat, mixM num 6 2 = t := ⟨_, rfl⟩
      have ht2 := mix2 num
      rw [ht] at q2 ht2
      have : t = 0 ∨ t = 1 := by omega
      rcases this with rfl | rfl
      · have e0 : ((0 : Nat) : Int) = 0 := rfl
        have i1 : Goes (brs (.each n' b) 0) ⟨[], [], []⟩ := .nil
        simp only [wO]
        replace hl1 := Nat.le_of_eq hl1
        replace hl2 := Nat.le_of_eq hl2
        replace hl3 := Nat.le_of_eq hl3
        walk_at "ev*"
        refine ⟨_, rfl, gI_in (x.then (Way.then ⟨[0], [], [0]⟩ (Way.then ⟨[], [], []⟩ ⟨[], [], []⟩))) (by rw [d3]; exact goes_app g1 (.each (by decide) i1 .nil)) ?_ ?_ ?_⟩
        · rw [d3, szPs_app, lenA, lenA, lenA, esz]; simp only [List.length_cons, List.length_nil]; omega
        · rw [d3, szPs_app, lenT, lenT, lenT, esz]; simp only [List.length_cons, List.length_nil]; omega
        · rw [then_nil, then_nil, ← then_assoc, hy, wT]; rfl
      · have z1 := lenT y ⟨[1], [], [0]⟩
        have z2 := lenA y ⟨[1], [], [0]⟩
        have z3 := lenC y ⟨[1], [], [0]⟩
        simp only [List.length_cons, List.length_nil] at z1 z2 z3
        obtain ⟨x2, i1, i2, i3, i4⟩ := IH b num (y.then ⟨[1], [], [0]⟩) (by omega) (by omega) (by omega) (by omega)
        generalize hv : (y.then ⟨[1], [], [0]⟩).then x2 = v at i4
        have e1 : ((1 : Nat) : Int) = 1 := rfl
        rw [wT, e1] at i4
        have i1' : Goes (brs (.each n' b) 1) x2 := i1
        simp only [wO] at i4 ⊢
        replace hl1 := Nat.le_of_eq hl1
        replace hl2 := Nat.le_of_eq hl2
        replace hl3 := Nat.le_of_eq hl3
        walk_at "ev*"
        refine ⟨_, rfl, gI_in (x.then (Way.then ⟨[1], [], [0]⟩ (Way.then x2 ⟨[], [], []⟩))) (by rw [d3]; exact goes_app g1 (.each (by decide) i1' .nil)) ?_ ?_ ?_⟩
        · rw [d3, szPs_app, lenA, lenA, lenA, esz]; simp only [List.length_cons, List.length_nil]; omega
        · rw [d3, szPs_app, lenT, lenT, lenT, esz]; simp only [List.length_cons, List.length_nil]; omega
        · rw [then_nil, ← then_assoc, hy, ← then_assoc, hv, wO]
    | ife n' a b =>
      simp only [dP, szP, dpP] at qa d2 esz d1
      obtain ⟨num, hnum⟩ : ∃ num : Int, ((mixM c (20 + (k : Int) % 9) 999999999989 : Nat) + (k : Int)) = num := ⟨_, rfl⟩
      have q2 := f_mix (c := num) (k := 6) (m := 2) (by decide) (by decide) (by decide)
      obtain ⟨t, ht⟩ : ∃ t : Nat, mixM num 6 2 = t := ⟨_, rfl⟩
      have ht2 := mix2 num
      rw [ht] at q2 ht2
      have z1 := lenT y ⟨[t], [], [0]⟩
      have z2 := lenA y ⟨[t], [], [0]⟩
      have z3 := lenC y ⟨[t], [], [0]⟩
      simp only [List.length_cons, List.length_nil] at z1 z2 z3
      have hb2 := brs_ife n' a b t
      have hb3 := brs_dp2 n' a b t
      obtain ⟨x2, i1, i2, i3, i4⟩ := IH (brs (.ife n' a b) t) num (y.then ⟨[t], [], [0]⟩) (by omega) (by omega) (by omega) (by omega)
      generalize hv : (y.then ⟨[t], [], [0]⟩).then x2 = v at i4
      have q3 : atI [D.str [105, 102], D.str n', D.ls (dPs a), D.ls (dPs b)] (2 + (t : Int)) = some (.ls (dPs (brs (.ife n' a b) t))) := by
        have : t = 0 ∨ t = 1 := by omega
        rcases this with rfl | rfl <;> rfl
      rw [wT] at i4
      simp only [wO] at i4 ⊢
      replace hl1 := Nat.le_of_eq hl1
      replace hl2 := Nat.le_of_eq hl2
      replace hl3 := Nat.le_of_eq hl3
      walk_at "ev*"
      refine ⟨_, rfl, gI_in (x.then (Way.then ⟨[t], [], [0]⟩ (Way.then x2 ⟨[], [], []⟩))) (by rw [d3]; exact goes_app g1 (.ife ht2 i1 .nil)) ?_ ?_ ?_⟩
      · rw [d3, szPs_app, lenA, lenA, lenA, esz]; simp only [List.length_cons, List.length_nil]; omega
      · rw [d3, szPs_app, lenT, lenT, lenT, esz]; simp only [List.length_cons, List.length_nil]; omega
      · rw [then_nil, ← then_assoc, hy, ← then_assoc, hv, wO]
  refine ⟨x, ?_, ?_, ?_, ?_⟩
  · rw [dPs_len, List.take_length] at g1; exact g1
  · rw [dPs_len, List.take_length] at g2; exact g2
  · rw [dPs_len, List.take_length] at g3; exact g3
  · clear hL
    simp only [wO]
    walk_at "ev*"
theorem gos : ∀ n, GoK (F__law_go n) n
  | 0 => fun ps c w hd => absurd hd (Nat.not_lt_zero _)
  | n + 1 => by rw [F__law_go]; exact f_go (gos n)

theorem f_is {xs : List D} (h : Dps xs 49) (ht : ∀ d ∈ xs, ∃ ds, d = .tp ds) : F__law_is [.fr (.ls xs), .fr (.ls xs)] = .ok (.fr (.bl true)) [.fr (.ls xs), .fr (.ls xs)] := by
  unfold F__law_is c__law_is
  walk_at "ev*"
  generalize hL : forLoop _ _ _ _ = L
  obtain ⟨s', rfl, o, rfl⟩ : ∃ s', L = .nx s' ∧ ∃ o : Option O, s' = [some (.fr (.ls xs)), some (.fr (.ls xs)), o] := by
    rw [← hL]
    refine for_seq (fun _ s' => ∃ o : Option O, s' = [some (.fr (.ls xs)), some (.fr (.ls xs)), o]) ⟨_, rfl⟩ ?_
    rintro k d s hd ⟨o, rfl⟩
    obtain ⟨ds, rfl⟩ := ht d (List.mem_of_getElem? hd)
    walk_at "ev*"
    exact ⟨_, rfl, _, rfl⟩
  walk_at "ev*"
mutual
theorem dp_P : ∀ x : Pc, Dp (dP x) (2 * dpP x + 2)
  | .lit t => by simp only [dP]; exact .tp (.cons .str (.cons .str .nil))
  | .hole t => by simp only [dP]; exact .tp (.cons .str (.cons .str .nil))
  | .each n b => by simp only [dP, dpP]; exact .le (.tp (.cons .str (.cons .str (.cons (.ls (dp_Ps b)) .nil)))) (by omega)
  | .ife n a b => by simp only [dP, dpP]; exact .le (.tp (.cons .str (.cons .str (.cons ((Dp.ls (dp_Ps a)).le (m := 2 * max (dpPs a) (dpPs b) + 3) (by omega)) (.cons ((Dp.ls (dp_Ps b)).le (by omega)) .nil))))) (by omega)
  | .seat w n m b => by simp only [dP, dpP]; exact .le (.tp (.cons .str (.cons .str (.cons .str (.cons .str (.cons (.ls (dp_Ps b)) .nil)))))) (by omega)
theorem dp_Ps : ∀ ps : List Pc, Dps (dPs ps) (2 * dpPs ps + 2)
  | [] => by simp only [dPs]; exact .nil
  | p :: ps => by simp only [dPs, dpPs]; exact .cons ((dp_P p).le (by omega)) ((dp_Ps ps).le (by omega))
end

theorem goes_things {ps : List Pc} {x : Way} (h : Goes ps x) : ∀ d ∈ x.A, (∃ ds, d = .tp ds) ∧ Dp d 2 := by
  have lf : ∀ {d : D} {P : Prop}, d = D.tp [D.str [111, 117, 116]] → (∃ ds, d = .tp ds) ∧ Dp d 2 := fun e => ⟨⟨_, e⟩, by rw [e]; exact .tp (.cons .str .nil)⟩
  induction h with
  | nil => intro d hd; cases hd
  | lit _ ih => intro d hd; rcases List.mem_append.mp hd with z | z; · cases List.mem_singleton.mp z; exact ⟨⟨_, by simp only [dP]; rfl⟩, by simp only [dP]; exact .tp (.cons .str (.cons .str .nil))⟩
                · exact ih d z
  | hole _ ih => intro d hd; rcases List.mem_append.mp hd with z | z; · cases List.mem_singleton.mp z; exact ⟨⟨_, by simp only [dP]; rfl⟩, by simp only [dP]; exact .tp (.cons .str (.cons .str .nil))⟩
                 · exact ih d z
  | seat _ _ i1 i2 =>
    intro d hd
    rcases List.mem_append.mp hd with z | z
    · cases List.mem_singleton.mp z; exact ⟨⟨_, rfl⟩, .tp (.cons .str (.cons .str (.cons .str (.cons .str .nil))))⟩
    · rcases List.mem_append.mp z with z | z
      · exact i1 d z
      · rcases List.mem_append.mp z with z | z
        · cases List.mem_singleton.mp z; exact ⟨⟨_, rfl⟩, .tp (.cons .str .nil)⟩
        · exact i2 d z
  | each _ _ _ i1 i2 =>
    intro d hd
    rcases List.mem_append.mp hd with z | z
    · cases z
    · rcases List.mem_append.mp z with z | z
      · exact i1 d z
      · exact i2 d z
  | ife _ _ _ i1 i2 =>
    intro d hd
    rcases List.mem_append.mp hd with z | z
    · cases z
    · rcases List.mem_append.mp z with z | z
      · exact i1 d z
      · exact i2 d z
theorem goes_lt {ps : List Pc} {x : Way} (h : Goes ps x) : ∀ t ∈ x.T, t < 2 := by
  induction h with
  | nil => intro t ht; cases ht
  | lit _ ih => intro t ht; exact ih t (by simpa [Way.then] using ht)
  | hole _ ih => intro t ht; exact ih t (by simpa [Way.then] using ht)
  | @seat _ _ _ _ _ x y _ _ i1 i2 =>
    intro t ht
    have : t ∈ x.T ∨ t ∈ y.T := by simpa [Way.then] using ht
    exact this.elim (i1 t) (i2 t)
  | @each _ _ _ u x y hh _ _ i1 i2 =>
    intro t ht
    have : t = u ∨ t ∈ x.T ∨ t ∈ y.T := by simpa [Way.then] using ht
    rcases this with z | z | z
    · rw [z]; exact hh
    · exact i1 t z
    · exact i2 t z
  | @ife _ _ _ _ u x y hh _ _ i1 i2 =>
    intro t ht
    have : t = u ∨ t ∈ x.T ∨ t ∈ y.T := by simpa [Way.then] using ht
    rcases this with z | z | z
    · rw [z]; exact hh
    · exact i1 t z
    · exact i2 t z
theorem dps_T (T : List Nat) : Dps (dT T) 49 := .all fun d hd => by
  obtain ⟨t, _, rfl⟩ := List.mem_map.mp hd
  exact .int

theorem f_right1 {ps : List Pc} {c : Int} (hd : dpPs ps < 20) (hs : szPs ps < 50000) : ∃ x, Goes ps x ∧ x.A.length ≤ szPs ps ∧ x.T.length ≤ szPs ps ∧ F__law_go 20 [.fr (.ls (dPs ps)), .fr (.int c), .ol [.fl [], .fl [], .fl []]] = .ok (.fr .non) [.fr (.ls (dPs ps)), .fr (.int c), .ol [.fl (dT x.T), .fl x.A, .fl (dT x.C)]] := by
  obtain ⟨x, g1, g2, g3, q⟩ := gos 20 ps c ⟨[], [], []⟩ hd (by simp only [List.length_nil]; omega) (by simp only [List.length_nil]; omega) rfl
  rw [nil_then] at q
  simp only [wO, dT_nil] at q
  exact ⟨x, g1, g2, g3, q⟩
theorem out_pre : ∀ (n : Nat) (st : List It) (T U : List Nat), szS st ≤ n → ∃ r, out st (T ++ U) = out st T ++ r
  | _, [], T, U, _ => ⟨[], by simp only [out, List.append_nil]⟩
  | 0, i :: st, T, U, h => by
    exfalso
    cases i with
    | o => simp only [szS, szI] at h; omega
    | p x => have := szP_pos x; simp only [szS, szI] at h; omega
  | n + 1, .o :: st, T, U, h => by
    simp only [szS, szI] at h
    obtain ⟨r, e⟩ := out_pre n st T U (by omega)
    exact ⟨r, by simp only [out, e, List.cons_append]⟩
  | n + 1, .p (.lit t) :: st, T, U, h => by
    simp only [szS, szI, szP] at h
    obtain ⟨r, e⟩ := out_pre n st T U (by omega)
    exact ⟨r, by simp only [out, e, List.cons_append]⟩
  | n + 1, .p (.hole t) :: st, T, U, h => by
    simp only [szS, szI, szP] at h
    obtain ⟨r, e⟩ := out_pre n st T U (by omega)
    exact ⟨r, by simp only [out, e, List.cons_append]⟩
  | n + 1, .p (.seat w n' m b) :: st, T, U, h => by
    simp only [szS, szI, szP] at h
    obtain ⟨r, e⟩ := out_pre n (its b ++ .o :: st) T U (by simp only [szS_app, szS_map, szS, szI]; omega)
    exact ⟨r, by simp only [out, e, List.cons_append]⟩
  | n + 1, .p (.each n' b) :: st, [], U, h => ⟨out (.p (.each n' b) :: st) U, by simp only [List.nil_append, out]⟩
  | n + 1, .p (.each n' b) :: st, t :: T, U, h => by
    simp only [szS, szI, szP] at h
    have := brs_each n' b t
    obtain ⟨r, e⟩ := out_pre n (its (brs (.each n' b) t) ++ st) T U (by simp only [szS_app, szS_map]; omega)
    exact ⟨r, by simp only [List.cons_append, out, e]⟩
  | n + 1, .p (.ife n' a b) :: st, [], U, h => ⟨out (.p (.ife n' a b) :: st) U, by simp only [List.nil_append, out]⟩
  | n + 1, .p (.ife n' a b) :: st, t :: T, U, h => by
    simp only [szS, szI, szP] at h
    have := brs_ife n' a b t
    obtain ⟨r, e⟩ := out_pre n (its (brs (.ife n' a b) t) ++ st) T U (by simp only [szS_app, szS_map]; omega)
    exact ⟨r, by simp only [List.cons_append, out, e]⟩
theorem goes_cut2 {ps : List Pc} {x : Way} (h : Goes ps x) {k c : Nat} (hc : x.C[k]? = some c) : (out (its ps) (x.T.take (k + 1))).take c = x.A.take c := by
  have e := goes_cut h hc
  obtain ⟨r, hr⟩ := out_pre _ (its ps) (x.T.take k) ((x.T.drop k).take 1) (Nat.le_refl _)
  have : x.T.take k ++ (x.T.drop k).take 1 = x.T.take (k + 1) := by rw [List.take_add]
  rw [this, e] at hr
  rw [hr]
  have hl := (goes_sem h).le c (List.mem_of_getElem? hc)
  rw [List.take_append, List.length_take, Nat.min_eq_left hl, Nat.sub_self, List.take_zero, List.append_nil, List.take_take, Nat.min_self]
noncomputable def rI (ps : List Pc) (c : Int) (x : Way) (s : Sl) : Prop := ∃ o7 o8 : Option O, s = [some (O.fr (D.ls (dPs ps))), some (O.fr (D.int c)), some (O.fr (D.ls [D.ls (dT x.T), D.ls x.A, D.ls (dT x.C)])), some (O.fr (D.ls (dT x.T))), some (O.fr (D.ls x.A)), some (O.fr (D.ls (dT x.C))), some (O.fl (dT x.T)), o7, o8, none]
noncomputable def rJ (ps : List Pc) (c : Int) (x : Way) (o7 o8 : Option O) (s : Sl) : Prop := ∃ o9 : Option O, s = [some (O.fr (D.ls (dPs ps))), some (O.fr (D.int c)), some (O.fr (D.ls [D.ls (dT x.T), D.ls x.A, D.ls (dT x.C)])), some (O.fr (D.ls (dT x.T))), some (O.fr (D.ls x.A)), some (O.fr (D.ls (dT x.C))), some (O.fl (dT x.T)), o7, o8, o9]
theorem f_rightG {Gf : Fn} {ps : List Pc} {c : Int} {x : Way} (hs : szPs ps < 50000) (g1 : Goes ps x) (g2 : x.A.length ≤ szPs ps) (g3 : x.T.length ≤ szPs ps) (q : Gf [.fr (.ls (dPs ps)), .fr (.int c), .ol [.fl [], .fl [], .fl []]] = .ok (.fr .non) [.fr (.ls (dPs ps)), .fr (.int c), .ol [.fl (dT x.T), .fl x.A, .fl (dT x.C)]]) : fnD [] 2 10 (c__law_right Gf) [.fr (.ls (dPs ps)), .fr (.int c)] = .ok (.fr (.bl true)) [.fr (.ls (dPs ps)), .fr (.int c)] := by
  have hth := goes_things g1
  have hlt := goes_lt g1
  have hC := goes_sem g1
  have q2 := f_mix (c := c) (k := 7) (m := (x.A.length : Int) + 1) (by decide) (by decide) (by omega)
  have q3 := mix_lt (c := c) (k := 7) (m := (x.A.length : Int) + 1) (by omega)
  have hT := dps_T x.T
  have hAp : ∀ n : Nat, Dps (x.A.take n) 49 := fun n => .all fun d hd => ((hth d (List.mem_of_mem_take hd)).2).le (by omega)
  have hAt : ∀ n : Nat, ∀ d ∈ x.A.take n, ∃ ds, d = .tp ds := fun n d hd => (hth d (List.mem_of_mem_take hd)).1
  have hX : ∀ n : Nat, F__law_is [.fr (.ls (x.A.take n)), .fr (.ls (x.A.take n))] = .ok (.fr (.bl true)) [.fr (.ls (x.A.take n)), .fr (.ls (x.A.take n))] := fun n => f_is (hAp n) (hAt n)
  clear hAp hAt hth
  unfold c__law_right
  walk_at "ev*"
  have hA49 : x.A.length ≤ 50000 := by omega
  have hw : ∀ n : Nat, n ≤ 100000 → F_walked [.fr (.ls (dPs ps)), .fr (.tp [.ls (dT x.T), .int n])] = .ok (.fl (x.A.take n)) [.fr (.ls (dPs ps)), .fr (.tp [.ls (dT x.T), .int n])] := fun n hn => by
    have := f_walked (ps := ps) (T := x.T) (n := n) hlt (by omega) (by omega) hn
    rw [goes_take g1] at this
    exact this
  generalize hL : forLoop _ _ _ _ = L
  obtain ⟨s', rfl, o7, o8, rfl⟩ : ∃ s', L = .nx s' ∧ rI ps c x s' := by
    rw [← hL]
    refine for_seq (fun _ s => rI ps c x s) ⟨_, _, rfl⟩ ?_
    rintro k d s hd ⟨o7, o8, rfl⟩
    obtain ⟨m, hm, rfl⟩ : ∃ m : Nat, m ≤ 100000 ∧ d = .int m := by
      have := List.mem_of_getElem? hd
      simp only [List.mem_cons, List.not_mem_nil, or_false] at this
      rcases this with rfl | rfl | rfl | rfl
      · exact ⟨0, by omega, rfl⟩
      · exact ⟨x.A.length, by omega, rfl⟩
      · exact ⟨mixM c 7 ((x.A.length : Int) + 1), by omega, rfl⟩
      · exact ⟨x.A.length / 2, by omega, rfl⟩
    have hwm := hw m hm
    have hXm := hX m
    clear hX hw hL q q2 hC
    walk_at "ev*"
    exact ⟨_, rfl, _, _, rfl⟩
  clear hL
  have hlT := dT_len x.T
  walk_at "ev*"
  generalize hL : forLoop _ _ _ _ = L
  obtain ⟨s', rfl, o9, rfl⟩ : ∃ s', L = .nx s' ∧ rJ ps c x o7 o8 s' := by
    rw [← hL]
    refine for_rng (fun _ s => rJ ps c x o7 o8 s) ⟨_, rfl⟩ ?_
    rintro k s hk ⟨o9, rfl⟩
    clear hL
    have hlen := hC.len
    obtain ⟨m, hm⟩ : ∃ m, x.C[k]? = some m := ⟨x.C[k], List.getElem?_eq_getElem (by omega)⟩
    have hmle := hC.le m (List.mem_of_getElem? hm)
    have e1 := f_walked (ps := ps) (T := x.T.take k) (n := m) (fun t ht => hlt t (List.mem_of_mem_take ht)) (by rw [List.length_take]; omega) (by omega) (by omega)
    have e2 := f_walked (ps := ps) (T := x.T.take (k + 1)) (n := m) (fun t ht => hlt t (List.mem_of_mem_take ht)) (by rw [List.length_take]; omega) (by omega) (by omega)
    rw [goes_cut g1 hm, List.take_take, Nat.min_self, List.map_take] at e1
    rw [goes_cut2 g1 hm, List.map_take] at e2
    have hXm := hX m
    have e3 : atI (dT x.C) (k : Int) = some (.int m) := atI_lit (by unfold dT; rw [List.getElem?_map, hm]; rfl)
    have e4 : ((k : Int) + 1) = ((k + 1 : Nat) : Int) := by omega
    have e5 : ∀ n, (List.take n (List.map (fun (t : Nat) => D.int t) x.T)) = (dT x.T).take n := fun _ => rfl
    rw [e5] at e1 e2
    clear hX hw q q2 hC hm e5 hlen
    walk_at "ev*"
    exact ⟨_, rfl, _, rfl⟩
  clear hL
  walk_at "ev*"
theorem f_right {ps : List Pc} {c : Int} (hd : dpPs ps < 20) (hs : szPs ps < 50000) : F__law_right [.fr (.ls (dPs ps)), .fr (.int c)] = .ok (.fr (.bl true)) [.fr (.ls (dPs ps)), .fr (.int c)] := by
  obtain ⟨x, g1, g2, g3, q⟩ := f_right1 (c := c) hd hs
  exact f_rightG hs g1 g2 g3 q

theorem dp_flat {α : Type} {f : α → List Pc} {d : Nat} : ∀ {xs : List α}, (∀ x ∈ xs, dpPs (f x) ≤ d) → dpPs (xs.map f).flatten ≤ d
  | [], _ => by simp only [List.map_nil, List.flatten_nil, dpPs]; omega
  | x :: xs, h => by
    have h1 := h x List.mem_cons_self
    have h2 := dp_flat (xs := xs) fun y hy => h y (List.mem_cons_of_mem _ hy)
    rw [List.map_cons, List.flatten_cons, dpPs_app]; omega
theorem dp_with {G : Int → Tx → List Pc} {d : Nat} (h : ∀ c k, dpPs (G c k) ≤ d) (c : Int) (l k z : Tx) : dpPs (withF G c l k z) ≤ d := by
  have := h (partM c 8) k
  unfold withF
  simp only [dpPs_app, dpPs, dpP]; omega
theorem dp_some {z : Bool} {G : Int → Tx → List Pc} {d : Nat} (h : ∀ c k, dpPs (G c k) ≤ d) (c : Int) (k : Tx) : dpPs (someF z G c k) ≤ d + 1 := by
  have h6 := h (partM c 6) k
  have h7 := h (partM c 7) k
  have h9 := h (partM c 9) kText
  unfold someF
  split
  · simp only [dpPs, dpP]; omega
  · split
    · simp only [dpPs, dpP]; omega
    · split
      · unfold compF
        split
        · have := dp_with h c ([[32, 113, 61, 34], [32, 114, 40, 121, 44], [32, 116, 33, 34, 119, 32, 39]].getD (mixM c 4 3) []) ([[113, 117, 111, 116, 101, 100], [114, 111, 119], [115, 97, 105, 100]].getD (mixM c 4 3) []) ([[34], [41], [39, 34]].getD (mixM c 4 3) [])
          omega
        · rw [dpPs_app, dpPs_app]
          split
          · have := dp_with h c [60, 98, 32, 119, 58] [98, 97, 114, 101] [62]
            simp only [dpPs, dpP]; omega
          · have := dp_with h c [60, 98, 32, 97, 61, 34, 120, 34] kDone [62]
            simp only [dpPs, dpP]; omega
      · split
        · simp only [dpPs, dpP]; omega
        · split
          · simp only [dpPs, dpP]; omega
          · simp only [dpPs, dpP]; omega
theorem dp_good : ∀ (d : Nat) (c : Int) (k : Tx), dpPs (goodM d c k) ≤ d + 1
  | 0, c, k => by
    unfold goodM goodF
    exact dp_flat fun x _ => dp_some (d := 0) (fun _ _ => by simp only [dpPs]; omega) _ _
  | d + 1, c, k => by
    unfold goodM goodF
    exact dp_flat fun x _ => dp_some (d := d + 1) (dp_good d) _ _
noncomputable def lI (ns : List Int) (s : Sl) : Prop := ∃ o1 o2 o3 o4 : Option O, s = [some (.fr (.kl (ns.map .int))), o1, o2, o3, o4, none, none, none]
noncomputable def lJ (ns : List Int) (k c : Int) (ps : List Pc) (s : Sl) : Prop := ∃ o4 : Option O, s = [some (.fr (.kl (ns.map .int))), some (.fr (.int k)), some (.fr (.int c)), some (.fr (.ls (dPs ps))), o4, none, none, none]
noncomputable def exPs : List Pc := [.ife [97] [.lit [120]] [.hole [98]], .each [99] [.lit [121]], .lit [122]]
noncomputable def exSt : List Pc := [.seat [101, 108, 100, 101, 114] [112] [113] exPs, .lit [119]]
theorem f_law {ns : List Int} (hn : ns.length ≤ 63) : F_law [.fr (.kl (ns.map .int))] = .ok (.fr (.bl true)) [.fr (.kl (ns.map .int))] := by
  have hnl : ((ns.map D.int).length : Nat) = ns.length := List.length_map _
  obtain ⟨n, hn6, hnn⟩ : ∃ n : Nat, n ≤ 6 ∧ ((if (2 : Int) < (if (6 : Int) < (ns.length : Nat) then 6 else ((ns.length : Nat) : Int)) then (if (6 : Int) < (ns.length : Nat) then 6 else ((ns.length : Nat) : Int)) else 2)) = (n : Int) := by
    by_cases h6 : (6 : Int) < (ns.length : Nat)
    · exact ⟨6, by omega, by simp [h6]⟩
    · by_cases h2 : (2 : Int) < (ns.length : Nat)
      · exact ⟨ns.length, by omega, by simp only [h6, h2, if_true, if_false]⟩
      · exact ⟨2, by omega, by simp only [h6, h2, if_false]; rfl⟩
  unfold F_law c_law
  walk_at "ev*"
  generalize hL : forLoop _ _ _ _ = L
  obtain ⟨s', rfl, o1, o2, o3, o4, rfl⟩ : ∃ s', L = .nx s' ∧ lI ns s' := by
    rw [← hL]
    clear hL hnn
    refine for_rng (fun _ s => lI ns s) ⟨_, _, _, _, rfl⟩ ?_
    rintro k s hk ⟨o1, o2, o3, o4, rfl⟩
    obtain ⟨c, q1⟩ := f_cell (ns := ns) (k := k) (by omega) (by omega)
    obtain ⟨due, q2, h1, h2⟩ := f_made (c := c)
    have hg : gL 3 = 2977 := rfl
    have hdp := dp_good 3 c kText
    generalize goodM 3 c kText = ps at q2 h2 hdp
    have hDs : Dps (dPs ps) 49 := (dp_Ps ps).le (by omega)
    have hR : ∀ c', F__law_right [.fr (.ls (dPs ps)), .fr (.int c')] = .ok (.fr (.bl true)) [.fr (.ls (dPs ps)), .fr (.int c')] := fun c' => f_right (by omega) (by omega)
    clear h1 hg
    walk_at "ev*"
    generalize hL : forLoop _ _ _ _ = L
    obtain ⟨s', rfl, o5, rfl⟩ : ∃ s', L = .nx s' ∧ lJ ns k c ps s' := by
      rw [← hL]
      clear hL
      refine for_rng (fun _ s => lJ ns k c ps s) ⟨_, rfl⟩ ?_
      rintro j s hj ⟨o5, rfl⟩
      clear q1 q2
      walk_at "ev*"
      exact ⟨_, rfl, _, rfl⟩
    clear hL
    walk_at "ev*"
    exact ⟨_, rfl, _, _, _, _, rfl⟩
  clear hL hnn
  have e1 := f_walked (ps := exSt) (T := [0, 0]) (n := 3) (by decide) (by decide) (by decide) (by decide)
  have e2 := f_walked (ps := exSt) (T := [1, 1]) (n := 6) (by decide) (by decide) (by decide) (by decide)
  have x1 : (out (its exSt) [0, 0]).take 3 = [D.tp [D.str [105, 110, 116, 111], D.str [101, 108, 100, 101, 114], D.str [112], D.str [113]], D.tp [D.str [108, 105, 116], D.str [120]], D.tp [D.str [108, 105, 116], D.str [122]]] := by
    simp only [exSt, exPs, its, out, List.cons_append, List.nil_append, brs, dInto, dP, List.take_succ_cons, List.take_zero]
  have x2 : (out (its exSt) [1, 1]).take 6 = [D.tp [D.str [105, 110, 116, 111], D.str [101, 108, 100, 101, 114], D.str [112], D.str [113]], D.tp [D.str [104, 111, 108, 101], D.str [98]], D.tp [D.str [108, 105, 116], D.str [121]], D.tp [D.str [108, 105, 116], D.str [122]], D.tp [D.str [111, 117, 116]], D.tp [D.str [108, 105, 116], D.str [119]]] := by
    simp only [exSt, exPs, its, out, List.cons_append, List.nil_append, brs, dInto, dOut, dP, List.take_succ_cons, List.take_zero, List.take_nil]
  rw [x1] at e1
  rw [x2] at e2
  clear x1 x2
  have i1 := f_is (xs := [D.tp [D.str [105, 110, 116, 111], D.str [101, 108, 100, 101, 114], D.str [112], D.str [113]], D.tp [D.str [108, 105, 116], D.str [120]], D.tp [D.str [108, 105, 116], D.str [122]]]) (.cons (.tp (.cons .str (.cons .str (.cons .str (.cons .str .nil))))) (.cons (.tp (.cons .str (.cons .str .nil))) (.cons (.tp (.cons .str (.cons .str .nil))) .nil))) (by simp)
  have i2 := f_is (xs := [D.tp [D.str [105, 110, 116, 111], D.str [101, 108, 100, 101, 114], D.str [112], D.str [113]], D.tp [D.str [104, 111, 108, 101], D.str [98]], D.tp [D.str [108, 105, 116], D.str [121]], D.tp [D.str [108, 105, 116], D.str [122]], D.tp [D.str [111, 117, 116]], D.tp [D.str [108, 105, 116], D.str [119]]]) (.cons (.tp (.cons .str (.cons .str (.cons .str (.cons .str .nil))))) (.cons (.tp (.cons .str (.cons .str .nil))) (.cons (.tp (.cons .str (.cons .str .nil))) (.cons (.tp (.cons .str (.cons .str .nil))) (.cons (.tp (.cons .str .nil)) (.cons (.tp (.cons .str (.cons .str .nil))) .nil)))))) (by simp)
  simp only [exSt, exPs, dPs, dP, List.map_cons, List.map_nil, Int.cast_ofNat_Int] at e1 e2
  walk_at "ev*"


structure Txt (mg : Str → Option Value) : Prop where
  z_len : mg "len" = none
  z_max : mg "max" = none
  z_min : mg "min" = none
  z_int : mg "int" = none
  z_list : mg "list" = none
  z_tuple : mg "tuple" = none
  z_range : mg "range" = none
  z_isinstance : mg "isinstance" = none

noncomputable abbrev sp_law (K : PySem.W.Frag) : Sp := spLaw K
noncomputable def wd (K : PySem.W.Frag) : Wd := ⟨K, fun _ => 0⟩
section
variable {P : Program} {w : World} {K : PySem.W.Frag} {mg : Str → Option Value} {base : Heap}
theorem fn_no {W : Wd} {k n : Nat} {x : Str} {st : Stmt} {ps N : List Str} {mk : List Bool} (D : Df W.K mg x st ps) (Sc : FnScope N ps (defScope st)) (hn : n = ps.length) : OkX P w W.K mg base (k + 1) x ps (SpM W mk n fun _ => .no) :=
  D.okX Sc (fun vs H Q E h => by rw [← hn]; exact h.1) (fun f cdv A outer s H vs Q E hr h => by
    obtain ⟨hl, F, os, B, nm, gF, tr, fr, nd, po⟩ := h
    exact po.elim)
local macro_rules | `(tactic| walk_at "need") => `(tactic| repeat' (first | exact trivial | (refine ⟨_, _, ?_, by assumption⟩; omega) | exact Txt.z_len (by assumption) | exact Txt.z_max (by assumption) | exact Txt.z_min (by assumption) | exact Txt.z_int (by assumption) | exact Txt.z_list (by assumption) | exact Txt.z_tuple (by assumption) | exact Txt.z_isinstance (by assumption) | exact Txt.z_range (by assumption) | (intro h; first | exact Txt.z_range (by assumption) | cases h) | refine ⟨?_, ?_⟩))
theorem ok_law_mix (T : Txt mg) (D : Df K mg "_law_mix" s__law_mix ps__law_mix) : OkX P w K mg base 1 "_law_mix" ps__law_mix (SpM (wd K) [] 3 F__law_mix) :=
  fn_ok (W := wd K) (k := 0) D sc__law_mix k__law_mix (by decide) (by decide) (by unfold c__law_mix; walk_at "need")
theorem ok_law_part (T : Txt mg) (D : Df K mg "_law_part" s__law_part ps__law_part) (F1 : OkX P w K mg base 1 "_law_mix" ps__law_mix (SpM (wd K) [] 3 F__law_mix)) : OkX P w K mg base 2 "_law_part" ps__law_part (SpM (wd K) [] 2 F__law_part) :=
  fn_ok (W := wd K) (k := 1) D sc__law_part k__law_part (by decide) (by decide) (by unfold c__law_part; walk_at "need")
theorem ok_law_cell (T : Txt mg) (D : Df K mg "_law_cell" s__law_cell ps__law_cell) : OkX P w K mg base 1 "_law_cell" ps__law_cell (SpM (wd K) [] 2 F__law_cell) :=
  fn_ok (W := wd K) (k := 0) D sc__law_cell k__law_cell (by decide) (by decide) (by unfold c__law_cell; walk_at "need")
theorem ok_law_fault (T : Txt mg) (D : Df K mg "_law_fault" s__law_fault ps__law_fault) : OkX P w K mg base 1 "_law_fault" ps__law_fault (SpM (wd K) [] 3 F__law_fault) :=
  fn_ok (W := wd K) (k := 0) D sc__law_fault k__law_fault (by decide) (by decide) (by unfold c__law_fault; walk_at "need")
theorem ok_branches_of (T : Txt mg) (D : Df K mg "branches_of" s_branches_of ps_branches_of) : OkX P w K mg base 1 "branches_of" ps_branches_of (SpM (wd K) [] 1 F_branches_of) :=
  fn_ok (W := wd K) (k := 0) D sc_branches_of k_branches_of (by decide) (by decide) (by unfold c_branches_of; walk_at "need")
theorem ok_walked (T : Txt mg) (D : Df K mg "walked" s_walked ps_walked) (F1 : OkX P w K mg base 1 "branches_of" ps_branches_of (SpM (wd K) [] 1 F_branches_of)) : OkX P w K mg base 2 "walked" ps_walked (SpM (wd K) [] 2 F_walked) :=
  fn_ok (W := wd K) (k := 1) D sc_walked k_walked (by decide) (by decide) (by unfold c_walked; walk_at "need")
theorem ok_law_is (T : Txt mg) (D : Df K mg "_law_is" s__law_is ps__law_is) : OkX P w K mg base 1 "_law_is" ps__law_is (SpM (wd K) [] 2 F__law_is) :=
  fn_ok (W := wd K) (k := 0) D sc__law_is k__law_is (by decide) (by decide) (by unfold c__law_is; walk_at "need")
theorem ok_recs (T : Txt mg) (Dg : Df K mg "_law_good" s__law_good ps__law_good) (Ds : Df K mg "_law_some" s__law_some ps__law_some) (Dw : Df K mg "_law_within" s__law_within ps__law_within) (Dc : Df K mg "_law_compound" s__law_compound ps__law_compound)
    (F1 : OkX P w K mg base 1 "_law_mix" ps__law_mix (SpM (wd K) [] 3 F__law_mix)) (F2 : OkX P w K mg base 2 "_law_part" ps__law_part (SpM (wd K) [] 2 F__law_part)) (F3 : OkX P w K mg base 1 "_law_fault" ps__law_fault (SpM (wd K) [] 3 F__law_fault)) :
    ∀ n, OkX P w K mg base (n + 2) "_law_good" ps__law_good (SpM (wd K) [] 4 (F__law_good n)) ∧ OkX P w K mg base (n + 2) "_law_some" ps__law_some (SpM (wd K) [] 4 (F__law_some n)) ∧ OkX P w K mg base (n + 2) "_law_within" ps__law_within (SpM (wd K) [] 6 (F__law_within n)) ∧ OkX P w K mg base (n + 2) "_law_compound" ps__law_compound (SpM (wd K) [] 4 (F__law_compound n))
  | 0 => by
    rw [F__law_good, F__law_some, F__law_within, F__law_compound]
    exact ⟨fn_no (W := wd K) Dg sc__law_good rfl, fn_no (W := wd K) Ds sc__law_some rfl, fn_no (W := wd K) Dw sc__law_within rfl, fn_no (W := wd K) Dc sc__law_compound rfl⟩
  | n + 1 => by
    obtain ⟨Fg, Fs, Fw', Fc⟩ := ok_recs T Dg Ds Dw Dc F1 F2 F3 n
    rw [F__law_good, F__law_some, F__law_within, F__law_compound]
    refine ⟨fn_ok (W := wd K) (k := n + 2) Dg sc__law_good k__law_good (by decide) (by decide) ?_, fn_ok (W := wd K) (k := n + 2) Ds sc__law_some k__law_some (by decide) (by decide) ?_, fn_ok (W := wd K) (k := n + 2) Dw sc__law_within k__law_within (by decide) (by decide) ?_, fn_ok (W := wd K) (k := n + 2) Dc sc__law_compound k__law_compound (by decide) (by decide) ?_⟩
    · unfold c__law_good; walk_at "need"
    · unfold c__law_some; walk_at "need"
    · unfold c__law_within; walk_at "need"
    · unfold c__law_compound; walk_at "need"
theorem ok_law_made (T : Txt mg) (D : Df K mg "_law_made" s__law_made ps__law_made) (Dg : Df K mg "_law_good" s__law_good ps__law_good) (Ds : Df K mg "_law_some" s__law_some ps__law_some) (Dw : Df K mg "_law_within" s__law_within ps__law_within) (Dc : Df K mg "_law_compound" s__law_compound ps__law_compound)
    (F1 : OkX P w K mg base 1 "_law_mix" ps__law_mix (SpM (wd K) [] 3 F__law_mix)) (F2 : OkX P w K mg base 2 "_law_part" ps__law_part (SpM (wd K) [] 2 F__law_part)) (F3 : OkX P w K mg base 1 "_law_fault" ps__law_fault (SpM (wd K) [] 3 F__law_fault)) : OkX P w K mg base 23 "_law_made" ps__law_made (SpM (wd K) [] 2 F__law_made) := by
  have F4 := (ok_recs T Dg Ds Dw Dc F1 F2 F3 20).1
  exact fn_ok (W := wd K) (k := 22) D sc__law_made k__law_made (by decide) (by decide) (by unfold c__law_made; walk_at "need")
theorem ok_go (T : Txt mg) (D : Df K mg "_law_go" s__law_go ps__law_go) (F1 : OkX P w K mg base 1 "_law_mix" ps__law_mix (SpM (wd K) [] 3 F__law_mix)) : ∀ n, OkX P w K mg base (n + 1) "_law_go" ps__law_go (SpM (wd K) [false, false, true] 3 (F__law_go n))
  | 0 => by rw [F__law_go]; exact fn_no (W := wd K) D sc__law_go rfl
  | n + 1 => by
    have Fg := ok_go T D F1 n
    rw [F__law_go]
    exact fn_ok (W := wd K) (k := n + 1) D sc__law_go k__law_go (by decide) (by decide) (by unfold c__law_go; walk_at "need")
theorem ok_law_right (T : Txt mg) (D : Df K mg "_law_right" s__law_right ps__law_right) (Dg : Df K mg "_law_go" s__law_go ps__law_go) (F1 : OkX P w K mg base 1 "_law_mix" ps__law_mix (SpM (wd K) [] 3 F__law_mix)) (F2 : OkX P w K mg base 2 "walked" ps_walked (SpM (wd K) [] 2 F_walked)) (F3 : OkX P w K mg base 1 "_law_is" ps__law_is (SpM (wd K) [] 2 F__law_is)) : OkX P w K mg base 22 "_law_right" ps__law_right (SpM (wd K) [] 2 F__law_right) := by
  have F4 := ok_go T Dg F1 20
  exact fn_ok (W := wd K) (k := 21) D sc__law_right k__law_right (by decide) (by decide) (by unfold c__law_right; walk_at "need")
theorem ok_law (T : Txt mg) (D : Df K mg "law" s_law ps_law) (F1 : OkX P w K mg base 1 "_law_cell" ps__law_cell (SpM (wd K) [] 2 F__law_cell)) (F2 : OkX P w K mg base 23 "_law_made" ps__law_made (SpM (wd K) [] 2 F__law_made)) (F3 : OkX P w K mg base 22 "_law_right" ps__law_right (SpM (wd K) [] 2 F__law_right)) (F4 : OkX P w K mg base 1 "_law_is" ps__law_is (SpM (wd K) [] 2 F__law_is)) (F5 : OkX P w K mg base 2 "walked" ps_walked (SpM (wd K) [] 2 F_walked)) : OkF P w K mg base 24 "law" ps_law (sp_law K) :=
  law_ok (W := wd K) (k := 23) D sc_law k_law (by unfold c_law; walk_at "need") fun ns h => ⟨_, f_law h⟩
end

end My


set_option maxHeartbeats 0
open PySem L2 L3 PySem.Spec PyProof.Rows
namespace My
theorem len1 {α : Type} : ∀ {us : List α}, us.length = 1 → ∃ a0, us = [a0]
  | [a0], _ => ⟨a0, rfl⟩
theorem len2 {α : Type} : ∀ {us : List α}, us.length = 2 → ∃ a0 a1, us = [a0, a1]
  | [a0, a1], _ => ⟨a0, a1, rfl⟩
theorem len3 {α : Type} : ∀ {us : List α}, us.length = 3 → ∃ a0 a1 a2, us = [a0, a1, a2]
  | [a0, a1, a2], _ => ⟨a0, a1, a2, rfl⟩
theorem len4 {α : Type} : ∀ {us : List α}, us.length = 4 → ∃ a0 a1 a2 a3, us = [a0, a1, a2, a3]
  | [a0, a1, a2, a3], _ => ⟨a0, a1, a2, a3, rfl⟩
theorem len6 {α : Type} : ∀ {us : List α}, us.length = 6 → ∃ a0 a1 a2 a3 a4 a5, us = [a0, a1, a2, a3, a4, a5]
  | [a0, a1, a2, a3, a4, a5], _ => ⟨a0, a1, a2, a3, a4, a5, rfl⟩
theorem dfm {K : PySem.W.Frag} {mg : Str → Option Value} {h : Heap} {x : Str} {st : Stmt} {ps : List Str} {f cd : Addr} {pm : Value} (X : K.In h) (G : h.Ns mainGlobals mg)
    (b : ∀ (kV doc pm : Value) (an : Option Addr) (cdv ct : Value) (us : List Value), us.length = ps.length → bindArgs (PySem.W.fnOf x x (defArgs st) (defBody st) (defScope st) .none kV doc pm an cdv ct) ⟨us, []⟩ = pure (ps.zip us))
    (a : PySem.W.nsIn K mainGlobals x = some (some (.ref f))) (l : K.lookup f = some ⟨.type "function", none, .func (PySem.W.fnOf x x (defArgs st) (defBody st) (defScope st) .none .none .none pm none (.ref cd) .none), #[]⟩)
    (c : PySem.W.codeIn K (.ref cd) x = true) (k : PySem.W.keepIn K (.ref f) = true) : Df K mg x st ps := df_mk X G b a l c k
theorem all_ok {l : PySem.W.OpenLaw} {w : World} {h : Heap} {mg : Str → Option Value} {fa : Addr} (X : (KH w.params).In h) (G : h.Ns mainGlobals mg) (hfa : mg "law" = some (.ref fa)) :
    ∃ fd : FuncData, (∀ (s : Shared) (v : Value), BindsTo s fd ⟨[v], []⟩ [("_law_script", v)]) ∧ ∀ base : Heap, (KH w.params).In base → base.Ns mainGlobals mg → FnOk l.prog w (KH w.params) mg base CX0 24 fa fd ["_law_script"] (sp_law (KH w.params)) := by
  have D_branches_of : Df (KH w.params) mg "branches_of" s_branches_of ps_branches_of := dfm (f := 21) (pm := (.str "sealpress.ways" 187)) (cd := 20) X G (fun _ _ _ _ _ _ us hl => by obtain ⟨_, rfl⟩ := len1 hl; rfl) (by kernel_rfl!) (by kernel_rfl!) (by kernel_rfl!) (by kernel_rfl!)
  have D_walked : Df (KH w.params) mg "walked" s_walked ps_walked := dfm (f := 28) (pm := (.str "sealpress.ways" 187)) (cd := 27) X G (fun _ _ _ _ _ _ us hl => by obtain ⟨_, _, rfl⟩ := len2 hl; rfl) (by kernel_rfl!) (by kernel_rfl!) (by kernel_rfl!) (by kernel_rfl!)
  have D__law_cell : Df (KH w.params) mg "_law_cell" s__law_cell ps__law_cell := dfm (f := 35) (pm := (.str "law_sealpress_k71_walked" 208)) (cd := 34) X G (fun _ _ _ _ _ _ us hl => by obtain ⟨_, _, rfl⟩ := len2 hl; rfl) (by kernel_rfl!) (by kernel_rfl!) (by kernel_rfl!) (by kernel_rfl!)
  have D__law_mix : Df (KH w.params) mg "_law_mix" s__law_mix ps__law_mix := dfm (f := 42) (pm := (.str "law_sealpress_k71_walked" 208)) (cd := 41) X G (fun _ _ _ _ _ _ us hl => by obtain ⟨_, _, _, rfl⟩ := len3 hl; rfl) (by kernel_rfl!) (by kernel_rfl!) (by kernel_rfl!) (by kernel_rfl!)
  have D__law_part : Df (KH w.params) mg "_law_part" s__law_part ps__law_part := dfm (f := 49) (pm := (.str "law_sealpress_k71_walked" 208)) (cd := 48) X G (fun _ _ _ _ _ _ us hl => by obtain ⟨_, _, rfl⟩ := len2 hl; rfl) (by kernel_rfl!) (by kernel_rfl!) (by kernel_rfl!) (by kernel_rfl!)
  have D__law_fault : Df (KH w.params) mg "_law_fault" s__law_fault ps__law_fault := dfm (f := 56) (pm := (.str "law_sealpress_k71_walked" 208)) (cd := 55) X G (fun _ _ _ _ _ _ us hl => by obtain ⟨_, _, _, rfl⟩ := len3 hl; rfl) (by kernel_rfl!) (by kernel_rfl!) (by kernel_rfl!) (by kernel_rfl!)
  have D__law_good : Df (KH w.params) mg "_law_good" s__law_good ps__law_good := dfm (f := 63) (pm := (.str "law_sealpress_k71_walked" 208)) (cd := 62) X G (fun _ _ _ _ _ _ us hl => by obtain ⟨_, _, _, _, rfl⟩ := len4 hl; rfl) (by kernel_rfl!) (by kernel_rfl!) (by kernel_rfl!) (by kernel_rfl!)
  have D__law_some : Df (KH w.params) mg "_law_some" s__law_some ps__law_some := dfm (f := 70) (pm := (.str "law_sealpress_k71_walked" 208)) (cd := 69) X G (fun _ _ _ _ _ _ us hl => by obtain ⟨_, _, _, _, rfl⟩ := len4 hl; rfl) (by kernel_rfl!) (by kernel_rfl!) (by kernel_rfl!) (by kernel_rfl!)
  have D__law_within : Df (KH w.params) mg "_law_within" s__law_within ps__law_within := dfm (f := 77) (pm := (.str "law_sealpress_k71_walked" 208)) (cd := 76) X G (fun _ _ _ _ _ _ us hl => by obtain ⟨_, _, _, _, _, _, rfl⟩ := len6 hl; rfl) (by kernel_rfl!) (by kernel_rfl!) (by kernel_rfl!) (by kernel_rfl!)
  have D__law_compound : Df (KH w.params) mg "_law_compound" s__law_compound ps__law_compound := dfm (f := 84) (pm := (.str "law_sealpress_k71_walked" 208)) (cd := 83) X G (fun _ _ _ _ _ _ us hl => by obtain ⟨_, _, _, _, rfl⟩ := len4 hl; rfl) (by kernel_rfl!) (by kernel_rfl!) (by kernel_rfl!) (by kernel_rfl!)
  have D__law_made : Df (KH w.params) mg "_law_made" s__law_made ps__law_made := dfm (f := 91) (pm := (.str "law_sealpress_k71_walked" 208)) (cd := 90) X G (fun _ _ _ _ _ _ us hl => by obtain ⟨_, _, rfl⟩ := len2 hl; rfl) (by kernel_rfl!) (by kernel_rfl!) (by kernel_rfl!) (by kernel_rfl!)
  have D__law_go : Df (KH w.params) mg "_law_go" s__law_go ps__law_go := dfm (f := 98) (pm := (.str "law_sealpress_k71_walked" 208)) (cd := 97) X G (fun _ _ _ _ _ _ us hl => by obtain ⟨_, _, _, rfl⟩ := len3 hl; rfl) (by kernel_rfl!) (by kernel_rfl!) (by kernel_rfl!) (by kernel_rfl!)
  have D__law_is : Df (KH w.params) mg "_law_is" s__law_is ps__law_is := dfm (f := 105) (pm := (.str "law_sealpress_k71_walked" 208)) (cd := 104) X G (fun _ _ _ _ _ _ us hl => by obtain ⟨_, _, rfl⟩ := len2 hl; rfl) (by kernel_rfl!) (by kernel_rfl!) (by kernel_rfl!) (by kernel_rfl!)
  have D__law_right : Df (KH w.params) mg "_law_right" s__law_right ps__law_right := dfm (f := 112) (pm := (.str "law_sealpress_k71_walked" 208)) (cd := 111) X G (fun _ _ _ _ _ _ us hl => by obtain ⟨_, _, rfl⟩ := len2 hl; rfl) (by kernel_rfl!) (by kernel_rfl!) (by kernel_rfl!) (by kernel_rfl!)
  have D_law : Df (KH w.params) mg "law" s_law ps_law := dfm (f := 119) (pm := (.str "law_sealpress_k71_walked" 208)) (cd := 118) X G (fun _ _ _ _ _ _ us hl => by obtain ⟨_, rfl⟩ := len1 hl; rfl) (by kernel_rfl!) (by kernel_rfl!) (by kernel_rfl!) (by kernel_rfl!)
  have T : Txt mg := ⟨PySem.W.mg_none_of X G (by kernel_rfl!), PySem.W.mg_none_of X G (by kernel_rfl!), PySem.W.mg_none_of X G (by kernel_rfl!), PySem.W.mg_none_of X G (by kernel_rfl!), PySem.W.mg_none_of X G (by kernel_rfl!), PySem.W.mg_none_of X G (by kernel_rfl!), PySem.W.mg_none_of X G (by kernel_rfl!), PySem.W.mg_none_of X G (by kernel_rfl!)⟩
  refine law_of D_law hfa (fun _ _ _ _ _ _ s v => .of_eq rfl) fun base => ?_
  have F__law_mix := ok_law_mix (P := l.prog) (w := w) (base := base) T D__law_mix 
  have F__law_part := ok_law_part (P := l.prog) (w := w) (base := base) T D__law_part F__law_mix
  have F__law_cell := ok_law_cell (P := l.prog) (w := w) (base := base) T D__law_cell 
  have F__law_fault := ok_law_fault (P := l.prog) (w := w) (base := base) T D__law_fault 
  have F_branches_of := ok_branches_of (P := l.prog) (w := w) (base := base) T D_branches_of 
  have F_walked := ok_walked (P := l.prog) (w := w) (base := base) T D_walked F_branches_of
  have F__law_is := ok_law_is (P := l.prog) (w := w) (base := base) T D__law_is 
  have F__law_made := ok_law_made (P := l.prog) (w := w) (base := base) T D__law_made D__law_good D__law_some D__law_within D__law_compound F__law_mix F__law_part F__law_fault
  have F__law_right := ok_law_right (P := l.prog) (w := w) (base := base) T D__law_right D__law_go F__law_mix F_walked F__law_is
  have F_law := ok_law (P := l.prog) (w := w) (base := base) T D_law F__law_cell F__law_made F__law_right F__law_is F_walked
  exact F_law
theorem walk {l : PySem.W.OpenLaw} {q : Program} {loose : List Str} {XP : (Str → Option Value) → Heap → Prop} {YP : World → Heap → Prop} {d : DefRec} {K : Params → PySem.W.Frag} (hn : l.most = some 63) (hdf : d.params.defaults = [])
    (hY : ∀ (w : World) (h : Heap), YP w h → (K w.params).In h)
    (F : ∀ (w : World) (mg : Str → Option Value) (fa : Addr) (h : Heap), (K w.params).In h → h.Ns mainGlobals mg → mg d.name = some (.ref fa) →
      ∃ fd : FuncData, (∀ (s : Shared) (u : Value), BindsTo s fd ⟨[u], []⟩ [("_law_script", u)]) ∧ ∀ base : Heap, (K w.params).In base → base.Ns mainGlobals mg → FnOk l.prog w (K w.params) mg base CX0 24 fa fd ["_law_script"] (sp_law (K w.params))) :
    PySem.W.WalkO q loose XP YP l.row.toRowW d [] (fun f vs => PySem.call f vs) :=
  L2.walk_of (n := 63) (k := 24) (x := "_law_script") (CX := fun _ => CX0) (sp := fun w => sp_law (K w.params)) hn (by decide) hdf ⟨rfl, by decide, by decide, rfl⟩ hY F (fun _ _ a ns hl _ hS => ⟨a, ns, rfl, hS, hl, fun _ => rfl⟩) fun _ _ _ _ _ z => z
end My
open PySem PySem.W PyProof.Rows
set_option maxRecDepth 100000 in
set_option maxHeartbeats 0 in
theorem PySem.Challenge.cw_sealpress_k71_walked_holds : PySem.Challenge.rw_sealpress_k71_walked.Holds := by
  w_on; o_law
  refine PySem.W.holds_open (q := My.qvw) (loose := My.loose0) (Xt := My.Xt0) (XP := XL My.qvw []) (Yf := Hook.obs My.HK) (Ya := Hook.val My.HK) (YP := Hook.says My.HK) (N := 747) My.left (Hook.of My.HK) (Hook.keeps My.HK) (fun s e => xl_of s (Bool.and_eq_true_iff.mp e).1) XL.keeps (by rfl) (by rfl) (by rfl) (fun s e => recFacts_of (Bool.and_eq_true_iff.mp e).2) (by rfl) (by first | assumption | decide +kernel) (by decide +kernel) ⟨rfl, rfl, rfl, rfl, rfl, by decide +kernel⟩ ?hw ?hc
  (case hw => w_witness2)
  exact My.walk (l := PySem.Challenge.rw_sealpress_k71_walked) rfl rfl (fun w h Y => PySem.W.kIn_of Y) (fun w mg fa h KX G hmg => My.all_ok KX G hmg)
