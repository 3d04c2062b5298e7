import PyProof.Rows.All
import Wide.All
import OpenK.AllK
import Wide.FinOn
import Lean
import PyProof.EqAt
import PyProof.EqKinds
import PyProof.TupleCall
import PyProof.Draws
import PyProof.EnumMake
import PyProof.NeKinds
import PyProof.ZipIter
import PyProof.Rows.ZipGen
import PyProof.ReprRoads
import KE.KRevIter
import PyProof.StrLawsReplace
import PyProof.ToksMono
import PyProof.SliceList
import KE.KEqDict
import PySem.Challenge.RW_sealpress_k56_whole_there_and_back
set_option linter.all false
set_option genSizeOf false
set_option backward.match.sparseCases false
set_option compiler.extract_closed false
set_option bootstrap.genMatcherCode false
abbrev La:=PySem.Str->Option PySem.Value
abbrev Lc:=List Nat
abbrev Ld:=List PySem.Addr
abbrev Le:=PySem.W.Frag
abbrev Lf:=List PySem.Value
abbrev Lg:=List PySem.Expr
abbrev Lh:=List PySem.Str
abbrev ua:=@List.length_append
abbrev ub:=@List.length_cons
abbrev uc:=@List.length_nil
abbrev ud:=@List.append_assoc
abbrev ue:=@List.length_map
abbrev uf:=@List.mem_cons_self
abbrev ug:=@List.mem_singleton
abbrev uh:=@List.mem_cons_of_mem
abbrev ui:=@Nat.le_refl
abbrev uj:=@List.size_toArray
abbrev uk:=@List.append_nil
abbrev um:=@List.mem_cons
abbrev uo:=@List.map_cons
abbrev uq:=@decide_eq_false
abbrev ur:=@List.mem_append
abbrev uu:=@List.getElem?_eq_getElem
abbrev uv:=@if_neg
abbrev uw:=@if_pos
abbrev ux:=@List.getElem?_map
abbrev uy:=@of_decide_eq_true
abbrev uz:=@Option.map_eq_some_iff
abbrev uA:=@List.map_append
abbrev uB:=@List.mem_append_right
abbrev uC:=@List.perm_append_comm
abbrev uD:=@Bool.false_ne_true
abbrev uE:=@Nat.zero_le
abbrev uF:=@Bool.and_eq_true_iff
abbrev uG:=@Option.some.inj
abbrev uH:=@List.perm_middle
abbrev uI:=@Nat.lt_of_lt_of_le
abbrev uJ:=@Nat.le_trans
abbrev uK:=@List.mem_of_getElem?
abbrev uL:=@of_decide_eq_false
abbrev uM:=@Int.emod_lt_of_pos
abbrev uN:=@List.getElem?_eq_some_iff
abbrev uO:=@List.getD_eq_getElem?_getD
abbrev uP:=@Nat.ne_of_lt
abbrev uQ:=@Bool.and_eq_true
abbrev uR:=@Int.emod_nonneg
abbrev uS:=@decide_eq_true
abbrev uT:=@Option.bind_some
abbrev uU:=@List.getElem?_set_self
abbrev uV:=@List.getElem?_append_right
abbrev uW:=@beq_self_eq_true
abbrev uX:=@List.mem_append_left
abbrev uY:=@List.lookup_cons
abbrev uZ:=@List.isEmpty_iff
abbrev u3:=@beq_eq_false_iff_ne
abbrev u4:=@List.map_congr_left
abbrev u5:=@PySem.W.mg_none_of
abbrev u6:=@Nat.le_add_right
abbrev u7:=@PySem.mem_of_lookup
abbrev u9:=@Nat.lt_irrefl
abbrev Ua:=@PySem.W.kia_one
abbrev Ub:=@List.length_drop
abbrev Uc:=@List.nodup_cons
abbrev Ud:=@List.eq_nil_or_concat
abbrev Ue:=@List.concat_eq_append
abbrev Ug:=@PySem.W.mg_of
abbrev Uh:=@List.mem_map
abbrev Ui:=@List.getElem?_set_ne
abbrev Uj:=@List.findIdx?_cons
abbrev Uk:=@List.length_replicate
abbrev Ul:=@List.getElem?_append_left
abbrev Um:=@List.drop_eq_getElem_cons
abbrev Uo:=@Option.map_some
abbrev Up:=@Nat.le_of_eq
abbrev Uq:=@List.map_map
abbrev Ur:=@List.all_cons
abbrev Us:=@List.any_cons
abbrev Ut:=@Bool.or_eq_true_iff
abbrev Uu:=@List.map_eq_nil_iff
abbrev Uv:=@List.length_take
abbrev Uw:=@List.map_nil
abbrev Ux:=@List.map_id'
abbrev Uy:=@List.find?_cons
abbrev Uz:=@PySem.F.slot_dict_get
abbrev UA:=@List.take_append_drop
abbrev UB:=@List.nodup_append
abbrev UC:=@Array.getElem?_eq_some_iff
abbrev UD:=@List.take_length
abbrev UE:=@Nat.zero_add
abbrev UG:=@List.cons.inj
abbrev UH:=@List.nil_append
abbrev UI:=@Nat.add_sub_cancel_left
abbrev UJ:=@PySem.F.plainAttrs_list
abbrev UK:=@Int.toNat_natCast
abbrev UL:=@PySem.F.slot_str_split
abbrev UM:=@List.reverse_cons
abbrev UN:=@List.Perm.append_right
abbrev UO:=@Nat.sub_self
abbrev UP:=@List.length_singleton
abbrev UQ:=@Nat.lt_succ_self
abbrev UR:=@List.getElem_mem
abbrev US:=@PySem.F.slot_list_getattribute
abbrev UT:=@Nat.le_succ
abbrev UU:=@List.eq_nil_of_length_eq_zero
abbrev UW:=@List.getLast?_concat
abbrev UX:=@Bool.eq_iff_iff
abbrev UY:=@List.of_mem_zip
abbrev UZ:=@List.getLast?_cons_of_ne_nil
abbrev U0:=@List.flatMap_append
abbrev U1:=@Nat.succ.inj
abbrev U2:=@if_false
abbrev U3:=@PySem.W.kitx_list
abbrev U4:=@PySem.W.kitx_dict
abbrev U5:=@if_true
abbrev U6:=@Option.some.injEq
abbrev U7:=@List.length_range
abbrev U8:=@PySem.F.args_tuple_add_2
abbrev U9:=@Bool.false_or
abbrev gc:=@PySem.F.args_str_split_2
abbrev gf:=@Bool.true_and
abbrev gg:=@Nat.add_assoc
abbrev gh:=@PySem.F.entry_tuple_add
abbrev gi:=@Option.getD_none
abbrev gj:=@PySem.F.args_dict_get_3
abbrev gk:=@List.all_eq_true
abbrev gm:=@PySem.F.entry_str_split
abbrev gn:=@List.getElem?_cons_succ
abbrev gp:=@List.not_mem_nil
abbrev gq:=@Int.eq_ofNat_of_zero_le
abbrev gr:=@beq_iff_eq
abbrev gu:=@PySem.F.slot_tuple_add
abbrev gv:=@PySem.F.entry_dict_get
abbrev gw:=@List.drop_of_length_le
abbrev gx:=@List.map_set
abbrev gy:=@PySem.F.plainAttrs_str
abbrev gz:=@Nat.ble_eq_true_of_le
abbrev gA:=@List.Perm.append_left
abbrev gB:=@List.set_append_right
abbrev gC:=@Bool.and_false
abbrev gD:=@List.forall_mem_cons
abbrev gE:=@List.take_succ
abbrev gF:=@List.filterMap_cons
abbrev gG:=@Array.length_toList
abbrev gH:=@PySem.W.plainGet_of
abbrev gI:=@List.reverse_append
abbrev gJ:=@PySem.W.callWith_K0
abbrev gK:=@Bool.false_eq_true
abbrev gM:=@PySem.W.callWith_K
abbrev gO:=@Nat.ne_of_gt
abbrev gP:=@Nat.lt_trans
abbrev gQ:=@Option.isSome_map
abbrev gR:=@List.set_set
abbrev gS:=@List.eraseIdxIfInBounds_toArray
abbrev gT:=@Nat.succ_lt_succ
abbrev gU:=@List.drop_append_of_le_length
abbrev gW:=@Int.mul_le_mul_of_nonneg_left
abbrev gX:=@List.mem_filter
abbrev gY:=@List.append_inj
abbrev gZ:=@Nat.not_lt_zero
abbrev g9:=@List.cons.injEq
abbrev Ga:=@List.perm_append_comm_assoc
abbrev Gb:=@List.mem_range
abbrev Ge:=@Bool.false_and
abbrev Gf:=@List.drop_zero
abbrev Gg:=@Prod.mk.injEq
abbrev Gh:=@Option.isSome_iff_exists
abbrev Gi:=@List.mem_of_mem_eraseIdx
abbrev Gj:=@List.getElem?_replicate
abbrev Gk:=@PySem.F.plainAttrs_dict
abbrev Gm:=@List.length_eq_zero_iff
set_option Elab.async false
set_option linter.all false
set_option maxRecDepth 100000
set_option maxHeartbeats 0
namespace L2
open PySem PySem.W
theorem left_run {p q:Program}{loose:Lh}{Xt:Shared->Bool}{α:Type}{Yf:Shared->α}{Ya:World->α}{N M m0:Nat}{ann:Option Value}{H0:Params->Heap}{g0:Array GenState}{d0:Drawn}{k0:Nat}
  (hb:∀ w:World,(fencedOpening treeTable p w N).map (λs=>(s.heap,s.gens,s.drawn,s.toks))=some (H0 w.params,g0,d0,k0))
  (hz:∀ w:World,((H0 w.params).isNs mainGlobals&&g0.size == 0,(H0 w.params).objs.size,(H0 w.params).nsMap mainGlobals "__annotations__")=(true,m0,ann))
  (hr:∀ (w:World) (os:OsState),∃ s:Shared,topRun treeTable p w m0 ann M ⟨H0 w.params,g0,d0,k0,os⟩ (topStub p)=some s /\
   (staticsOk (importedModules p.main.body) (H0 w.params) s.heap&&namesBound p s.heap&&gensDone s&&laidKept (H0 w.params) s.heap)=true/\openSeen q loose (importedModules p.main.body) Xt true s=openGood q loose/\Yf s=Ya w)
  (hn:M<=N):LeftO p q loose Xt Yf Ya N:=λw=>by
 obtain⟨s0,e,e'⟩:=uz.mp (hb w)
 obtain⟨h,gs,d,k,os⟩:=s0
 simp only [Gg] at e'
 obtain⟨rfl,rfl,rfl,rfl⟩:=e'
 obtain⟨s,r,l1,l2,l3⟩:=hr w os
 have z:=hz w
 simp only [Gg] at z
 obtain⟨z1,z2,z3⟩:=z
 obtain⟨x,rfl⟩:=Nat.exists_eq_add_of_le hn
 have r':=topRun_mono x _ _ _ _ r
 have t:topFrom treeTable p w (M+x) ⟨H0 w.params,gs,d,k,os⟩=some s:=by
  unfold topFrom
  simp only [z1,z2,z3,r',uT,l1]
 unfold openEnds
 rw [e,uT,t,Uo,l2,l3]
end L2
namespace My
open PySem PySem.W
abbrev pw:Program:=PySem.Challenge.pw_sealpress_k56_whole_there_and_back
noncomputable def tp (i:Nat):Stmt:=pw.main.body.getD i (.Pass ⟨0,0,0,0⟩)
noncomputable def tc (i j:Nat):Stmt:=match tp i with
 | .ClassDef _ _ _ body _ _ _ _ _ _ _=>body.getD j (.Pass ⟨0,0,0,0⟩)
 | _=>.Pass ⟨0,0,0,0⟩
noncomputable def fnO (s:Stmt)(nm q:Str)(g:Addr)(cl:List (Str×Addr))(df kd dc pm:Value)(an:Option Addr)(cd ct:Value)(bl:Addr):Data:=match s with
 | .FunctionDef _ a b _ _ _ sc _ _ _=>.func ⟨nm,q,a,.stmts b,sc,g,cl,df,kd,dc,pm,an,cd,ct,bl⟩
 | _=>.plain
noncomputable def en (P:Params)(k:Str)(t:Nat)(v:Value):DictEntry:=⟨PyData.keyHash P k,.str k t,v⟩
noncomputable def cO (n:Str)(a b c:Nat)(l g:Int)(r q:Addr)(x y z w:Value)(t:Int)(u:Nat):Obj:=⟨.type "code",none,.fields #[.str n a,.str n b,.str "/claim/cut.py" c,.int l 0,.int g 0,.int 0 0,.int 0 0,.int 3 0,.ref r,.bool true,.int 181 0,.ref q,x,y,z,w,.int t 0,.int l 0,.str "/claim/cut.py" u],#[]⟩
noncomputable def fO (i:Nat)(n:Str)(m:Value)(c:Addr):Obj:=⟨.type "function",none,fnO (tp i) n n 3 [] .none .none .none m none (.ref c) .none 0,#[]⟩
noncomputable def o11 (_:Params):Obj:={ cls:=.type "tuple",data:=.seq #[] }
noncomputable def o12 (_:Params):Obj:={ cls:=.none,data:=.fields #[] }
noncomputable def o13 (_:Params):Obj:={ cls:=.type "code",data:=.fields #[.str "<module>" 182,.str "<module>" 183,.str "/claim/cut.py" 184,.int 1 0,.int 0 0,.int 0 0,.int 0 0,.int 0 0,.ref 11,.bool false,.int 181 0,.ref 12,.none,.none,.none,.none,.int 185 0,.int 1 0,.str "/claim/cut.py" 186] }
noncomputable def o14 (_:Params):Obj:={ cls:=.type "frame",slots:=#[some (.ref 13),some (.ref 3),some (.ref 3),none,some (.str "__main__" 164),none,some (.ref 0)] }
noncomputable def x0 (P:Params):Obj:=⟨(.type "dict"),none,(.dict #[(en P "__name__" 165 (.str "law_sealpress_k56_whole_there_and_back" 631)),(en P "__doc__" 166 .none),(en P "__package__" 167 .none),(en P "__loader__" 168 (.builtin "__main__.__loader__#opaque")),(en P "__spec__" 169 .none),(en P "__annotations__" 170 (.ref 6)),(en P "__builtins__" 171 (.ref 4)),(en P "__file__" 173 (.str "/claim/cut.py" 172)),(en P "__cached__" 174 .none),(en P "LITERAL_BRACES" 195 (.ref 15)),(en P "braced" 202 (.ref 22)),(en P "literal_text" 208 (.ref 27)),(en P "else_text" 215 (.ref 34)),(en P "piece_text" 225 (.ref 41)),(en P "pieces_text" 231 (.ref 46)),(en P "sheet_text" 239 (.ref 53)),(en P "SealError" 259 (.ref 63)),(en P "NoSign" 284 (.ref 83)),(en P "NoSheet" 309 (.ref 102)),(en P "Twice" 334 (.ref 121)),(en P "TooMany" 350 (.ref 133)),(en P "copied" 358 (.ref 140)),(en P "all_in" 368 (.ref 147)),(en P "SIGNS" 372 (.str " !\"#$&'()*+,-./0123456789:;<=>?@ABCDEFGHIJKLMNOPQRSTUVWXYZ[\\]^_`abcdefghijklmnopqrstuvwxyz{|}~" 371)),(en P "LETTERS" 374 (.str "abcdefghijklmnopqrstuvwxyz" 373)),(en P "LONGEST_NAME" 376 (.int 8 375)),(en P "is_name" 382 (.ref 152)),(en P "need_text" 391 (.ref 159)),(en P "MOST_SIGNS" 395 (.int 2000 394)),(en P "MOST_OPENED" 397 (.int 12 396)),(en P "BRACE_WORDS" 406 (.ref 160)),(en P "LONE_TOKENS" 424 (.ref 161)),(en P "OPENERS" 428 (.ref 167)),(en P "Sheet" 465 (.ref 189)),(en P "Opened" 520 (.ref 231)),(en P "Draft" 595 (.ref 287)),(en P "is_own_name" 602 (.ref 298)),(en P "token_of" 610 (.ref 305)),(en P "token_at" 620 (.ref 312)),(en P "sheet_read" 630 (.ref 319)),(en P "_law_cell_at" 640 (.ref 326)),(en P "_law_mixed" 651 (.ref 333)),(en P "_law_rest" 658 (.ref 340)),(en P "_law_signs" 665 (.ref 347)),(en P "_law_names" 684 (.ref 354)),(en P "_law_put" 693 (.ref 361)),(en P "_law_shut" 703 (.ref 368)),(en P "_law_literal" 715 (.ref 375)),(en P "_law_opened" 727 (.ref 382)),(en P "_law_word" 733 (.ref 387)),(en P "_law_token" 745 (.ref 394)),(en P "_law_made" 758 (.ref 401)),(en P "_law_written" 768 (.ref 408)),(en P "law" 785 (.ref 415))] 54),#[]⟩
noncomputable def x1 (P:Params):Obj:=⟨(.type "dict"),none,(.dict #[(en P "{" 189 (.str "{(}" 190)),(en P "}" 191 (.str "{)}" 192))] 2),#[]⟩
noncomputable def x2 (_:Params):Obj:=cO "braced" 196 197 198 3 1 16 17 .none (.ref 18) (.ref 19) (.ref 20) 200 201
noncomputable def x3 (_:Params):Obj:=fO 2 "braced" (.str "sealpress.sheettexts" 187) 21
noncomputable def x4 (_:Params):Obj:=cO "literal_text" 203 204 205 5 1 23 24 .none .none .none (.ref 25) 206 207
noncomputable def x5 (_:Params):Obj:=fO 3 "literal_text" (.str "sealpress.sheettexts" 187) 26
noncomputable def x6 (_:Params):Obj:=cO "else_text" 209 210 211 7 1 28 29 .none (.ref 30) (.ref 31) (.ref 32) 213 214
noncomputable def x7 (_:Params):Obj:=fO 4 "else_text" (.str "sealpress.sheettexts" 187) 33
noncomputable def x8 (_:Params):Obj:=cO "piece_text" 216 217 218 9 1 35 36 .none (.ref 37) (.ref 38) (.ref 39) 223 224
noncomputable def x9 (_:Params):Obj:=fO 5 "piece_text" (.str "sealpress.sheettexts" 187) 40
noncomputable def x10 (_:Params):Obj:=cO "pieces_text" 226 227 228 22 1 42 43 .none .none .none (.ref 44) 229 230
noncomputable def x11 (_:Params):Obj:=fO 6 "pieces_text" (.str "sealpress.sheettexts" 187) 45
noncomputable def x12 (_:Params):Obj:=cO "sheet_text" 232 233 234 24 1 47 48 .none (.ref 49) (.ref 50) (.ref 51) 237 238
noncomputable def x13 (_:Params):Obj:=fO 7 "sheet_text" (.str "sealpress.sheettexts" 187) 52
noncomputable def x14 (_:Params):Obj:=cO "copied" 353 354 355 48 1 136 137 .none .none .none (.ref 138) 356 357
noncomputable def x15 (_:Params):Obj:=fO 15 "copied" (.str "sealpress.pieces" 351) 139
noncomputable def x16 (_:Params):Obj:=cO "all_in" 359 360 361 53 1 141 142 .none (.ref 143) (.ref 144) (.ref 145) 366 367
noncomputable def x17 (_:Params):Obj:=fO 16 "all_in" (.str "sealpress.pieces" 351) 146
noncomputable def x18 (_:Params):Obj:=cO "is_name" 377 378 379 65 1 148 149 .none .none .none (.ref 150) 380 381
noncomputable def x19 (_:Params):Obj:=fO 21 "is_name" (.str "sealpress.signs" 369) 151
noncomputable def x20 (_:Params):Obj:=cO "need_text" 383 384 385 69 1 153 154 .none (.ref 155) (.ref 156) (.ref 157) 389 390
noncomputable def x21 (_:Params):Obj:=fO 22 "need_text" (.str "sealpress.signs" 369) 158
noncomputable def x22 (_:Params):Obj:=⟨(.type "tuple"),none,(.seq #[(.str "each" 398),(.str "if" 399),(.str "else" 400),(.str "end" 401),(.str "block" 402),(.str "elder" 403),(.str "draw" 404),(.str "over" 405)] 0),#[]⟩
noncomputable def x23 (P:Params):Obj:=⟨(.type "dict"),none,(.dict #[(en P "(" 407 (.ref 162)),(en P ")" 410 (.ref 163)),(en P "else" 413 (.ref 164)),(en P "end" 415 (.ref 165)),(en P "elder" 417 (.ref 166))] 5),#[]⟩
noncomputable def x24 (_:Params):Obj:=⟨(.type "tuple"),none,(.seq #[(.str "lit" 408),(.str "{" 409)] 0),#[]⟩
noncomputable def x25 (_:Params):Obj:=⟨(.type "tuple"),none,(.seq #[(.str "lit" 411),(.str "}" 412)] 0),#[]⟩
noncomputable def x26 (_:Params):Obj:=⟨(.type "tuple"),none,(.seq #[(.str "else" 414)] 0),#[]⟩
noncomputable def x27 (_:Params):Obj:=⟨(.type "tuple"),none,(.seq #[(.str "end" 416)] 0),#[]⟩
noncomputable def x28 (_:Params):Obj:=⟨(.type "tuple"),none,(.seq #[(.str "elder" 418)] 0),#[]⟩
noncomputable def x29 (_:Params):Obj:=⟨(.type "tuple"),none,(.seq #[(.str "each" 425),(.str "if" 426),(.str "block" 427)] 0),#[]⟩
noncomputable def x30 (_:Params):Obj:=⟨(.type "code"),none,(.fields #[(.str "__init__" 441),(.str "Sheet.__init__" 442),(.str "/claim/cut.py" 443),(.int 84 0),(.int 3 0),(.int 0 0),(.int 0 0),(.int 3 0),(.ref 175),(.bool true),(.int 181 0),(.ref 176),.none,(.ref 177),(.ref 178),(.ref 179),(.int 447 0),(.int 84 0),(.str "/claim/cut.py" 448)]),#[]⟩
noncomputable def x31 (_:Params):Obj:=⟨(.type "function"),none,(fnO (tc 29 0) "__init__" "Sheet.__init__" 3 [] .none .none .none (.str "sealpress.sheets" 392) none (.ref 180) .none 0),#[]⟩
noncomputable def x32 (_:Params):Obj:=⟨(.type "code"),none,(.fields #[(.str "blocks" 450),(.str "Sheet.blocks" 451),(.str "/claim/cut.py" 452),(.int 88 0),(.int 1 0),(.int 0 0),(.int 0 0),(.int 3 0),(.ref 182),(.bool true),(.int 181 0),(.ref 183),.none,.none,.none,(.ref 184),(.int 453 0),(.int 88 0),(.str "/claim/cut.py" 454)]),#[]⟩
noncomputable def x33 (_:Params):Obj:=⟨(.type "function"),none,(fnO (tc 29 1) "blocks" "Sheet.blocks" 3 [] .none .none .none (.str "sealpress.sheets" 392) none (.ref 185) .none 0),#[]⟩
noncomputable def x34 (P:Params):Obj:=⟨(.type "dict"),none,(.dict #[(en P "__module__" 436 (.str "sealpress.sheets" 392)),(en P "__firstlineno__" 440 (.int 82 439)),(en P "__init__" 449 (.ref 181)),(en P "blocks" 455 (.ref 186)),(en P "__static_attributes__" 458 (.ref 187)),(en P "__dict__" 460 (.ref 190)),(en P "__weakref__" 462 (.ref 191)),(en P "__doc__" 463 .none)] 4),#[]⟩
noncomputable def x35 (_:Params):Obj:=⟨(.type "type"),none,(.cls ⟨"Sheet",[(.type "object")],[(.ref 189),(.type "object")],188,"Sheet",true,[],[],false,none,false⟩),#[none,none,(some (.str "Sheet" 429)),(some (.str "Sheet" 437)),(some (.builtin "object.__new__")),(some (.bool true))]⟩
noncomputable def x36 (_:Params):Obj:=⟨(.type "code"),none,(.fields #[(.str "__init__" 478),(.str "Opened.__init__" 479),(.str "/claim/cut.py" 480),(.int 92 0),(.int 3 0),(.int 0 0),(.int 0 0),(.int 3 0),(.ref 201),(.bool true),(.int 181 0),(.ref 202),.none,(.ref 203),(.ref 204),(.ref 205),(.int 484 0),(.int 92 0),(.str "/claim/cut.py" 485)]),#[]⟩
noncomputable def x37 (_:Params):Obj:=⟨(.type "function"),none,(fnO (tc 30 0) "__init__" "Opened.__init__" 3 [] .none .none .none (.str "sealpress.sheets" 392) none (.ref 206) .none 0),#[]⟩
noncomputable def x38 (_:Params):Obj:=⟨(.type "code"),none,(.fields #[(.str "add_piece" 487),(.str "Opened.add_piece" 488),(.str "/claim/cut.py" 489),(.int 97 0),(.int 2 0),(.int 0 0),(.int 0 0),(.int 3 0),(.ref 208),(.bool true),(.int 181 0),(.ref 209),.none,(.ref 210),(.ref 211),(.ref 212),(.int 493 0),(.int 97 0),(.str "/claim/cut.py" 494)]),#[]⟩
noncomputable def x39 (_:Params):Obj:=⟨(.type "function"),none,(fnO (tc 30 1) "add_piece" "Opened.add_piece" 3 [] .none .none .none (.str "sealpress.sheets" 392) none (.ref 213) .none 0),#[]⟩
noncomputable def x40 (_:Params):Obj:=⟨(.type "code"),none,(.fields #[(.str "takes_else" 496),(.str "Opened.takes_else" 497),(.str "/claim/cut.py" 498),(.int 104 0),(.int 1 0),(.int 0 0),(.int 0 0),(.int 3 0),(.ref 215),(.bool true),(.int 181 0),(.ref 216),.none,(.ref 217),(.ref 218),(.ref 219),(.int 500 0),(.int 104 0),(.str "/claim/cut.py" 501)]),#[]⟩
noncomputable def x41 (_:Params):Obj:=⟨(.type "function"),none,(fnO (tc 30 2) "takes_else" "Opened.takes_else" 3 [] .none .none .none (.str "sealpress.sheets" 392) none (.ref 220) .none 0),#[]⟩
noncomputable def x42 (_:Params):Obj:=⟨(.type "code"),none,(.fields #[(.str "whole" 503),(.str "Opened.whole" 504),(.str "/claim/cut.py" 505),(.int 107 0),(.int 1 0),(.int 0 0),(.int 0 0),(.int 3 0),(.ref 222),(.bool true),(.int 181 0),(.ref 223),.none,(.ref 224),(.ref 225),(.ref 226),(.int 507 0),(.int 107 0),(.str "/claim/cut.py" 508)]),#[]⟩
noncomputable def x43 (_:Params):Obj:=⟨(.type "function"),none,(fnO (tc 30 3) "whole" "Opened.whole" 3 [] .none .none .none (.str "sealpress.sheets" 392) none (.ref 227) .none 0),#[]⟩
noncomputable def x44 (P:Params):Obj:=⟨(.type "dict"),none,(.dict #[(en P "__module__" 473 (.str "sealpress.sheets" 392)),(en P "__firstlineno__" 477 (.int 90 476)),(en P "__init__" 486 (.ref 207)),(en P "add_piece" 495 (.ref 214)),(en P "takes_else" 502 (.ref 221)),(en P "whole" 509 (.ref 228)),(en P "__static_attributes__" 513 (.ref 229)),(en P "__dict__" 515 (.ref 232)),(en P "__weakref__" 517 (.ref 233)),(en P "__doc__" 518 .none)] 4),#[]⟩
noncomputable def x45 (_:Params):Obj:=⟨(.type "type"),none,(.cls ⟨"Opened",[(.type "object")],[(.ref 231),(.type "object")],230,"Opened",true,[],[],false,none,false⟩),#[none,none,(some (.str "Opened" 466)),(some (.str "Opened" 474)),(some (.builtin "object.__new__")),(some (.bool true))]⟩
noncomputable def x46 (_:Params):Obj:=⟨(.type "code"),none,(.fields #[(.str "__init__" 533),(.str "Draft.__init__" 534),(.str "/claim/cut.py" 535),(.int 113 0),(.int 1 0),(.int 0 0),(.int 0 0),(.int 3 0),(.ref 243),(.bool true),(.int 181 0),(.ref 244),.none,(.ref 245),(.ref 246),(.ref 247),(.int 537 0),(.int 113 0),(.str "/claim/cut.py" 538)]),#[]⟩
noncomputable def x47 (_:Params):Obj:=⟨(.type "function"),none,(fnO (tc 31 0) "__init__" "Draft.__init__" 3 [] .none .none .none (.str "sealpress.sheets" 392) none (.ref 248) .none 0),#[]⟩
noncomputable def x48 (_:Params):Obj:=⟨(.type "code"),none,(.fields #[(.str "is_outside" 540),(.str "Draft.is_outside" 541),(.str "/claim/cut.py" 542),(.int 118 0),(.int 1 0),(.int 0 0),(.int 0 0),(.int 3 0),(.ref 250),(.bool true),(.int 181 0),(.ref 251),.none,(.ref 252),(.ref 253),(.ref 254),(.int 544 0),(.int 118 0),(.str "/claim/cut.py" 545)]),#[]⟩
noncomputable def x49 (_:Params):Obj:=⟨(.type "function"),none,(fnO (tc 31 1) "is_outside" "Draft.is_outside" 3 [] .none .none .none (.str "sealpress.sheets" 392) none (.ref 255) .none 0),#[]⟩
noncomputable def x50 (_:Params):Obj:=⟨(.type "code"),none,(.fields #[(.str "can_stand" 547),(.str "Draft.can_stand" 548),(.str "/claim/cut.py" 549),(.int 121 0),(.int 3 0),(.int 0 0),(.int 0 0),(.int 3 0),(.ref 257),(.bool true),(.int 181 0),(.ref 258),.none,(.ref 259),(.ref 260),(.ref 261),(.int 554 0),(.int 121 0),(.str "/claim/cut.py" 555)]),#[]⟩
noncomputable def x51 (_:Params):Obj:=⟨(.type "function"),none,(fnO (tc 31 2) "can_stand" "Draft.can_stand" 3 [] .none .none .none (.str "sealpress.sheets" 392) none (.ref 262) .none 0),#[]⟩
noncomputable def x52 (_:Params):Obj:=⟨(.type "code"),none,(.fields #[(.str "begin_piece" 557),(.str "Draft.begin_piece" 558),(.str "/claim/cut.py" 559),(.int 135 0),(.int 3 0),(.int 0 0),(.int 0 0),(.int 3 0),(.ref 264),(.bool true),(.int 181 0),(.ref 265),.none,(.ref 266),(.ref 267),(.ref 268),(.int 563 0),(.int 135 0),(.str "/claim/cut.py" 564)]),#[]⟩
noncomputable def x53 (_:Params):Obj:=⟨(.type "function"),none,(fnO (tc 31 3) "begin_piece" "Draft.begin_piece" 3 [] .none .none .none (.str "sealpress.sheets" 392) none (.ref 269) .none 0),#[]⟩
noncomputable def x54 (_:Params):Obj:=⟨(.type "code"),none,(.fields #[(.str "take" 566),(.str "Draft.take" 567),(.str "/claim/cut.py" 568),(.int 144 0),(.int 3 0),(.int 0 0),(.int 0 0),(.int 3 0),(.ref 271),(.bool true),(.int 181 0),(.ref 272),.none,(.ref 273),(.ref 274),(.ref 275),(.int 574 0),(.int 144 0),(.str "/claim/cut.py" 575)]),#[]⟩
noncomputable def x55 (_:Params):Obj:=⟨(.type "function"),none,(fnO (tc 31 4) "take" "Draft.take" 3 [] .none .none .none (.str "sealpress.sheets" 392) none (.ref 276) .none 0),#[]⟩
noncomputable def x56 (_:Params):Obj:=⟨(.type "code"),none,(.fields #[(.str "ended" 577),(.str "Draft.ended" 578),(.str "/claim/cut.py" 579),(.int 160 0),(.int 2 0),(.int 0 0),(.int 0 0),(.int 3 0),(.ref 278),(.bool true),(.int 181 0),(.ref 279),.none,(.ref 280),(.ref 281),(.ref 282),(.int 582 0),(.int 160 0),(.str "/claim/cut.py" 583)]),#[]⟩
noncomputable def x57 (_:Params):Obj:=⟨(.type "function"),none,(fnO (tc 31 5) "ended" "Draft.ended" 3 [] .none .none .none (.str "sealpress.sheets" 392) none (.ref 283) .none 0),#[]⟩
noncomputable def x58 (P:Params):Obj:=⟨(.type "dict"),none,(.dict #[(en P "__module__" 528 (.str "sealpress.sheets" 392)),(en P "__firstlineno__" 532 (.int 111 531)),(en P "__init__" 539 (.ref 249)),(en P "is_outside" 546 (.ref 256)),(en P "can_stand" 556 (.ref 263)),(en P "begin_piece" 565 (.ref 270)),(en P "take" 576 (.ref 277)),(en P "ended" 584 (.ref 284)),(en P "__static_attributes__" 588 (.ref 285)),(en P "__dict__" 590 (.ref 288)),(en P "__weakref__" 592 (.ref 289)),(en P "__doc__" 593 .none)] 4),#[]⟩
noncomputable def x59 (_:Params):Obj:=⟨(.type "type"),none,(.cls ⟨"Draft",[(.type "object")],[(.ref 287),(.type "object")],286,"Draft",true,[],[],false,none,false⟩),#[none,none,(some (.str "Draft" 521)),(some (.str "Draft" 529)),(some (.builtin "object.__new__")),(some (.bool true))]⟩
noncomputable def x60 (_:Params):Obj:=cO "is_own_name" 596 597 598 164 1 292 293 .none (.ref 294) (.ref 295) (.ref 296) 600 601
noncomputable def x61 (_:Params):Obj:=fO 32 "is_own_name" (.str "sealpress.sheets" 392) 297
noncomputable def x62 (_:Params):Obj:=cO "token_of" 603 604 605 166 1 299 300 .none (.ref 301) (.ref 302) (.ref 303) 608 609
noncomputable def x63 (_:Params):Obj:=fO 33 "token_of" (.str "sealpress.sheets" 392) 304
noncomputable def x64 (_:Params):Obj:=cO "token_at" 611 612 613 177 2 306 307 .none (.ref 308) (.ref 309) (.ref 310) 618 619
noncomputable def x65 (_:Params):Obj:=fO 34 "token_at" (.str "sealpress.sheets" 392) 311
noncomputable def x66 (_:Params):Obj:=cO "sheet_read" 621 622 623 187 1 313 314 .none (.ref 315) (.ref 316) (.ref 317) 628 629
noncomputable def x67 (_:Params):Obj:=fO 35 "sheet_read" (.str "sealpress.sheets" 392) 318
noncomputable def x68 (_:Params):Obj:=cO "_law_cell_at" 633 634 635 199 2 320 321 .none (.ref 322) (.ref 323) (.ref 324) 638 639
noncomputable def x69 (_:Params):Obj:=fO 37 "_law_cell_at" (.str "law_sealpress_k56_whole_there_and_back" 631) 325
noncomputable def x70 (_:Params):Obj:=cO "_law_mixed" 641 642 643 203 2 327 328 .none (.ref 329) (.ref 330) (.ref 331) 649 650
noncomputable def x71 (_:Params):Obj:=fO 38 "_law_mixed" (.str "law_sealpress_k56_whole_there_and_back" 631) 332
noncomputable def x72 (_:Params):Obj:=cO "_law_rest" 652 653 654 208 1 334 335 .none (.ref 336) (.ref 337) (.ref 338) 656 657
noncomputable def x73 (_:Params):Obj:=fO 39 "_law_rest" (.str "law_sealpress_k56_whole_there_and_back" 631) 339
noncomputable def x74 (_:Params):Obj:=cO "_law_signs" 659 660 661 212 0 341 342 .none (.ref 343) (.ref 344) (.ref 345) 663 664
noncomputable def x75 (_:Params):Obj:=fO 40 "_law_signs" (.str "law_sealpress_k56_whole_there_and_back" 631) 346
noncomputable def x76 (_:Params):Obj:=cO "_law_names" 666 667 668 215 2 348 349 .none (.ref 350) (.ref 351) (.ref 352) 682 683
noncomputable def x77 (_:Params):Obj:=fO 41 "_law_names" (.str "law_sealpress_k56_whole_there_and_back" 631) 353
noncomputable def x78 (_:Params):Obj:=cO "_law_put" 685 686 687 234 2 355 356 .none (.ref 357) (.ref 358) (.ref 359) 691 692
noncomputable def x79 (_:Params):Obj:=fO 42 "_law_put" (.str "law_sealpress_k56_whole_there_and_back" 631) 360
noncomputable def x80 (_:Params):Obj:=cO "_law_shut" 694 695 696 239 1 362 363 .none (.ref 364) (.ref 365) (.ref 366) 701 702
noncomputable def x81 (_:Params):Obj:=fO 43 "_law_shut" (.str "law_sealpress_k56_whole_there_and_back" 631) 367
noncomputable def x82 (_:Params):Obj:=cO "_law_literal" 704 705 706 244 2 369 370 .none (.ref 371) (.ref 372) (.ref 373) 713 714
noncomputable def x83 (_:Params):Obj:=fO 44 "_law_literal" (.str "law_sealpress_k56_whole_there_and_back" 631) 374
noncomputable def x84 (_:Params):Obj:=cO "_law_opened" 716 717 718 256 4 376 377 .none (.ref 378) (.ref 379) (.ref 380) 725 726
noncomputable def x85 (_:Params):Obj:=fO 45 "_law_opened" (.str "law_sealpress_k56_whole_there_and_back" 631) 381
noncomputable def x86 (_:Params):Obj:=cO "_law_word" 728 729 730 265 4 383 384 .none .none .none (.ref 385) 731 732
noncomputable def x87 (_:Params):Obj:=fO 46 "_law_word" (.str "law_sealpress_k56_whole_there_and_back" 631) 386
noncomputable def x88 (_:Params):Obj:=cO "_law_token" 734 735 736 284 5 388 389 .none (.ref 390) (.ref 391) (.ref 392) 743 744
noncomputable def x89 (_:Params):Obj:=fO 47 "_law_token" (.str "law_sealpress_k56_whole_there_and_back" 631) 393
noncomputable def x90 (_:Params):Obj:=cO "_law_made" 746 747 748 293 2 395 396 .none (.ref 397) (.ref 398) (.ref 399) 756 757
noncomputable def x91 (_:Params):Obj:=fO 48 "_law_made" (.str "law_sealpress_k56_whole_there_and_back" 631) 400
noncomputable def x92 (_:Params):Obj:=cO "_law_written" 759 760 761 304 1 402 403 .none (.ref 404) (.ref 405) (.ref 406) 766 767
noncomputable def x93 (_:Params):Obj:=fO 49 "_law_written" (.str "law_sealpress_k56_whole_there_and_back" 631) 407
noncomputable def x94 (_:Params):Obj:=cO "law" 769 770 771 320 1 409 410 .none (.ref 411) (.ref 412) (.ref 413) 783 784
noncomputable def x95 (_:Params):Obj:=fO 50 "law" (.str "law_sealpress_k56_whole_there_and_back" 631) 414
noncomputable def kh0 (P:Params):Le:=[(2,boot_o_2 P),(3,x0 P),(15,x1 P),(21,x2 P),(22,x3 P),(26,x4 P),(27,x5 P),(33,x6 P),(34,x7 P),(40,x8 P),(41,x9 P),(45,x10 P)]
noncomputable def kh1 (P:Params):Le:=[(46,x11 P),(52,x12 P),(53,x13 P),(139,x14 P),(140,x15 P),(146,x16 P),(147,x17 P),(151,x18 P),(152,x19 P),(158,x20 P),(159,x21 P),(160,x22 P)]
noncomputable def kh2 (P:Params):Le:=[(161,x23 P),(162,x24 P),(163,x25 P),(164,x26 P),(165,x27 P),(166,x28 P),(167,x29 P),(180,x30 P),(181,x31 P),(185,x32 P),(186,x33 P),(188,x34 P)]
noncomputable def kh3 (P:Params):Le:=[(189,x35 P),(206,x36 P),(207,x37 P),(213,x38 P),(214,x39 P),(220,x40 P),(221,x41 P),(227,x42 P),(228,x43 P),(230,x44 P),(231,x45 P),(248,x46 P)]
noncomputable def kh4 (P:Params):Le:=[(249,x47 P),(255,x48 P),(256,x49 P),(262,x50 P),(263,x51 P),(269,x52 P),(270,x53 P),(276,x54 P),(277,x55 P),(283,x56 P),(284,x57 P),(286,x58 P)]
noncomputable def kh5 (P:Params):Le:=[(287,x59 P),(297,x60 P),(298,x61 P),(304,x62 P),(305,x63 P),(311,x64 P),(312,x65 P),(318,x66 P),(319,x67 P),(325,x68 P),(326,x69 P),(332,x70 P)]
noncomputable def kh6 (P:Params):Le:=[(333,x71 P),(339,x72 P),(340,x73 P),(346,x74 P),(347,x75 P),(353,x76 P),(354,x77 P),(360,x78 P),(361,x79 P),(367,x80 P),(368,x81 P),(374,x82 P)]
noncomputable def kh7 (P:Params):Le:=[(375,x83 P),(381,x84 P),(382,x85 P),(386,x86 P),(387,x87 P),(393,x88 P),(394,x89 P),(400,x90 P),(401,x91 P),(407,x92 P),(408,x93 P),(414,x94 P)]
noncomputable def kh8 (P:Params):Le:=[(415,x95 P)]
noncomputable def KH (P:Params):Le:=kh0 P++(kh1 P++(kh2 P++(kh3 P++(kh4 P++(kh5 P++(kh6 P++(kh7 P++(kh8 P))))))))
noncomputable def asL:Ld:=[2,3,15,21,22,26,27,33,34,40,41,45,46,52,53,139,140,146,147,151,152,158,159,160,161,162,163,164,165,166,167,180,181,185,186,188,189,206,207,213,214,220,221,227,228,230,231,248,249,255,256,262,263,269,270,276,277,283,284,286,287,297,298,304,305,311,312,318,319,325,326,332,333,339,340,346,347,353,354,360,361,367,368,374,375,381,382,386,387,393,394,400,401,407,408,414,415]
theorem zij (P:Params):asL=(KH P).map (λp=>p.1):=by kernel_rfl
@[reducible] noncomputable def HK:Hook:=kHook KH asL zij
noncomputable def obs0 (s:Shared):List (Option Obj):=asL.map s.heap.get?
noncomputable def val0 (w:World):List (Option Obj):=(KH w.params).map λp=>some p.2
noncomputable def tb0 (P:Params):BT:=.node (boot_o_0 P) (.node (boot_o_1 P) (.node (boot_o_3 P) (.node (boot_o_7 P) .nil .nil) (.node (o11 P) .nil .nil)) (.node (boot_o_5 P) (.node (boot_o_9 P) .nil .nil) (.node (o13 P) .nil .nil)))
 (.node (boot_o_2 P) (.node (boot_o_4 P) (.node (boot_o_8 P) .nil .nil) (.node (o12 P) .nil .nil)) (.node (boot_o_6 P) (.node (boot_o_10 P) .nil .nil) (.node (o14 P) .nil .nil)))
noncomputable def sB (w:World)(os:OsState):SharedT:=⟨tb0 w.params,15,{},#[],{},187,os⟩
noncomputable def env0:Env:={ scope:=pw.main.scope,locals:=mainNs,globals:=mainNs,cells:=[],code:=.ref 13,frame:=some 14 }
noncomputable def zbL:List Stmt:=behindTheImports pw
noncomputable def cE:Code:=.body zbL env0
noncomputable def pos0:Pos:=⟨0,0,0,0⟩
noncomputable def B0:List Frame:=[topFrame pos0]
noncomputable def ann0:Option Value:=some (.ref 6)
noncomputable def qvw:Program:=view pw [1,2,3,4,5,6,7,9,10,11,12,13,15,16,18,19,20,21,22,24,25,26,27,28,29,30,31,32,33,34,35,37,38,39,40,41,42,43,44,45,46,47,48,49,50]
noncomputable def loose0:Lh:=["LITERAL_BRACES","LONE_TOKENS"]
noncomputable def mods:Lh:=importedModules pw.main.body
noncomputable def Xt0 (s:Shared):Bool:=xlAt qvw [] s&&recOk (RowW.records (OpenRow.toRowW (OpenLaw.row PySem.Challenge.rw_sealpress_k56_whole_there_and_back))) s
noncomputable def zft (w:World)(r:Flow×SharedT×Code×Pos):=(r.1,r.2.2.1,(staticsOk mods (boot_heap w.params) r.2.1.abs.heap&&namesBound pw r.2.1.abs.heap&&gensDone r.2.1.abs&&laidKept (boot_heap w.params) r.2.1.abs.heap),obs0 r.2.1.abs)
noncomputable def zik (r:Flow×SharedT×Code×Pos):=openSeen qvw loose0 mods Xt0 true r.2.1.abs
noncomputable def ck0:List Stmt:=zbL
noncomputable def lhs (w:World)(os:OsState):=(segRunT treeTable pw w 11 ann0 1 3330 (sB w os) (piecesOf ck0 env0 cE pos0 B0)).map (zft w)
noncomputable def rhs (w:World)(_:OsState):=some (Flow.next,cE,true,val0 w)
noncomputable def lhsG (w:World)(os:OsState):=(segRunT treeTable pw w 11 ann0 1 3330 (sB w os) (piecesOf ck0 env0 cE pos0 B0)).map zik
noncomputable def rhsG (_:World)(_:OsState):=some (openGood qvw loose0)
theorem zil:@lhs = @lhs:=rfl
theorem zim:@rhs = @rhs:=rfl
name_quick lhsQ for My.lhs by My.zil
name_quick rhsQ for My.rhs by My.zim
theorem krf (w:World):PySem.W.Fast.lhsQ (w.withFollow "special-get-raises" false)=PySem.W.Fast.rhsQ (w.withFollow "special-get-raises" false):=by kernel_rfl
theorem krt (w:World):PySem.W.Fast.lhsQ (w.withFollow "special-get-raises" true)=PySem.W.Fast.rhsQ (w.withFollow "special-get-raises" true):=by kernel_rfl
theorem kr (w:World):PySem.W.Fast.lhsQ w=PySem.W.Fast.rhsQ w:=byRow2 "special-get-raises" (P:=λw=>PySem.W.Fast.lhsQ w=PySem.W.Fast.rhsQ w) krf krt w
theorem zdY (w:World):lhs w=rhs w:=(congrFun PySem.W.Fast.lhsQ_eq w).trans ((kr w).trans (congrFun PySem.W.Fast.rhsQ_eq w).symm)
theorem zf3:@lhsG = @lhsG:=rfl
theorem zf4:@rhsG = @rhsG:=rfl
name_quick lhsGQ for My.lhsG by My.zf3
name_quick rhsGQ for My.rhsG by My.zf4
theorem krfG (w:World):PySem.W.Fast.lhsGQ (w.withFollow "special-get-raises" false)=PySem.W.Fast.rhsGQ (w.withFollow "special-get-raises" false):=by kernel_rfl
theorem krtG (w:World):PySem.W.Fast.lhsGQ (w.withFollow "special-get-raises" true)=PySem.W.Fast.rhsGQ (w.withFollow "special-get-raises" true):=by kernel_rfl
theorem krG (w:World):PySem.W.Fast.lhsGQ w=PySem.W.Fast.rhsGQ w:=byRow2 "special-get-raises" (P:=λw=>PySem.W.Fast.lhsGQ w=PySem.W.Fast.rhsGQ w) krfG krtG w
theorem zbM (w:World):lhsG w=rhsG w:=(congrFun PySem.W.Fast.lhsGQ_eq w).trans ((krG w).trans (congrFun PySem.W.Fast.rhsGQ_eq w).symm)
noncomputable def lhs1 (w:World)(os:OsState):=topGo treeTable pw w 11 ann0 12 ⟨boot_heap w.params,#[],boot_drawn,boot_toks,os⟩ (topStub pw)
noncomputable def rhs1 (w:World)(os:OsState):Option (Shared×Thread):=some ((sB w os).abs,⟨denote treeTable cE,cE,pos0,B0⟩)
theorem zf5:@lhs1 = @lhs1:=rfl
theorem zf6:@rhs1 = @rhs1:=rfl
name_quick lhs1Q for My.lhs1 by My.zf5
name_quick rhs1Q for My.rhs1 by My.zf6
theorem kr1 (w:World):PySem.W.Fast.lhs1Q w=PySem.W.Fast.rhs1Q w:=by kernel_rfl
theorem zin (w:World):lhs1 w=rhs1 w:=(congrFun PySem.W.Fast.lhs1Q_eq w).trans ((kr1 w).trans (congrFun PySem.W.Fast.rhs1Q_eq w).symm)
noncomputable def lhs2 (w:World)(os:OsState):=segRun treeTable pw w 11 ann0 1 1 (sB w os).abs (blockOf zbL env0 cE pos0 B0)
noncomputable def rhs2 (w:World)(os:OsState):Option (Flow×Shared×Code×Pos):=some (.next,(sB w os).abs,cE,pos0)
theorem zf7:@lhs2 = @lhs2:=rfl
theorem zf8:@rhs2 = @rhs2:=rfl
name_quick lhs2Q for My.lhs2 by My.zf7
name_quick rhs2Q for My.rhs2 by My.zf8
theorem kr2 (w:World):PySem.W.Fast.lhs2Q w=PySem.W.Fast.rhs2Q w:=by kernel_rfl
theorem zio (w:World):lhs2 w=rhs2 w:=(congrFun PySem.W.Fast.lhs2Q_eq w).trans ((kr2 w).trans (congrFun PySem.W.Fast.rhs2Q_eq w).symm)
noncomputable def lhs3 (w:World):Bool×Nat×Option Value:=((boot_heap w.params).isNs mainGlobals&&(#[]:Array GenState).size == 0,(boot_heap w.params).objs.size,(boot_heap w.params).nsMap mainGlobals "__annotations__")
theorem zf9:@lhs3 = @lhs3:=rfl
name_quick lhs3Q for My.lhs3 by My.zf9
theorem kr3 (w:World):PySem.W.Fast.lhs3Q w=(true,11,ann0):=by kernel_rfl
theorem ziq (w:World):lhs3 w=(true,11,ann0):=(congrFun PySem.W.Fast.lhs3Q_eq w).trans (kr3 w)
theorem fin0 (w:World)(s:Shared)(q:Pos):topRun treeTable pw w 11 ann0 2 s (restOf [] env0 cE q B0)=some s:=rfl
theorem zdZ (w:World)(os:OsState):∃ s:Shared,topRun treeTable pw w 11 ann0 (12+(1+(3330+2))) ⟨boot_heap w.params,#[],boot_drawn,boot_toks,os⟩ (topStub pw)=some s /\
  (staticsOk mods (boot_heap w.params) s.heap&&namesBound pw s.heap&&gensDone s&&laidKept (boot_heap w.params) s.heap)=true/\openSeen qvw loose0 mods Xt0 true s=openGood qvw loose0/\obs0 s=val0 w:=by
 obtain⟨⟨f,s,c,q⟩,hr,hF⟩:=uz.mp (congrFun (zdY w) os)
 unfold zft at hF
 simp only [Gg] at hF
 obtain⟨rfl,rfl,h1,h3⟩:=hF
 have h2:openSeen qvw loose0 mods Xt0 true s.abs=openGood qvw loose0:=by
  have hG:=congrFun (zbM w) os
  unfold lhsG rhsG at hG
  rw [hr,Uo] at hG
  exact uG hG
 refine⟨s.abs,?_,h1,h2,h3⟩
 refine go_top (congrFun (zin w) os) (piece_block (congrFun (zio w) os) ?_)
 have k:=piece_app (segRun_of hr) (fin0 w s.abs q)
 rw [uk] at k
 exact k
theorem zir (w:World):(fencedOpening treeTable pw w 3445).map (λs=>(s.heap,s.gens,s.drawn,s.toks))=some (boot_heap w.params,Array.mk [],boot_drawn,boot_toks):=boot_open (p:=pw) (N:=3445) (by kernel_rfl) (by kernel_rfl) (λ_=>rfl) w
theorem left:LeftO pw qvw loose0 Xt0 HK.obs HK.val 3445:=L2.left_run (M:=12+(1+(3330+2))) (m0:=11) (ann:=ann0) zir ziq zdZ (by decide)
end My
set_option maxHeartbeats 1000000
namespace L2
open PySem PySem.Spec PyProof.Rows
noncomputable abbrev Key:=Sum Int Str
noncomputable def Q5:Key->Value->Bool
 | .inl k,v=>Value.isInt k v
 | .inr x,v=>Value.isStrOf x v
noncomputable def keyH (w:World):Key->Int
 | .inl k=>hashInt k
 | .inr x=>hashStr w x
theorem qi:∀ {k:Key} {v:Value},Q5 k v=true->(∃ i t,k=Sum.inl i/\v=Value.int i t)\/(∃ x t,k=Sum.inr x/\v=Value.str x t)
 | .inl i,v,h=>by
  obtain⟨t,e⟩:=Value.isInt_shape (k:=i) (v:=v) h
  exact .inl ⟨i,t,rfl,e⟩
 | .inr x,v,h=>by
  obtain⟨t,e⟩:=Value.isStrOf_shape (x:=x) (v:=v) h
  exact .inr ⟨x,t,rfl,e⟩
theorem zaV (i:Int)(t:Tok):Q5 (.inl i) (.int i t)=true:=by simp [Q5,Value.isInt]
theorem zaW (x:Str)(t:Tok):Q5 (.inr x) (.str x t)=true:=by simp [Q5,Value.isStrOf]
theorem zga (a b:Int):decide ((Sum.inl a:Key)=Sum.inl b)=(a == b):=by
 by_cases e:a=b
 ·subst e;simp
 ·have h:¬ (Sum.inl a:Key)=Sum.inl b:=λq=>e (Sum.inl.inj q)
  rw [uq h]
  exact(u3.mpr e).symm
theorem zgb (a b:Str):decide ((Sum.inr a:Key)=Sum.inr b)=decide (a=b):=by
 by_cases e:a=b
 ·subst e;simp
 ·have h:¬ (Sum.inr a:Key)=Sum.inr b:=λq=>e (Sum.inr.inj q)
  rw [uq h,uq e]
theorem zgc (a:Int)(b:Str):decide ((Sum.inl a:Key)=Sum.inr b)=false:=uq (λq=>nomatch q)
theorem zgd (a:Str)(b:Int):decide ((Sum.inr a:Key)=Sum.inl b)=false:=uq (λq=>nomatch q)
noncomputable def zE (prog:Program)(w:World):PySem.KeyKind prog w Key where
 is:=Q5
 hash:=keyH w
 inj:=λv a b ha hb=>by
  rcases qi ha with⟨i,t,rfl,rfl⟩ | ⟨x,t,rfl,rfl⟩
  ·rcases qi hb with⟨j,u,rfl,e⟩ | ⟨y,u,rfl,e⟩
   ·injection e with e1 _;rw [e1]
   ·exact nomatch e
  ·rcases qi hb with⟨j,u,rfl,e⟩ | ⟨y,u,rfl,e⟩
   ·exact nomatch e
   ·injection e with e1 _;rw [e1]
 byValue:=λk v h=>by
  rcases qi h with⟨i,t,rfl,rfl⟩ | ⟨x,t,rfl,rfl⟩<;>rfl
 pyHash:=λhv h=>by
  rcases qi hv with⟨i,t,rfl,rfl⟩ | ⟨x,t,rfl,rfl⟩
  ·exact wpAny_pyHash_int h
  ·exact wpAny_pyHash_str h
 eqBool:=λhu hv h=>by
  rcases qi hu with⟨i,t,rfl,rfl⟩ | ⟨x,t,rfl,rfl⟩
  ·rcases qi hv with⟨j,u,rfl,rfl⟩ | ⟨y,u,rfl,rfl⟩
   ·rw [zga] at h;exact wpAny_eqBool_int h
   ·rw [zgc] at h;exact SeqAt.EqAt.int_str i t y u _ _ _ _ h
  ·rcases qi hv with⟨j,u,rfl,rfl⟩ | ⟨y,u,rfl,rfl⟩
   ·rw [zgd] at h;exact SeqAt.EqAt.str_int x t j u _ _ _ _ h
   ·rw [zgb] at h;exact wpAny_eqBool_str h
 «strs»:=λk x t v h=>by
  rcases qi h with⟨i,u,rfl,e⟩ | ⟨y,u,rfl,e⟩
  ·exact nomatch e
  ·injection e with e1 _
   subst e1
   cases v<;>rfl
theorem VB (prog:Program)(w:World)(i:Int)(t:Tok):(zE prog w).is (.inl i) (.int i t)=true:=zaV i t
theorem VC (prog:Program)(w:World)(x:Str)(t:Tok):(zE prog w).is (.inr x) (.str x t)=true:=zaW x t
inductive V where
 | non | bl (b:Bool) | int (i:Int) | str (x:Str) | byt (b:Array UInt8) | flt (b:UInt64) | ref (a:Addr) | ty (n:String)
 deriving DecidableEq
noncomputable def RelV:V->Value->Prop
 | .non,u=>u=Value.none
 | .bl b,u=>u=Value.bool b
 | .int i,u=>∃ t,u=Value.int i t
 | .str x,u=>∃ t,u=Value.str x t
 | .byt b,u=>∃ t,u=Value.bytes b t
 | .flt b,u=>∃ t,u=Value.float b t
 | .ref a,u=>u=Value.ref a
 | .ty n,u=>u=Value.type n
noncomputable abbrev Vals:List V->Lf->Prop:=Paired RelV
theorem Vals.length {xs:List V}{us:Lf}(r:Vals xs us):xs.length=us.length:=Paired.length r
theorem Vals.get:∀ {xs:List V} {us:Lf} {i:Nat} {x:V},Vals xs us->xs[i]? = some x->∃ u,us[i]? = some u/\RelV x u
 | _,_,_,_,.nil,e=>by simp at e
 | _,_,0,_,.cons r _,e=>by simp at e;subst e;exact⟨_,rfl,r⟩
 | _,_,i+1,x,.cons _ t,e=>by
  obtain⟨u,h1,h2⟩:=Vals.get (i:=i) (x:=x) t (by simpa using e)
  exact⟨u,by simpa using h1,h2⟩
theorem Vals.set {x:V}{u:Value}(r:RelV x u):∀ {xs:List V} {us:Lf} (i:Nat),Vals xs us->Vals (xs.set i x) (us.set i u)
 | _,_,_,.nil=>.nil
 | _,_,0,.cons _ t=>.cons r t
 | _,_,i+1,.cons q t=>.cons q (Vals.set r i t)
theorem Vals.append:∀ {xs ys:List V} {us ws:Lf},Vals xs us->Vals ys ws->Vals (xs++ys) (us++ws)
 | _,_,_,_,.nil,s=>s
 | _,_,_,_,.cons r t,s=>.cons r (Vals.append t s)
theorem Vals.take:∀ {xs:List V} {us:Lf} (n:Nat),Vals xs us->Vals (xs.take n) (us.take n)
 | _,_,0,_=>.nil
 | _,_,_+1,.nil=>.nil
 | _,_,n+1,.cons r t=>.cons r (Vals.take n t)
theorem Vals.drop:∀ {xs:List V} {us:Lf} (n:Nat),Vals xs us->Vals (xs.drop n) (us.drop n)
 | _,_,0,r=>r
 | _,_,_+1,.nil=>.nil
 | _,_,n+1,.cons _ t=>Vals.drop n t
noncomputable def RelO:Option V->Option Value->Prop
 | some v,some u=>RelV v u
 | none,none=>True
 | _,_=>False
noncomputable def KV {κ:Type}:List (κ×V)->List (κ×Value)->Prop:=Paired λ(p:κ×V) (q:κ×Value)=>p.1=q.1/\RelV p.2 q.2
noncomputable def kV:Key->V
 | .inl i=>.int i
 | .inr x=>.str x
inductive HO where
 | lst (xs:List V)
 | tup (xs:List V)
 | dK (kvs:List (Key×V)) | dT (kvs:List (List Key×V))
 | set (S:Int->Bool) (n:Nat)
 | ins (C dx:Addr) (fs:List (Str×V))
 | own (x:Addr)
 | xd (fs:List (Str×V))
 | met (f x:Addr)
 | rng (lo hi:Int)
 | frz (o:Obj) (u:HO)
 | tbl (ps:Array Value)
 | ext (φ:Heap->Prop)
noncomputable abbrev Hp:=Addr->Option HO
noncomputable def upd (H:Hp)(a:Addr)(o:HO):Hp:=λb=>if b=a then some o else H b
theorem jY {H:Hp}{a:Addr}{o:HO}:upd H a o a=some o:=by unfold upd;rw [uw rfl]
theorem zU {H:Hp}{a b:Addr}{o:HO}(h:b≠a):upd H a o b=H b:=by unfold upd;rw [uv h]
theorem zd0 {H:Hp}{a:Addr}{o u:HO}:upd (upd H a o) a u=upd H a u:=by
 funext b;unfold upd;split<;>rfl
theorem zis {H:Hp}{a b:Addr}{o u:HO}(h:H a=some o)(h':H b=some u)(d:o≠u):a≠b:=by
 intro e;subst e;rw [h] at h';exact d (uG h')
theorem wt {H:Hp}{a b:Addr}{o:HO}(h:H a=some o)(h':H b=none):a≠b:=by
 intro e;subst e;rw [h] at h';cases h'
section
variable (P:Program) (w:World)
noncomputable def zZ (H:Hp)(h:Heap)(a:Addr):HO->Prop
 | .lst xs=>xs.length<=sizeLine/\∃ (its:Lf) (n:Nat),Vals xs its/\h.get? a=some { cls:=.type "list",data:=.seq its.toArray n }
 | .tup xs=>xs.length<=sizeLine/\∃ its:Lf,Vals xs its/\IsTup h a its.toArray
 | .dK kvs=>kvs.length<=sizeLine/\(a == sysModules)=false/\∃ vs,KV kvs vs/\h.DictOf (zE P w) a vs
 | .dT kvs=>kvs.length<=sizeLine/\(a == sysModules)=false/\∃ xs:List (List Key×Addr×Value),
   Paired (λ(p:List Key×V) (q:List Key×Addr×Value)=>p.1=q.1/\H q.2.1=some (.tup (p.1.map kV))/\RelV p.2 q.2.2) kvs xs /\
   ∃ o es ep,h.get? a=some o/\o.ExactDict/\o.data=.dict es ep/\es.toList=xs.map (entryOfKey (tupleKind (zE P w)))/\(xs.map (·.1)).Nodup
 | .set S n=>h.SetOf (intKind P w) a S n
 | .ins C dx fs=>H dx=some (.own a)/\fs.length<=1000/\dx≠a/\h.get? a=some (PySem.W.instObj C dx) /\
   ∃ mA,h.Ns1 dx mA/\(∀ f,RelO (fs.lookup f) (mA f))/\PySem.Within mA (fs.map (·.1))
 | .own _=>∃ o,h.get? a=some o
 | .xd fs=>∃ mA,h.Ns1 a mA/\∀ f,RelO (fs.lookup f) (mA f)
 | .rng lo hi=>∃ t u v,h.get? a=some { cls:=.type "range",data:=.fields #[.int lo t,.int hi u,.int 1 v] }
 | .frz o u=>h.get? a=some o/\zZ H h a u
 | .tbl ps=>h.get? a=some { cls:=.none,data:=.fields ps }
 | .met f x=>h.get? a=some (PySem.W.methodObj (.ref f) (.ref x))
 | .ext φ=>φ h/\(∃ o,h.get? a=some o)/\∀ h1 h2:Heap,φ h1->(∀ o,h1.get? a=some o->h2.get? a=some o)->φ h2
def HOk (H:Hp)(h:Heap):Prop:=∀ a o,H a=some o->zZ P w H h a o
end
section
variable {P:Program} {w:World} {H H':Hp} {h h':Heap} {a:Addr} {o:HO}
theorem zZ.lt (x:zZ P w H h a o):a<h.objs.size:=by
 cases o with
 | lst xs=>obtain⟨_,_,_,_,e⟩:=x;exact Heap.lt_size e
 | tup xs=>obtain⟨_,_,_,p⟩:=x;exact p.lt
 | dK kvs=>obtain⟨_,_,_,_,o,_,_,e,_⟩:=x;exact Heap.lt_size e
 | dT kvs=>obtain⟨_,_,_,_,o,_,_,e,_⟩:=x;exact Heap.lt_size e
 | set S n=>obtain⟨o,_,_,_,e,_⟩:=x;exact Heap.lt_size e
 | ins C dx fs=>obtain⟨_,_,_,e,_⟩:=x;exact Heap.lt_size e
 | own y=>obtain⟨_,e⟩:=x;exact Heap.lt_size e
 | xd fs=>obtain⟨_,⟨_,_,_,e,_⟩,_⟩:=x;exact Heap.lt_size e
 | rng lo hi=>obtain⟨_,_,_,e⟩:=x;exact Heap.lt_size e
 | frz ob u=>obtain⟨e,_⟩:=x;exact Heap.lt_size e
 | tbl ps=>exact Heap.lt_size (show h.get? a=some _ from x)
 | met f y=>exact Heap.lt_size (show h.get? a=some _ from x)
 | ext φ=>obtain⟨_,⟨_,e⟩,_⟩:=x;exact Heap.lt_size e
theorem Paired.mapP {α β:Type}{F G:α->β->Prop}:∀ {l₁:List α} {l₂:List β},Paired F l₁ l₂->(∀ a b,F a b->G a b)->Paired G l₁ l₂
 | _,_,.nil,_=>.nil
 | _,_,.cons r t,f=>.cons (f _ _ r) (Paired.mapP t f)
theorem zZ.stay (x:zZ P w H h a o)(k:∀ b u,(b=a\/H b=some (.own a))->h.get? b=some u->h'.get? b=some u)
  (ho:∀ b,H b=some (.own a)->H' b=some (.own a)) (ht:∀ b xs,H b=some (.tup xs)->H' b=some (.tup xs)):zZ P w H' h' a o:=by
 induction o with
 | lst xs=>obtain⟨z,its,n,r,e⟩:=x;exact⟨z,its,n,r,k _ _ (.inl rfl) e⟩
 | tup xs=>obtain⟨z,its,r,ob,e,c⟩:=x;exact⟨z,its,r,ob,k _ _ (.inl rfl) e,c⟩
 | dK kvs=>obtain⟨z,y,vs,r,ob,es,ep,e,c⟩:=x;exact⟨z,y,vs,r,ob,es,ep,k _ _ (.inl rfl) e,c⟩
 | dT kvs=>
  obtain⟨z,y,xs,r,ob,es,ep,e,c⟩:=x
  exact⟨z,y,xs,Paired.mapP r λp q z=>⟨z.1,ht _ _ z.2.1,z.2.2⟩,ob,es,ep,k _ _ (.inl rfl) e,c⟩
 | set S n=>obtain⟨ob,es,ep,t,e,c⟩:=x;exact⟨ob,es,ep,t,k _ _ (.inl rfl) e,c⟩
 | ins C dx fs=>
  obtain⟨d,z,ne,e,mA,⟨od,es,ep,e2,c⟩,r⟩:=x
  exact⟨ho _ d,z,ne,k _ _ (.inl rfl) e,mA,⟨od,es,ep,k _ _ (.inr d) e2,c⟩,r⟩
 | own y=>obtain⟨ob,e⟩:=x;exact⟨ob,k _ _ (.inl rfl) e⟩
 | xd fs=>obtain⟨mA,⟨od,es,ep,e,c⟩,r⟩:=x;exact⟨mA,⟨od,es,ep,k _ _ (.inl rfl) e,c⟩,r⟩
 | rng lo hi=>obtain⟨t,u,v,e⟩:=x;exact⟨t,u,v,k _ _ (.inl rfl) e⟩
 | frz ob u ih=>obtain⟨e,q⟩:=x;exact⟨k _ _ (.inl rfl) e,ih q⟩
 | tbl ps=>
  have e:h.get? a=some { cls:=.none,data:=.fields ps }:=x
  show h'.get? a=some { cls:=.none,data:=.fields ps }
  exact k a _ (.inl rfl) e
 | met f y=>
  have e:h.get? a=some (PySem.W.methodObj (.ref f) (.ref y)):=x
  show h'.get? a=some (PySem.W.methodObj (.ref f) (.ref y))
  exact k a _ (.inl rfl) e
 | ext φ=>obtain⟨p,⟨o,e⟩,st⟩:=x;exact⟨st _ _ p λo q=>k _ _ (.inl rfl) q,⟨o,k _ _ (.inl rfl) e⟩,st⟩
theorem HOk.lt (x:HOk P w H h)(e:H a=some o):a<h.objs.size:=(x a o e).lt
theorem HOk.fresh (x:HOk P w H h)(e:h.objs.size<=a):H a=none:=by
 cases q:H a with
 | none=>rfl
 | some u=>exact absurd (uI (x.lt q) e) (u9 _)
theorem HOk.kept (x:HOk P w H h)(k:∀ b u,h.get? b=some u->h'.get? b=some u):HOk P w H h':=λa o e=>
 (x a o e).stay (λb u _ q=>k b u q) (λ_ q=>q) λ_ _ q=>q
theorem HOk.laid (x:HOk P w H h)(k:∀ b u,h.get? b=some u->h'.get? b=some u)(hp:h.objs.size<=a)(new:zZ P w (upd H a o) h' a o):HOk P w (upd H a o) h':=λb u e=>by
 have hn:=x.fresh hp
 by_cases hb:b=a
 ·subst hb;rw [jY] at e;cases e;exact new
 ·rw [zU hb] at e
  exact(x b u e).stay (λc v _ q=>k c v q) (λc q=>by rw [zU (wt q hn)];exact q) λc xs q=>by rw [zU (wt q hn)];exact q
end
def Rd (H:Hp)(a:Addr)(u:HO):Prop:=H a=some u\/∃ o,H a=some (.frz o u)
theorem Rd.ok {P:Program}{w:World}{H:Hp}{h:Heap}{a:Addr}{u:HO}(r:Rd H a u)(x:HOk P w H h):zZ P w H h a u:=by
 rcases r with r | ⟨o,r⟩
 ·exact x a u r
 ·obtain⟨_,q⟩:=x a _ r
  exact q
noncomputable def Mut:Option HO->Prop
 | some (.lst _)=>True
 | some (.dK _)=>True
 | some (.dT _)=>True
 | some (.set _ _)=>True
 | some (.ins _ _ _)=>True
 | some (.ext _)=>True
 | _=>False
section
variable {P:Program} {w:World} {H:Hp} {h h':Heap} {x e:Addr} {o':HO}
theorem HOk.write (ok:HOk P w H h)(mu:Mut (H x))(he:e=x\/H e=some (.own x))(k:∀ b u,b≠e->h.get? b=some u->h'.get? b=some u)(heo:∃ u,h'.get? e=some u)
  (new:zZ P w (upd H x o') h' x o'):HOk P w (upd H x o') h':=λb u q=>by
 have nown:∀ c y,H c=some (.own y)->c≠x:=λc y r z=>by subst z;rw [r] at mu;exact mu
 have ntup:∀ c xs,H c=some (.tup xs)->c≠x:=λc xs r z=>by subst z;rw [r] at mu;exact mu
 by_cases hb:b=x
 ·subst hb;rw [jY] at q;cases q;exact new
 ·rw [zU hb] at q
  by_cases hbe:b=e
  ·have q':H b=some (.own x):=by
    rcases he with z | z
    ·exact absurd (hbe.trans z) hb
    ·rw [hbe];exact z
   rw [q] at q';cases q'
   obtain⟨v,hv⟩:=heo
   exact⟨v,by rw [hbe];exact hv⟩
  ·refine(ok b u q).stay (λc v hc r=>k c v ?_ r) (λc r=>by rw [zU (nown c b r)];exact r) λc xs r=>by rw [zU (ntup c xs r)];exact r
   rcases hc with rfl | hc
   ·exact hbe
   ·rintro rfl
    rcases he with z | z
    ·exact nown c b hc z
    ·rw [hc] at z;cases z;exact hb rfl
end
structure Un (fs ex:Ld)(H H':Hp)(h h':Heap):Prop where
 keep:∀ b o,h.get? b=some o->H b=none->b∉fs->b∉ex->h'.get? b=some o
 slot:∀ b o,h.get? b=some o->H b=none->b∈fs->b∉ex->∃ sl,h'.get? b=some { o with slots:=sl }
 free:∀ b o,h.get? b=some o->H b=none->b∉ex->H' b=none
 there:∀ b o,h.get? b=some o->b∉ex->∃ o',h'.get? b=some o'
 tups:∀ b xs,H b=some (.tup xs)->H' b=some (.tup xs)
 frzs:∀ b o u,H b=some (.frz o u)->H' b=some (.frz o u)
 tbls:∀ b ps,H b=some (.tbl ps)->∃ more,H' b=some (.tbl (ps++more))
section
variable {fs fs' ex ex':Ld} {H H1 H2:Hp} {h h1 h2 h':Heap} {a x e:Addr} {o:HO}
theorem Un.any (u:Un fs ex H H1 h h1){b:Addr}{ob:Obj}(q:h.get? b=some ob)(n:H b=none)(hx:b∉ex):∃ sl,h1.get? b=some { ob with slots:=sl }:=by
 by_cases hb:b∈fs
 ·exact u.slot b ob q n hb hx
 ·exact⟨ob.slots,u.keep b ob q n hb hx⟩
theorem Un.kept (k:∀ b u,h.get? b=some u->h'.get? b=some u):Un fs ex H H h h':=
 ⟨λb ob q _ _ _=>k b ob q,λb ob q _ _ _=>⟨ob.slots,k b ob q⟩,λ_ _ _ n _=>n,λb ob q _=>⟨ob,k b ob q⟩,λ_ _ q=>q,λ_ _ _ q=>q,λ_ ps q=>⟨#[],by rw [q];simp⟩⟩
theorem Un.refl:Un fs ex H H h h:=Un.kept λ_ _ q=>q
theorem Un.laid (k:∀ b u,h.get? b=some u->h'.get? b=some u)(hp:h.objs.size<=a)(hn:H a=none):Un fs ex H (upd H a o) h h' where
 keep:=λb u q _ _ _=>k b u q
 slot:=λb u q _ _ _=>⟨u.slots,k b u q⟩
 free:=λb u q n _=>by rw [zU (uP (uI (Heap.lt_size q) hp))];exact n
 there:=λb u q _=>⟨u,k b u q⟩
 tups:=λb xs q=>by rw [zU (wt q hn)];exact q
 frzs:=λb u xs q=>by rw [zU (wt q hn)];exact q
 tbls:=λb ps q=>⟨#[],by rw [zU (wt q hn),q];simp⟩
theorem Un.write (mu:Mut (H x))(he:e=x\/H e=some (.own x))(k:∀ b u,b≠e->h.get? b=some u->h'.get? b=some u)(heo:∃ u,h'.get? e=some u):Un fs ex H (upd H x o) h h':=by
 have hx:∀ b,H b=none->b≠x:=λb n z=>by subst z;rw [n] at mu;exact mu
 have hb:∀ b,H b=none->b≠e:=λb n z=>by
  subst z
  rcases he with r | r
  ·exact hx b n r
  ·rw [n] at r;cases r
 have hm:∀ b u,H b=some u->¬ Mut (some u)->b≠x:=λb u q nm z=>by subst z;rw [q] at mu;exact nm mu
 refine⟨λb u q n _ _=>k b u (hb b n) q,λb u q n _ _=>⟨u.slots,k b u (hb b n) q⟩,λb u q n _=>by rw [zU (hx b n)];exact n,λb u q _=>?_,
  λb xs q=>by rw [zU (hm b _ q λz=>z)];exact q,λb u xs q=>by rw [zU (hm b _ q λz=>z)];exact q,λb ps q=>⟨#[],by rw [zU (hm b _ q λz=>z),q];simp⟩⟩
 by_cases hbe:b=e
 ·subst hbe;exact heo
 ·exact⟨u,k b u hbe q⟩
end
noncomputable def trk (h:Heap)(H:Hp):Ld:=(List.range h.objs.size).filter λa=>(H a).isSome
noncomputable def hidT (h:Heap)(H:Hp):Heap:=PySem.W.hideAll h (trk h H)
theorem zaX (h:Heap)(H:Hp):(hidT h H).objs.size=h.objs.size:=PySem.W.hideAll_size _ _
theorem zbN {h:Heap}{H:Hp}{b:Addr}{o:Obj}(e:h.get? b=some o)(n:H b=none):(hidT h H).get? b=some o:=
 PySem.W.hideAll_get _ e λhm=>by
  have q:(H b).isSome=true:=(gX.mp hm).2
  rw [n] at q;simp at q
theorem zd1 {h:Heap}{H:Hp}{b:Addr}{o:Obj}(e:(hidT h H).get? b=some o):h.get? b=some o/\H b=none:=by
 have e':h.get? b=some o:=PySem.W.of_hideAll (trk h H) e
 refine⟨e',?_⟩
 cases q:H b with
 | none=>rfl
 | some x=>
  have hm:b∈trk h H:=gX.mpr ⟨Gb.mpr (Heap.lt_size e'),by simp [q]⟩
  have z:(hidT h H).get? b=none:=PySem.W.hideAll_none (trk h H) hm
  rw [z] at e;cases e
noncomputable def zd2 (g h:Heap)(L:Addr):List (Addr×Obj):=(List.range h.objs.size).filterMap λa=>if a=L\/(g.get? a).isSome=true then none else(h.get? a).map λo=>(a,o)
noncomputable def rest (g h:Heap)(L d:Addr):List (Addr×Obj):=(zd2 g h L).filter λp=>decide (p.1≠d)
structure Mod (K:Le)(mg:La)(base:Heap):Prop where
 kin:K.In base
 glob:base.Ns mainGlobals mg
 blt:∃ mb,base.Ns builtinsNs mb/\∀ x:Str,x≠"__name__"->mb x=bootBuiltins x
 nolimit:base.NoLimit
structure Cx where
 prog:Program
 w:World
 K:Le
 mg:Str->Option Value
 base:Heap
 A:Around
 N:Lh
 s₀:Shared
 H₀:Hp
 env:Env
 outer:List Env
 stack:List Env
 ex:Ld
 fn:Str->Bool
 calm:Bool
 pn:List (Addr×Obj)
 xe:Value->Shared->Prop
noncomputable def frs (l:List Env):Ld:=l.filterMap (·.frame)
noncomputable abbrev Cx.fs (X:Cx):Ld:=frs X.outer
def Vis (sc:Scope)(x:Str):Prop:=sc.names.lookup x=some .local\/sc.names.lookup x=some .cell\/sc.names.lookup x=some .free
def Loc (sc:Scope)(x:Str):Prop:=sc.names.lookup x=some .local\/sc.names.lookup x=some .cell
def Look (env:Env)(h:Heap)(m:La)(x:Str)(u:Value):Prop:=
 (env.kindOf x=some .local/\m x=some u)\/((env.kindOf x=some .cell\/env.kindOf x=some .free)/\∃ c,env.cells.lookup x=some c/\h.IsCell c (some u))
structure Cx.Ok (X:Cx):Prop where
 mod:Mod X.K X.mg X.base
 kind:X.env.scope.kind=.function
 glob:X.env.globals=mainGlobals
 blt:X.env.builtins=builtinsNs
 above:X.s₀.heap.objs.size<=X.env.locals
 inj:∀ x y c,X.env.cells.lookup x=some c->X.env.cells.lookup y=some c->x=y
 has:∀ x,(X.env.kindOf x=some .cell\/X.env.kindOf x=some .free)->∃ c,X.env.cells.lookup x=some c
 cab:∀ x c,X.fn x=true->X.env.cells.lookup x=some c->X.s₀.heap.objs.size<=c
 hd:X.calm=true->X.A.handled=none
 frames:X.A.frames=some X.stack
 stk:X.stack=X.outer\/(X.stack=X.env::X.outer/\X.env.frame=some X.env.locals)
 exf:∀ b∈X.ex,b≠X.env.locals/\∀ x c,X.env.cells.lookup x=some c->c≠b
 bs:∀ b o,X.base.get? b=some o->X.s₀.heap.get? b=some o/\X.H₀ b=none
 bsz:X.base.objs.size<=X.s₀.heap.objs.size
 noex:∀ b o,X.base.get? b=some o->b∉X.ex
 exfs:∀ b∈X.ex,b∉X.fs
 funs:X.s₀.heap.FunFrames X.base X.outer
 frf:∀ b∈X.fs,X.H₀ b=none
structure Inv (X:Cx)(pins:List (Addr×Obj))(σ:List (Option V))(H:Hp)(s:Shared):Prop where
 ok:X.Ok
 os:s.os=X.s₀.os
 bare:AllBare s.gens
 base:Un X.fs X.ex X.H₀ H X.s₀.heap s.heap
 loc:∃ m,s.heap.Ns X.env.locals m/\∀ (i:Nat) (x:Str) (v:V),X.N[i]? = some x->σ[i]? = some (some v)->Vis X.env.scope x->∃ u,RelV v u/\Look X.env s.heap m x u
 cell:∀ x c,X.env.cells.lookup x=some c->∃ v,s.heap.IsCell c v
 free:H X.env.locals=none
 freeC:∀ x c,X.env.cells.lookup x=some c->H c=none
 pin:∀ p∈X.pn++pins,s.heap.get? p.1=some p.2/\H p.1=none/\p.1≠X.env.locals/\p.1∉X.fs/\∀ v,p.2.data≠.cell v
 hok:HOk X.prog X.w H s.heap
 len:σ.length=X.N.length
section
variable {X:Cx} {pins:List (Addr×Obj)} {σ:List (Option V)} {H H':Hp} {s:Shared} {h':Heap}
theorem Cx.Ok.nofr (ok:X.Ok){b:Addr}{o:Obj}(e:X.base.get? b=some o):b∉X.fs:=λhb=>by
 have:=(ok.funs.mem hb).1
 rw [e] at this;cases this
theorem Inv.bs (I:Inv X pins σ H s):∀ b o,X.base.get? b=some o->s.heap.get? b=some o/\H b=none:=λb o e=>
 ⟨I.base.keep b o (I.ok.bs b o e).1 (I.ok.bs b o e).2 (I.ok.nofr e) (I.ok.noex b o e),I.base.free b o (I.ok.bs b o e).1 (I.ok.bs b o e).2 (I.ok.noex b o e)⟩
theorem Inv.bk (I:Inv X pins σ H s):∀ b o,X.base.get? b=some o->s.heap.get? b=some o:=λb o e=>(I.bs b o e).1
theorem Inv.mod (I:Inv X pins σ H s):Mod X.K X.mg X.base:=I.ok.mod
theorem Inv.kIn (I:Inv X pins σ H s):X.K.In s.heap:=I.ok.mod.kin.keeps I.bk
theorem Inv.lt (I:Inv X pins σ H s):X.env.locals<s.heap.objs.size:=let ⟨_,hn,_⟩:=I.loc;hn.lt
theorem Inv.sz (I:Inv X pins σ H s):X.s₀.heap.objs.size<=s.heap.objs.size:=uJ I.ok.above (Nat.le_of_lt I.lt)
theorem Inv.nofs (I:Inv X pins σ H s){a:Addr}(h:s.heap.objs.size<=a):a∉X.fs:=λhb=>by
 obtain⟨_,o,ho,_⟩:=I.ok.funs.mem hb
 exact absurd (uI (Heap.lt_size ho) (uJ I.sz h)) (u9 _)
theorem Inv.cne (I:Inv X pins σ H s):∀ x c,X.env.cells.lookup x=some c->c≠X.env.locals:=λx c e z=>by
 obtain⟨v,o,ho,hd⟩:=I.cell x c e
 obtain⟨m,⟨o',es,ep,ho',hd',_⟩,_⟩:=I.loc
 rw [z,ho'] at ho;cases ho;rw [hd'] at hd;cases hd
theorem Inv.funs (I:Inv X pins σ H s):s.heap.FunFrames X.base X.outer:=by
 have all:∀ (l:List Env),(∀ b∈frs l,b∈X.fs)->X.s₀.heap.FunFrames X.base l->s.heap.FunFrames X.base l:=by
  intro l
  induction l with
  | nil=>intro _ _;trivial
  | cons env r ih=>
   intro hs hl
   obtain⟨hk,⟨L,o,hf,hn,ho,hd⟩,hr⟩:=hl
   have hL:L∈X.fs:=hs L (by unfold frs;rw [gF,hf];exact uf)
   obtain⟨sl,e⟩:=I.base.slot L o ho (I.ok.frf L hL) hL λz=>I.ok.exfs L z hL
   exact⟨hk,⟨L,_,hf,hn,e,hd⟩,ih (λb hb=>hs b (by unfold frs;rw [gF,hf];exact uh _ hb)) hr⟩
 exact all X.outer (λ_ hb=>hb) I.ok.funs
theorem Inv.stack (I:Inv X pins σ H s):s.heap.FunFrames X.base X.stack:=by
 rcases I.ok.stk with e | ⟨e,hf⟩
 ·rw [e];exact I.funs
 ·rw [e]
  obtain⟨m,hn,_⟩:=I.loc
  refine .cons (by rw [I.ok.kind];decide) hf hn ?_ I.funs
  exact Heap.get?_none_of_le (uJ I.ok.bsz I.ok.above)
theorem Inv.stkSub (I:Inv X pins σ H s):∀ b∈frs X.stack,b∈X.env.locals::X.fs:=λb hb=>by
 rcases I.ok.stk with e | ⟨e,hf⟩
 ·rw [e] at hb;exact uh _ hb
 ·rw [e] at hb
  unfold frs at hb
  rw [gF,hf] at hb
  exact hb
theorem Inv.stkFree (I:Inv X pins σ H s):∀ b∈frs X.stack,H b=none:=λb hb=>by
 rcases um.mp (I.stkSub b hb) with e | hb
 ·rw [e];exact I.free
 ·obtain⟨_,o,ho,_⟩:=I.ok.funs.mem hb
  exact I.base.free b o ho (I.ok.frf b hb) λz=>I.ok.exfs b z hb
theorem Inv.step {g':Array GenState}{t':Nat}{d':Drawn}{ch:Ld}(I:Inv X pins σ H s)
  (hch:∀ b∈ch,(b∈X.ex\/X.s₀.heap.objs.size<=b)/\b≠X.env.locals/\(∀ x c,X.env.cells.lookup x=some c->c≠b)/\∀ p∈X.pn++pins,p.1≠b)
  (keep:∀ b o,b≠X.env.locals->b∉X.fs->b∉ch->s.heap.get? b=some o->H b=none->h'.get? b=some o)
  (slot:∀ b o,b≠X.env.locals->b∈X.fs->b∉ch->s.heap.get? b=some o->H b=none->∃ sl,h'.get? b=some { o with slots:=sl }) (free:∀ b o,b∉ch->s.heap.get? b=some o->H b=none->H' b=none)
  (there:∀ b o,b∉ch->s.heap.get? b=some o->∃ o',h'.get? b=some o')
  (tups:∀ b xs,H b=some (.tup xs)->H' b=some (.tup xs)) (frzs:∀ b o u,H b=some (.frz o u)->H' b=some (.frz o u)) (tbls:∀ b ps,H b=some (.tbl ps)->∃ more,H' b=some (.tbl (ps++more)))
  (ns:∀ m,s.heap.Ns X.env.locals m->h'.Ns X.env.locals m) (hok:HOk X.prog X.w H' h') (hg:AllBare g') :
  Inv X pins σ H' { s with heap:=h',gens:=g',drawn:=d',toks:=t' }:=by
 have neL:∀ b o,X.s₀.heap.get? b=some o->b≠X.env.locals:=λb o e=>uP (uI (Heap.lt_size e) I.ok.above)
 have neC:∀ b o,X.s₀.heap.get? b=some o->b∉X.ex->b∉ch:=λb o e hx hb=>by
  rcases(hch b hb).1 with z | z
  ·exact hx z
  ·exact absurd (uI (Heap.lt_size e) z) (u9 _)
 have cellK:∀ x c,X.env.cells.lookup x=some c->∀ v,s.heap.IsCell c v->h'.IsCell c v:=λx c e v ⟨o,ho,hd⟩=>by
  have nch:c∉ch:=λz=>(hch c z).2.2.1 x c e rfl
  by_cases hc:c∈X.fs
  ·obtain⟨sl,q⟩:=slot c o (I.cne x c e) hc nch ho (I.freeC x c e)
   exact⟨_,q,hd⟩
  ·exact⟨o,keep c o (I.cne x c e) hc nch ho (I.freeC x c e),hd⟩
 refine⟨I.ok,I.os,hg,⟨λb o e n hb hx=>?_,λb o e n hb hx=>?_,λb o e n hx=>?_,λb o e hx=>?_,λb xs e=>tups b xs (I.base.tups b xs e),λb o xs e=>frzs b o xs (I.base.frzs b o xs e),λb ps e=>?_⟩,?_,λx c e=>?_,?_,λx c e=>?_,λp hp=>?_,hok,I.len⟩
 ·exact keep b o (neL b o e) hb (neC b o e hx) (I.base.keep b o e n hb hx) (I.base.free b o e n hx)
 ·obtain⟨sl,e1⟩:=I.base.slot b o e n hb hx
  obtain⟨sl',e2⟩:=slot b _ (neL b o e) hb (neC b o e hx) e1 (I.base.free b o e n hx)
  exact⟨sl',e2⟩
 ·obtain⟨o',e1⟩:=I.base.there b o e hx
  exact free b o' (neC b o e hx) e1 (I.base.free b o e n hx)
 ·obtain⟨o',e1⟩:=I.base.there b o e hx
  exact there b o' (neC b o e hx) e1
 ·obtain⟨m1,e1⟩:=I.base.tbls b ps e
  obtain⟨m2,e2⟩:=tbls b _ e1
  exact⟨m1++m2,by rw [e2,Array.append_assoc]⟩
 ·obtain⟨m,hn,hl⟩:=I.loc
  refine⟨m,ns m hn,λi x v e1 e2 e3=>?_⟩
  obtain⟨u,r,l⟩:=hl i x v e1 e2 e3
  refine⟨u,r,?_⟩
  rcases l with l | ⟨k,c,e,z⟩
  ·exact .inl l
  ·exact .inr ⟨k,c,e,cellK x c e _ z⟩
 ·obtain⟨v,z⟩:=I.cell x c e
  exact⟨v,cellK x c e v z⟩
 ·obtain⟨m,⟨o,_,_,ho,_⟩,_⟩:=I.loc
  exact free _ o (λz=>(hch _ z).2.1 rfl) ho I.free
 ·obtain⟨v,o,ho,hd⟩:=I.cell x c e
  exact free c o (λz=>(hch c z).2.2.1 x c e rfl) ho (I.freeC x c e)
 ·obtain⟨e,n,ne,nf,d⟩:=I.pin p hp
  have nch:p.1∉ch:=λz=>(hch p.1 z).2.2.2 p hp rfl
  exact⟨keep p.1 p.2 ne nf nch e n,free p.1 p.2 nch e n,ne,nf,d⟩
theorem Inv.un {t':Nat}(I:Inv X pins σ H s)(u:Un X.fs [] H H' s.heap h')(hok:HOk X.prog X.w H' h'):Inv X pins σ H' { s with heap:=h',toks:=t' }:=by
 obtain⟨m,⟨o,es,ep,ho,r⟩,_⟩:=id I.loc
 obtain⟨sl,hL⟩:=u.any ho I.free (by simp)
 exact I.step (g':=s.gens) (d':=s.drawn) (ch:=[]) (λ_ z=>nomatch z) (λb o _ hb _ e n=>u.keep b o e n hb (by simp)) (λb o _ hb _ e n=>u.slot b o e n hb (by simp)) (λb o _ e n=>u.free b o e n (by simp)) (λb o _ e=>u.there b o e (by simp)) u.tups u.frzs u.tbls (λm' hm=>by
  obtain⟨o',es',ep',ho',r'⟩:=hm
  rw [ho] at ho';cases ho'
  exact⟨_,es',ep',hL,r'⟩) hok I.bare
theorem Inv.call {g':Array GenState}{t':Nat}{d':Drawn}{ch:Ld}(I:Inv X pins σ H s)(u:Un (frs X.stack) ch H H' s.heap h')(hok:HOk X.prog X.w H' h')(hg:AllBare g')
  (hch:∀ b∈ch,(b∈X.ex\/X.s₀.heap.objs.size<=b)/\b≠X.env.locals/\(∀ x c,X.env.cells.lookup x=some c->c≠b)/\∀ p∈X.pn++pins,p.1≠b) :
  Inv X pins σ H' { s with heap:=h',gens:=g',drawn:=d',toks:=t' }:=by
 obtain⟨m,⟨o,es,ep,ho,r⟩,_⟩:=id I.loc
 obtain⟨sl,hL⟩:=u.any ho I.free λz=>(hch _ z).2.1 rfl
 exact I.step (ch:=ch) hch (λb o hL hb hc e n=>u.keep b o e n (λz=>(um.mp (I.stkSub b z)).elim hL hb) hc) (λb o _ _ hc e n=>u.any e n hc) (λb o hc e n=>u.free b o e n hc) (λb o hc e=>u.there b o e hc) u.tups u.frzs u.tbls (λm' hm=>by
  obtain⟨o',es',ep',ho',r'⟩:=hm
  rw [ho] at ho';cases ho'
  exact⟨_,es',ep',hL,r'⟩) hok hg
theorem Inv.turned {t':Nat}{it:Addr}(I:Inv X pins σ H s)(k:∀ b o,b≠it->s.heap.get? b=some o->h'.get? b=some o)(hn:H it=none)(hL:it≠X.env.locals)
  (h1:it∈X.ex\/X.s₀.heap.objs.size<=it) (h2:∀ x c,X.env.cells.lookup x=some c->c≠it) (h3:∀ p∈X.pn++pins,p.1≠it):Inv X pins σ H { s with heap:=h',toks:=t' }:=by
 have nit:∀ b u,H b=some u->b≠it:=λb u e z=>by rw [z,hn] at e;cases e
 refine I.step (g':=s.gens) (d':=s.drawn) (ch:=[it]) (λb hb=>?_) (λb o _ _ hc e _=>k b o (λz=>hc (by simp [z])) e) (λb o _ _ hc e _=>⟨o.slots,k b o (λz=>hc (by simp [z])) e⟩) (λ_ _ _ _ n=>n)
  (λb o hc e=>⟨o,k b o (λz=>hc (by simp [z])) e⟩) (λ_ _ e=>e) (λ_ _ _ e=>e) (λb ps e=>⟨#[],by rw [e];simp⟩) (λm hm=>?_) (λb u e=>?_) I.bare
 ·have e:b=it:=by simpa using hb
  subst e
  exact⟨h1,hL,h2,h3⟩
 ·obtain⟨o,es,ep,ho,r⟩:=hm
  exact⟨o,es,ep,k _ o (Ne.symm hL) ho,r⟩
 ·refine(I.hok b u e).stay (λc v hc q=>k c v ?_ q) (λ_ q=>q) λ_ _ q=>q
  rcases hc with z | z
  ·rw [z];exact nit b u e
  ·exact nit c _ z
theorem Inv.tok (I:Inv X pins σ H s)(t:Nat):Inv X pins σ H { s with toks:=t }:=I.un (h':=s.heap) (t':=t) Un.refl I.hok
theorem Inv.kept {t':Nat}(I:Inv X pins σ H s)(k:∀ b u,s.heap.get? b=some u->h'.get? b=some u):Inv X pins σ H { s with heap:=h',toks:=t' }:=I.un (Un.kept k) (I.hok.kept k)
theorem Inv.laid {a:Addr}{o:HO}{t':Nat}(I:Inv X pins σ H s)(k:∀ b u,s.heap.get? b=some u->h'.get? b=some u)(hp:s.heap.objs.size<=a)(new:zZ X.prog X.w (upd H a o) h' a o) :
  Inv X pins σ (upd H a o) { s with heap:=h',toks:=t' }:=I.un (Un.laid k hp (I.hok.fresh hp)) (I.hok.laid k hp new)
theorem Inv.write {x e:Addr}{o:HO}{t':Nat}(I:Inv X pins σ H s)(mu:Mut (H x))(he:e=x\/H e=some (.own x))(k:∀ b u,b≠e->s.heap.get? b=some u->h'.get? b=some u)(heo:∃ u,h'.get? e=some u)
  (new:zZ X.prog X.w (upd H x o) h' x o):Inv X pins σ (upd H x o) { s with heap:=h',toks:=t' }:=I.un (Un.write mu he k heo) (I.hok.write mu he k heo new)
theorem Inv.pins_of {pins':List (Addr×Obj)}(I:Inv X pins σ H s)(h:∀ p∈pins',s.heap.get? p.1=some p.2/\H p.1=none/\p.1≠X.env.locals/\p.1∉X.fs/\∀ v,p.2.data≠.cell v):Inv X pins' σ H s:=
 ⟨I.ok,I.os,I.bare,I.base,I.loc,I.cell,I.free,I.freeC,λp hp=>(ur.mp hp).elim (λz=>I.pin p (uX _ z)) (h p),I.hok,I.len⟩
theorem VD {N:Lh}(hN:N.Nodup){i j:Nat}{x:Str}(a:N[i]? = some x)(b:N[j]? = some x):i=j:=by
 obtain⟨h1,e1⟩:=uN.mp a
 obtain⟨h2,e2⟩:=uN.mp b
 exact(List.getElem_inj hN).mp (e1.trans e2.symm)
theorem WG {M:Model}{A:Around}{E:Value->Shared->Prop}{i:Nat}{x:Str}{v:V}{u:Value}{Q:Unit->Shared->Prop}(I:Inv X pins σ H s)(hN:X.N.Nodup)(hi:X.N[i]? = some x)(hx:Loc X.env.scope x)(r:RelV v u)
  (h:∀ s',Inv X pins (σ.set i (some v)) H s'->(∃ a,Heap.SameBut a s.heap s'.heap/\(a=X.env.locals\/X.env.cells.lookup x=some a))->Q () s') (hf:X.fn x=true\/X.env.scope.names.lookup x=some .local:=by first | exact .inl rfl | exact .inr rfl | assumption):wpAny M A (storeName X.env x u) Q E s:=by
 obtain⟨m,hn,hl⟩:=id I.loc
 have hcls:(X.env.scope.kind == .class||(X.env.scope.kind == .module&&X.env.locals != X.env.globals))=false:=by rw [I.ok.kind];rfl
 have hiσ:i<σ.length:=by rw [I.len];exact(uN.mp hi).1
 have cne:=I.cne
 have tracked:∀ {a:Addr} {h':Heap},(∃ o,s.heap.get? a=some o/\H a=none)->Heap.SameBut a s.heap h'->HOk X.prog X.w H h':=λ{a h'} ha hs b ob e=>by
  obtain⟨_,_,hfree⟩:=ha
  refine(I.hok b ob e).stay (λc w' hc q=>(hs.2 c ?_).trans q) (λ_ q=>q) λ_ _ q=>q
  rintro rfl
  rcases hc with rfl | hc
  ·rw [hfree] at e;cases e
  ·rw [hfree] at hc;cases hc
 rcases hx with hk | hk
 ·refine wpAny_storeName_local hk hn (λh' hn' hs=>?_) hcls
  obtain⟨oL,_,_,hoL,_⟩:=id hn
  refine h _ ⟨I.ok,I.os,I.bare,⟨λb o e n hb hx=>?_,λb o e n hb hx=>?_,I.base.free,λb o e hx=>?_,I.base.tups,I.base.frzs,I.base.tbls⟩,⟨_,hn',λj y v' e1 e2 e3=>?_⟩,λy c e=>?_,I.free,I.freeC,λp hp=>?_,tracked ⟨oL,hoL,I.free⟩ hs,by simpa using I.len⟩ ⟨_,hs,.inl rfl⟩
  ·exact(hs.2 b (uP (uI (Heap.lt_size e) I.ok.above))).trans (I.base.keep b o e n hb hx)
  ·obtain⟨sl,e1⟩:=I.base.slot b o e n hb hx
   exact⟨sl,(hs.2 b (uP (uI (Heap.lt_size e) I.ok.above))).trans e1⟩
  ·obtain⟨o',e1⟩:=I.base.there b o e hx
   exact⟨o',(hs.2 b (uP (uI (Heap.lt_size e) I.ok.above))).trans e1⟩
  ·by_cases hj:j=i
   ·subst hj
    rw [hi] at e1;cases e1
    rw [uU hiσ] at e2
    cases e2
    exact⟨u,r,.inl ⟨hk,by simp⟩⟩
   ·rw [Ui (Ne.symm hj)] at e2
    obtain⟨u',r',q⟩:=hl j y v' e1 e2 e3
    refine⟨u',r',?_⟩
    rcases q with⟨k,e⟩ | ⟨k,c,e,z⟩
    ·refine .inl ⟨k,?_⟩
     have:y≠x:=λe=>hj (VD hN e1 (e ▸ hi))
     simp [this,e]
    ·exact .inr ⟨k,c,e,z.sameBut hs (cne y c e)⟩
  ·obtain⟨w',z⟩:=I.cell y c e
   exact⟨w',z.sameBut hs (cne y c e)⟩
  ·obtain⟨e,n,ne,nf,d⟩:=I.pin p hp
   exact⟨(hs.2 p.1 ne).trans e,n,ne,nf,d⟩
 ·have hfn:X.fn x=true:=by
   rcases hf with z | z
   ·exact z
   ·rw [z] at hk;cases hk
  obtain⟨c,hc⟩:=I.ok.has x (.inl hk)
  obtain⟨w',z⟩:=I.cell x c hc
  refine wpAny_storeName_cell I.ok.kind hk hc z (λh' hc' hs=>?_)
  obtain⟨oc,hoc,hocd⟩:=id z
  refine h { s with heap:=h' } ⟨I.ok,I.os,I.bare,⟨λb o e n hb hx=>?_,λb o e n hb hx=>?_,I.base.free,λb o e hx=>?_,I.base.tups,I.base.frzs,I.base.tbls⟩,⟨m,hn.sameBut hs (Ne.symm (cne x c hc)),λj y v' e1 e2 e3=>?_⟩,λy c' e=>?_,I.free,I.freeC,λp hp=>?_,tracked ⟨oc,hoc,I.freeC x c hc⟩ hs,by simpa using I.len⟩ ⟨c,hs,.inr hc⟩
  ·exact(hs.2 b (uP (uI (Heap.lt_size e) (I.ok.cab x c hfn hc)))).trans (I.base.keep b o e n hb hx)
  ·obtain⟨sl,e1⟩:=I.base.slot b o e n hb hx
   exact⟨sl,(hs.2 b (uP (uI (Heap.lt_size e) (I.ok.cab x c hfn hc)))).trans e1⟩
  ·obtain⟨o',e1⟩:=I.base.there b o e hx
   exact⟨o',(hs.2 b (uP (uI (Heap.lt_size e) (I.ok.cab x c hfn hc)))).trans e1⟩
  ·by_cases hj:j=i
   ·subst hj
    rw [hi] at e1;cases e1
    rw [uU hiσ] at e2
    cases e2
    exact⟨u,r,.inr ⟨.inl hk,c,hc,hc'⟩⟩
   ·rw [Ui (Ne.symm hj)] at e2
    obtain⟨u',r',q⟩:=hl j y v' e1 e2 e3
    refine⟨u',r',?_⟩
    rcases q with q | ⟨k,c',e,z'⟩
    ·exact .inl q
    ·refine .inr ⟨k,c',e,z'.sameBut hs ?_⟩
     rintro rfl
     exact hj (VD hN e1 (I.ok.inj _ _ _ e hc ▸ hi))
  ·by_cases hcc:c' = c
   ·subst hcc;exact⟨_,hc'⟩
   ·obtain⟨w2,z2⟩:=I.cell y c' e
    exact⟨w2,z2.sameBut hs hcc⟩
  ·obtain⟨e,n,ne,nf,d⟩:=I.pin p hp
   refine⟨(hs.2 p.1 ?_).trans e,n,ne,nf,d⟩
   intro q
   rw [q,hoc] at e
   have q':oc=p.2:=uG e
   exact d w' (by rw [← q'];exact hocd)
theorem Q6 {M:Model}{A:Around}{E:Value->Shared->Prop}{i:Nat}{x:Str}{v:V}{u:Value}{Q:Unit->Shared->Prop}(I:Inv X pins σ H s)(hN:X.N.Nodup)(hi:X.N[i]? = some x)(hx:Loc X.env.scope x)(r:RelV v u)
  (h:∀ s',Inv X pins (σ.set i (some v)) H s'->Q () s') (hf:X.fn x=true\/X.env.scope.names.lookup x=some .local:=by first | exact .inl rfl | exact .inr rfl | assumption):wpAny M A (storeName X.env x u) Q E s:=
 WG I hN hi hx r (λs' I' _=>h s' I') hf
theorem Inv.call' {s':Shared}{ch:Ld}(I:Inv X pins σ H s)(ho:s'.os=s.os)(u:Un (frs X.stack) ch H H' s.heap s'.heap)(hok:HOk X.prog X.w H' s'.heap)(hg:AllBare s'.gens)
  (hch:∀ b∈ch,(b∈X.ex\/X.s₀.heap.objs.size<=b)/\b≠X.env.locals/\(∀ x c,X.env.cells.lookup x=some c->c≠b)/\∀ p∈X.pn++pins,p.1≠b):Inv X pins σ H' s':=by
 obtain⟨h',g',d',t',o'⟩:=s'
 have e:o' = s.os:=ho
 subst e
 exact I.call (g':=g') (t':=t') (d':=d') u hok hg hch
end
noncomputable abbrev XK:=Value->Option Addr->Hp->Prop
noncomputable abbrev St:=List (Option V)
noncomputable abbrev VK:=V->Hp->Prop
noncomputable abbrev TE:=St->Hp->VK->Prop
noncomputable abbrev TT:=St->Hp->(Bool->Hp->Prop)->Prop
noncomputable abbrev TA:=St->Hp->(List V->Hp->Prop)->Prop
structure Ends where
 nx:St->Hp->Prop
 rt:VK
 bk:St->Hp->Prop:=λ_ _=>False
 ct:St->Hp->Prop:=λ_ _=>False
noncomputable abbrev TS:=Ends->St->Hp->Prop
def EP (X:Cx)(pins:List (Addr×Obj))(σ:St)(Q:VK)(u:Value)(s':Shared):Prop:=∃ v H',Inv X pins σ H' s'/\RelV v u/\Q v H'
def TP (X:Cx)(pins:List (Addr×Obj))(σ:St)(Q:Bool->Hp->Prop)(b:Bool)(s':Shared):Prop:=∃ H',Inv X pins σ H' s'/\Q b H'
def AP (X:Cx)(pins:List (Addr×Obj))(σ:St)(Q:List V->Hp->Prop)(us:Lf)(s':Shared):Prop:=∃ vs H',Inv X pins σ H' s'/\Vals vs us/\Q vs H'
def SP (X:Cx)(pins:List (Addr×Obj))(D:Ends)(f:Flow)(s':Shared):Prop:=
 match f with
 | .next=>∃ σ' H',Inv X pins σ' H' s'/\D.nx σ' H'
 | .brk=>∃ σ' H',Inv X pins σ' H' s'/\D.bk σ' H'
 | .cont=>∃ σ' H',Inv X pins σ' H' s'/\D.ct σ' H'
 | .ret u=>∃ v σ' H',Inv X pins σ' H' s'/\RelV v u/\D.rt v H'
def PE (X:Cx)(e:Expr)(t:TE):Prop:=
 ∀ (pins:List (Addr×Obj)) (s:Shared) (σ:St) (H:Hp) (Q:VK),Inv X pins σ H s->t σ H Q->wpAny (model X.prog X.w) X.A (eval e X.env) (EP X pins σ Q) X.xe s
def PT (X:Cx)(e:Expr)(t:TT):Prop:=
 ∀ (pins:List (Addr×Obj)) (s:Shared) (σ:St) (H:Hp) (Q:Bool->Hp->Prop),Inv X pins σ H s->t σ H Q->wpAny (model X.prog X.w) X.A (isTrue e X.env (eval e X.env)) (TP X pins σ Q) X.xe s
def PW (X:Cx)(e:Expr)(t:TT):Prop:=
 ∀ (whole:Sem Value) (pins:List (Addr×Obj)) (s:Shared) (σ:St) (H:Hp) (Q:Bool->Hp->Prop),Inv X pins σ H s->t σ H Q->wpAny (model X.prog X.w) X.A (isTrue e X.env whole) (TP X pins σ Q) X.xe s
theorem PW.pt {X:Cx}{e:Expr}{t:TT}(h:PW X e t):PT X e t:=h _
def PA (X:Cx)(es:Lg)(t:TA):Prop:=
 ∀ (pos:Pos) (pins:List (Addr×Obj)) (s:Shared) (σ:St) (H:Hp) (Q:List V->Hp->Prop),Inv X pins σ H s->t σ H Q->wpAny (model X.prog X.w) X.A (spliced (backTo pos (starEach es X.env))) (AP X pins σ Q) X.xe s
def PS (X:Cx)(st:Stmt)(t:TS):Prop:=
 ∀ (pins:List (Addr×Obj)) (s:Shared) (σ:St) (H:Hp) (D:Ends),Inv X pins σ H s->t D σ H->wpAny (model X.prog X.w) X.A (exec st X.env) (SP X pins D) X.xe s
def PSs (X:Cx)(st:List Stmt)(t:TS):Prop:=
 ∀ (pins:List (Addr×Obj)) (s:Shared) (σ:St) (H:Hp) (D:Ends),Inv X pins σ H s->t D σ H->wpAny (model X.prog X.w) X.A (execs st X.env) (SP X pins D) X.xe s
theorem thn {α:Type}{t:Sem α}{Q Q':α->Shared->Prop}{M:Model}{A:Around}{E:Value->Shared->Prop}{s:Shared}(h:wpAny M A t Q E s)(hQ:∀ a s,Q a s->Q' a s):wpAny M A t Q' E s:=wpAny_mono h hQ λ_ _ x=>x
section
variable {X:Cx}
theorem bin {a b:Expr}{ta tb:TE}(ha:PE X a ta)(hb:PE X b tb){pins:List (Addr×Obj)}{s:Shared}{σ:St}{H:Hp}{R:V->V->Hp->Prop}(I:Inv X pins σ H s)(h:ta σ H λx H1=>tb σ H1 λy H2=>R x y H2)
  {α:Type} {Q:α->Shared->Prop} {f:Value->Value->Sem α}
  (hf:∀ v u s2 x y H2,Inv X pins σ H2 s2->RelV x v->RelV y u->R x y H2->wpAny (model X.prog X.w) X.A (f v u) Q X.xe s2) :
  wpAny (model X.prog X.w) X.A (eval a X.env) (λv s₁=>wpAny (model X.prog X.w) X.A (eval b X.env) (λu s₂=>wpAny (model X.prog X.w) X.A (f v u) Q X.xe s₂) X.xe s₁) X.xe s:=by
 refine thn (ha pins s σ H _ I h) λv s1 ⟨x,H1,I1,r1,q1⟩=>?_
 refine thn (hb pins s1 σ H1 _ I1 q1) λu s2 ⟨y,H2,I2,r2,q2⟩=>?_
 exact hf v u s2 x y H2 I2 r1 r2 q2
noncomputable def tVar (i:Nat):TE:=λσ H Q=>∃ v,σ[i]? = some (some v)/\Q v H
noncomputable def tC (v:V):TE:=λ_ H Q=>Q v H
theorem zge {i:Nat}{x:Str}{pos:Pos}(hN:X.N[i]? = some x)(hv:Vis X.env.scope x)(hd:(x == ("__debug__":Str))=false:=by decide) (hcd:(x == ("__classdict__":Str))=false:=by decide):PE X (.Name x pos) (tVar i):=by
 intro pins s σ H Q I h
 obtain⟨v,e,h⟩:=h
 obtain⟨m,hn,hl⟩:=I.loc
 obtain⟨u,r,l⟩:=hl i x v hN e hv
 have fin:EP X pins σ Q u s:=⟨v,H,I,r,h⟩
 rcases l with⟨hk,hm⟩ | ⟨hk,c,hc,hcell⟩
 ·exact wpAny_Name (wpAny_loadName_local I.ok.kind hk hn hm fin) hd
 ·rcases hk with hk | hk
  ·exact wpAny_Name (wpAny_loadName_cell I.ok.kind hk hc hcell fin) hd
  ·exact wpAny_Name (wpAny_loadName_free I.ok.kind hk hc hcell fin hcd) hd
theorem zgf {i j pos}:PE X (.Constant (.int i) j pos) (tC (.int i)):=λ_ _ _ H _ I h=>wpAny_Constant_int ⟨.int i,H,I.tok _,⟨_,rfl⟩,h⟩
theorem zit {b j pos}:PE X (.Constant (.bool b) j pos) (tC (.bl b)):=λ_ _ _ H _ I h=>Constant_bool ⟨.bl b,H,I,rfl,h⟩
theorem zgg {j pos}:PE X (.Constant .none j pos) (tC .non):=λ_ _ _ H _ I h=>Constant_none ⟨.non,H,I,rfl,h⟩
theorem zgh {x j pos}:PE X (.Constant (.str x) j pos) (tC (.str x)):=λ_ _ _ H _ I h=>Calls.Constant_str ⟨.str x,H,I.tok _,⟨_,rfl⟩,h⟩
def Gl (X:Cx)(x:Str):Prop:=X.env.kindOf x=some .globalImplicit
theorem Zj {E:Value->Shared->Prop}{pins:List (Addr×Obj)}{s:Shared}{σ:St}{H:Hp}{x:Str}{u:Value}{pos:Pos}{Q:Value->Shared->Prop}(I:Inv X pins σ H s)(hg:Gl X x)(hm:X.mg x=some u)(h:Q u s)
  (hd:(x == ("__debug__":Str))=false:=by decide):wpAny (model X.prog X.w) X.A (eval (.Name x pos) X.env) Q E s:=
 Calls.Name_function_global I.ok.kind hg (Calls.loadGlobal_global (by rw [I.ok.glob];exact I.mod.glob.keeps I.bk) hm h) hd
theorem ZT {E:Value->Shared->Prop}{pins:List (Addr×Obj)}{s:Shared}{σ:St}{H:Hp}{x:Str}{u:Value}{pos:Pos}{Q:Value->Shared->Prop}(I:Inv X pins σ H s)(hg:Gl X x)(hm:X.mg x=none)(hv:bootBuiltins x=some u)(h:Q u s)
  (hn:x≠"__name__":=by decide) (hd:(x == ("__debug__":Str))=false:=by decide):wpAny (model X.prog X.w) X.A (eval (.Name x pos) X.env) Q E s:=by
 obtain⟨mb,h1,h2⟩:=I.mod.blt
 exact Calls.Name_function_global I.ok.kind hg (Calls.loadGlobal_builtin (by rw [I.ok.glob];exact I.mod.glob.keeps I.bk) hm (by rw [I.ok.blt];exact h1.keeps I.bk) ((h2 x hn).trans hv) h) hd
theorem zd3 {x:Str}{v:V}{u:Value}{pos:Pos}(hg:Gl X x)(hm:X.mg x=some u)(r:RelV v u)(hd:(x == ("__debug__":Str))=false:=by decide):PE X (.Name x pos) (tC v):=
 λ_ _ _ H _ I h=>Zj I hg hm ⟨v,H,I,r,h⟩ hd
theorem zd4 {x:Str}{v:V}{u:Value}{pos:Pos}(hg:Gl X x)(hm:X.mg x=none)(hv:bootBuiltins x=some u)(r:RelV v u)(hn:x≠"__name__":=by decide) (hd:(x == ("__debug__":Str))=false:=by decide):PE X (.Name x pos) (tC v):=
 λ_ _ _ H _ I h=>ZT I hg hm hv ⟨v,H,I,r,h⟩ hn hd
variable {a b:Expr} {ta tb:TE} {pos:Pos}
variable {tA tB':TT} {rest:Lg}
noncomputable def tAnd (t u:TT):TT:=λσ H Q=>t σ H λc H1=>if c=true then u σ H1 Q else Q false H1
noncomputable def tOr (t u:TT):TT:=λσ H Q=>t σ H λc H1=>if c=true then Q true H1 else u σ H1 Q
noncomputable def tNot (t:TT):TT:=λσ H Q=>t σ H λc H1=>Q (!c) H1
theorem zd5 (ha:PT X a tA):PW X (.BoolOp .And [a] pos) tA:=by
 intro wh pins s σ H Q I h
 refine isTrue_and (thn (ha pins s σ H Q I h) λc s1 e=>?_)
 cases c with
 | true=>exact isTrue_and_nil e
 | false=>exact e
theorem zgi (ha:PT X a tA):PW X (.BoolOp .Or [a] pos) tA:=by
 intro wh pins s σ H Q I h
 refine isTrue_or (thn (ha pins s σ H Q I h) λc s1 e=>?_)
 cases c with
 | false=>exact isTrue_or_nil e
 | true=>exact e
theorem zgj (ha:PT X a tA)(hb:PW X (.BoolOp .And (b::rest) pos) tB'):PW X (.BoolOp .And (a::b::rest) pos) (tAnd tA tB'):=by
 intro wh pins s σ H Q I h
 refine isTrue_and (thn (ha pins s σ H _ I h) λc s1 ⟨H1,I1,q1⟩=>?_)
 cases c with
 | true=>exact hb wh pins s1 σ H1 Q I1 q1
 | false=>exact⟨H1,I1,q1⟩
theorem ziu (ha:PT X a tA)(hb:PW X (.BoolOp .Or (b::rest) pos) tB'):PW X (.BoolOp .Or (a::b::rest) pos) (tOr tA tB'):=by
 intro wh pins s σ H Q I h
 refine isTrue_or (thn (ha pins s σ H _ I h) λc s1 ⟨H1,I1,q1⟩=>?_)
 cases c with
 | true=>exact⟨H1,I1,q1⟩
 | false=>exact hb wh pins s1 σ H1 Q I1 q1
theorem zgk (ha:PT X a tA):PT X (.UnaryOp .Not a pos) (tNot tA):=by
 intro pins s σ H Q I h
 exact isTrue_not (ha pins s σ H (λc H1=>Q (!c) H1) I h)
noncomputable def zfu (ta tb:TE):TE:=λσ H Q=>ta σ H λx H1=>∃ c,x=.bl c/\if c=true then tb σ H1 Q else Q (.bl false) H1
noncomputable def tOrV (ta tb:TE):TE:=λσ H Q=>ta σ H λx H1=>∃ c,x=.bl c/\if c=true then Q (.bl true) H1 else tb σ H1 Q
noncomputable def zfv (ta:TE):TE:=λσ H Q=>ta σ H λx H1=>∃ c,x=.bl c/\Q (.bl (!c)) H1
theorem zgl {op}{t:TE}(h:PE X a t):PE X (.BoolOp op [a] pos) t:=λpins s σ H Q I hw=>BoolOp_one (h pins s σ H Q I hw)
theorem zgm (ha:PE X a ta)(hb:PE X (.BoolOp .And (b::rest) pos) tb):PE X (.BoolOp .And (a::b::rest) pos) (zfu ta tb):=by
 intro pins s σ H Q I h
 refine BoolOp_and (thn (ha pins s σ H _ I h) λv s1 ⟨x,H1,I1,r1,q1⟩=>?_)
 obtain⟨c,rfl,q1⟩:=q1
 cases r1
 refine wpAny_truthy_bool ?_
 cases c with
 | true=>exact hb pins s1 σ H1 Q I1 q1
 | false=>exact⟨.bl false,H1,I1,rfl,q1⟩
theorem ziv (ha:PE X a ta)(hb:PE X (.BoolOp .Or (b::rest) pos) tb):PE X (.BoolOp .Or (a::b::rest) pos) (tOrV ta tb):=by
 intro pins s σ H Q I h
 refine BoolOp_or (thn (ha pins s σ H _ I h) λv s1 ⟨x,H1,I1,r1,q1⟩=>?_)
 obtain⟨c,rfl,q1⟩:=q1
 cases r1
 refine wpAny_truthy_bool ?_
 cases c with
 | false=>exact hb pins s1 σ H1 Q I1 q1
 | true=>exact⟨.bl true,H1,I1,rfl,q1⟩
theorem zgn (ha:PE X a ta):PE X (.UnaryOp .Not a pos) (zfv ta):=by
 intro pins s σ H Q I h
 refine UnaryOp_ (thn (ha pins s σ H _ I h) λv s1 ⟨x,H1,I1,r1,q1⟩=>?_)
 obtain⟨c,rfl,q1⟩:=q1
 cases r1
 exact not_of (wpAny_truthy_bool ⟨.bl (!c),H1,I1,rfl,q1⟩)
noncomputable def tIf (t:TT)(ta tb:TE):TE:=λσ H Q=>t σ H λc H1=>if c=true then ta σ H1 Q else tb σ H1 Q
theorem zbO {c:Expr}(hc:PT X c tA)(ha:PE X a ta)(hb:PE X b tb):PE X (.IfExp c a b pos) (tIf tA ta tb):=by
 intro pins s σ H Q I h
 refine wpAny_IfExp (thn (hc pins s σ H _ I h) λd s1 ⟨H1,I1,q1⟩=>?_)
 cases d with
 | true=>exact ha pins s1 σ H1 Q I1 q1
 | false=>exact hb pins s1 σ H1 Q I1 q1
end
def SqL (K:Le)(H:Hp)(a:Addr)(xs:List V):Prop:=
 Rd H a (.lst xs) \/
  ∃ (o:Obj) (its:Array Value) (n:Nat),K.lookup a=some o/\o.cls=.type "list"/\o.dict=none/\o.data=.seq its n/\its.size<=sizeLine/\Vals xs its.toList
def SqT (K:Le)(H:Hp)(a:Addr)(xs:List V):Prop:=
 Rd H a (.tup xs) \/
  ∃ (o:Obj) (its:Array Value) (n:Nat),K.lookup a=some o/\o.cls=.type "tuple"/\o.data=.seq its n/\its.size<=sizeLine/\Vals xs its.toList
noncomputable def absV:Value->Option V
 | .none=>some .non
 | .bool b=>some (.bl b)
 | .int i _=>some (.int i)
 | .str x _=>some (.str x)
 | .bytes b _=>some (.byt b)
 | .float b _=>some (.flt b)
 | .ref a=>some (.ref a)
 | .type n=>some (.ty n)
 | _=>none
theorem RelV.abs {x:V}{u:Value}(r:RelV x u):absV u=some x:=by
 cases x with
 | non=>cases r;rfl
 | bl _=>cases r;rfl
 | int _=>obtain⟨t,rfl⟩:=r;rfl
 | str _=>obtain⟨t,rfl⟩:=r;rfl
 | byt _=>obtain⟨t,rfl⟩:=r;rfl
 | flt _=>obtain⟨t,rfl⟩:=r;rfl
 | ref _=>cases r;rfl
 | ty _=>cases r;rfl
theorem RelV.inj {x y:V}{u:Value}(r:RelV x u)(q:RelV y u):x=y:=uG (r.abs.symm.trans q.abs)
theorem Vals.inj:∀ {xs ys:List V} {us:Lf},Vals xs us->Vals ys us->xs=ys
 | _,_,_,.nil,.nil=>rfl
 | _,_,_,.cons r t,.cons r' t'=>by rw [r.inj r',Vals.inj t t']
section
variable {X:Cx} {pins:List (Addr×Obj)} {σ:St} {H:Hp} {s:Shared} {a:Addr} {xs ys:List V}
theorem SqL.of {K:Le}(h:H a=some (.lst xs)):SqL K H a xs:=.inl (.inl h)
theorem SqT.of {K:Le}(h:H a=some (.tup xs)):SqT K H a xs:=.inl (.inl h)
theorem Inv.list (I:Inv X pins σ H s)(h:SqL X.K H a xs):∃ its:Lf,Vals xs its/\PlainL s.heap a its.toArray/\xs.length<=sizeLine:=by
 rcases h with h | ⟨o,its,n,hk,hc,hd,hs,hz,r⟩
 ·obtain⟨z,its,n,r,e⟩:=h.ok I.hok
  exact⟨its,r,⟨_,n,e,rfl,rfl,rfl⟩,z⟩
 ·refine⟨its.toList,r,⟨o,n,I.kIn a o hk,hc,hd,by simpa using hs⟩,?_⟩
  have e:=r.length
  simp only [gG] at e
  lia
theorem Inv.tuple (I:Inv X pins σ H s)(h:SqT X.K H a xs):∃ its:Lf,Vals xs its/\IsTup s.heap a its.toArray/\xs.length<=sizeLine:=by
 rcases h with h | ⟨o,its,n,hk,hc,hs,hz,r⟩
 ·obtain⟨z,its,r,p⟩:=h.ok I.hok
  exact⟨its,r,p,z⟩
 ·refine⟨its.toList,r,⟨o,I.kIn a o hk,hc,n,by simpa using hs⟩,?_⟩
  have e:=r.length
  simp only [gG] at e
  lia
theorem Inv.list_inj (I:Inv X pins σ H s)(h:SqL X.K H a xs)(h':SqL X.K H a ys):xs=ys:=by
 obtain⟨its,r,⟨o,n,e,_,_,d⟩,_⟩:=I.list h
 obtain⟨its',r',⟨o',n',e',_,_,d'⟩,_⟩:=I.list h'
 rw [e] at e';cases e'
 rw [d] at d'
 injection d' with d1 _
 have:its=its':=by simpa using congrArg Array.toList d1
 subst this
 exact r.inj r'
theorem Inv.tuple_inj (I:Inv X pins σ H s)(h:SqT X.K H a xs)(h':SqT X.K H a ys):xs=ys:=by
 obtain⟨its,r,⟨o,e,_,n,d⟩,_⟩:=I.tuple h
 obtain⟨its',r',⟨o',e',_,n',d'⟩,_⟩:=I.tuple h'
 rw [e] at e';cases e'
 rw [d] at d'
 injection d' with d1 _
 have:its=its':=by simpa using congrArg Array.toList d1
 subst this
 exact r.inj r'
end
noncomputable abbrev Cx.wish (X:Cx)(E:Value->Shared->Prop):Cx:={ X with xe:=E }
noncomputable abbrev Cx.nox (X:Cx):Cx:=X.wish λ_ _=>False
theorem Cx.Ok.wish {X:Cx}(ok:X.Ok)(E:Value->Shared->Prop):(X.wish E).Ok:=
 ⟨ok.mod,ok.kind,ok.glob,ok.blt,ok.above,ok.inj,ok.has,ok.cab,ok.hd,ok.frames,ok.stk,ok.exf,ok.bs,ok.bsz,ok.noex,ok.exfs,ok.funs,ok.frf⟩
theorem Cx.Ok.unwish {X:Cx}{E:Value->Shared->Prop}(ok:(X.wish E).Ok):X.Ok:=
 ⟨ok.mod,ok.kind,ok.glob,ok.blt,ok.above,ok.inj,ok.has,ok.cab,ok.hd,ok.frames,ok.stk,ok.exf,ok.bs,ok.bsz,ok.noex,ok.exfs,ok.funs,ok.frf⟩
section
variable {X:Cx} {pins:List (Addr×Obj)} {σ:St} {H:Hp} {s:Shared} {E:Value->Shared->Prop}
theorem Inv.wish (I:Inv X pins σ H s)(E:Value->Shared->Prop):Inv (X.wish E) pins σ H s:=⟨I.ok.wish E,I.os,I.bare,I.base,I.loc,I.cell,I.free,I.freeC,I.pin,I.hok,I.len⟩
theorem Inv.unwish (I:Inv (X.wish E) pins σ H s):Inv X pins σ H s:=⟨I.ok.unwish,I.os,I.bare,I.base,I.loc,I.cell,I.free,I.freeC,I.pin,I.hok,I.len⟩
theorem SP.unwish {D:Ends}{f:Flow}{s':Shared}(h:SP (X.wish E) pins D f s'):SP X pins D f s':=by
 cases f with
 | next=>obtain⟨σ',H',I,q⟩:=h;exact⟨σ',H',I.unwish,q⟩
 | brk=>obtain⟨σ',H',I,q⟩:=h;exact⟨σ',H',I.unwish,q⟩
 | cont=>obtain⟨σ',H',I,q⟩:=h;exact⟨σ',H',I.unwish,q⟩
 | ret u=>obtain⟨v,σ',H',I,r,q⟩:=h;exact⟨v,σ',H',I.unwish,r,q⟩
theorem PSs.nox {st:List Stmt}{t:TS}(h:PSs X.nox st t):PSs X st t:=λpins s σ H D I hw=>
 wpAny_mono (h pins s σ H D (I.wish _) hw) (λ_ _ q=>q.unwish) λ_ _ z=>False.elim z
end
section
variable {X:Cx} {st:Stmt} {rest:List Stmt} {t u:TS} {e:Expr} {te:TE} {pos:Pos}
noncomputable def zfw:TS:=λD σ H=>D.nx σ H
noncomputable def tSeq (t u:TS):TS:=λD σ H=>t { D with nx:=u D } σ H
theorem KJ:PSs X [] zfw:=λ_ _ σ H _ I h=>wpAny_execs_nil ⟨σ,H,I,h⟩
theorem VE (h1:PS X st t)(h2:PSs X rest u):PSs X (st::rest) (tSeq t u):=by
 intro pins s σ H D I h
 refine wpAny_execs_cons (thn (h1 pins s σ H { D with nx:=u D } I h) λf s1 q=>?_)
 cases f with
 | next=>
  obtain⟨σ',H',I',q⟩:=q
  exact h2 pins s1 σ' H' D I' q
 | ret v=>exact q
 | brk=>exact q
 | cont=>exact q
theorem Inv.quiet {pins:List (Addr×Obj)}{σ:St}{H:Hp}{s:Shared}(I:Inv X pins σ H s):interactive X.env=false:=by simp [interactive,I.ok.kind]
noncomputable def zfx (te:TE):TS:=λD σ H=>te σ H λ_ H1=>D.nx σ H1
theorem zd6 (he:PE X e te)(hs:swapsWith e none pos.line X.env=pure false:=by rfl):PS X (.Expr e pos) (zfx te):=by
 intro pins s σ H D I h
 exact wpAny_Expr_any (thn (he pins s σ H _ I h) λv s1 ⟨x,H1,I1,r1,q1⟩=>⟨σ,H1,I1,q1⟩) I.quiet hs
noncomputable def tRet (te:TE):TS:=λD σ H=>te σ H D.rt
theorem zgo (he:PE X e te):PS X (.Return (some e) pos) (tRet te):=by
 intro pins s σ H D I h
 exact wpAny_Return_some (thn (he pins s σ H _ I h) λv s1 ⟨x,H1,I1,r1,q1⟩=>⟨x,σ,H1,I1,r1,q1⟩)
noncomputable def tIfS (c:TT)(t u:TS):TS:=λD σ H=>c σ H λb H1=>if b=true then t D σ H1 else u D σ H1
theorem ziw {c:Expr}{a b:List Stmt}{tc:TT}(hc:PT X c tc)(ha:PSs X a t)(hb:PSs X b u):PS X (.If c a b pos) (tIfS tc t u):=by
 intro pins s σ H D I h
 refine wpAny_If (thn (hc pins s σ H _ I h) λd s1 ⟨H1,I1,q1⟩=>?_)
 cases d with
 | true=>exact ha pins s1 σ H1 D I1 q1
 | false=>exact hb pins s1 σ H1 D I1 q1
end
noncomputable abbrev TG:=V->St->Hp->(St->Hp->Prop)->Prop
noncomputable abbrev TGs:=List V->St->Hp->(St->Hp->Prop)->Prop
def PG (X:Cx)(target:Expr)(t:TG):Prop:=
 ∀ (pins:List (Addr×Obj)) (s:Shared) (σ:St) (H:Hp) (v:V) (u:Value) (Q:St->Hp->Prop),Inv X pins σ H s->RelV v u->t v σ H Q ->
  wpAny (model X.prog X.w) X.A (assign target X.env u) (λ_ s'=>∃ σ' H',Inv X pins σ' H' s'/\Q σ' H') X.xe s
def PGs (X:Cx)(ts:Lg)(t:TGs):Prop:=
 ∀ (pins:List (Addr×Obj)) (s:Shared) (σ:St) (H:Hp) (vs:List V) (us:Lf) (Q:St->Hp->Prop),Inv X pins σ H s->Vals vs us->t vs σ H Q ->
  wpAny (model X.prog X.w) X.A (assignInOrder ((assignEach ts X.env).map (·.2)) us) (λ_ s'=>∃ σ' H',Inv X pins σ' H' s'/\Q σ' H') X.xe s
noncomputable abbrev TSet:=V->V->V->Hp->(Hp->Prop)->Prop
def PSet (X:Cx)(t:TSet):Prop:=
 ∀ (pins:List (Addr×Obj)) (s:Shared) (σ:St) (H:Hp) (o i v:V) (ov iv u:Value) (Q:Hp->Prop),Inv X pins σ H s->RelV o ov->RelV i iv->RelV v u->t o i v H Q ->
  wpAny (model X.prog X.w) X.A (setItem ov iv u) (λ_ s'=>∃ H',Inv X pins σ H' s'/\Q H') X.xe s
noncomputable abbrev TIp:=V->V->Hp->VK->Prop
def PIp (X:Cx)(op:Operator)(t:TIp):Prop:=
 ∀ (pins:List (Addr×Obj)) (s:Shared) (σ:St) (H:Hp) (x y:V) (v u:Value) (Q:VK),Inv X pins σ H s->RelV x v->RelV y u->t x y H Q ->
  wpAny (model X.prog X.w) X.A (inplaceOp op v u) (EP X pins σ Q) X.xe s
section
variable {X:Cx} {pos:Pos}
noncomputable def vn (i:Nat):TG:=λv σ H Q=>Q (σ.set i (some v)) H
theorem Xl {i:Nat}{x:Str}(hN:X.N.Nodup)(hi:X.N[i]? = some x)(hx:Loc X.env.scope x)(hf:X.fn x=true\/X.env.scope.names.lookup x=some .local:=by first | exact .inl rfl | exact .inr rfl | assumption):PG X (.Name x pos) (vn i):=by
 intro pins s σ H v u Q I r h
 exact wpAny_assign_Name (Q6 I hN hi hx r (λs' I'=>⟨_,H,I',h⟩) hf)
noncomputable def gNil:TGs:=λvs σ H Q=>vs=[]/\Q σ H
noncomputable def VF (t:TG)(u:TGs):TGs:=λvs σ H Q=>∃ v r,vs=v::r/\t v σ H λσ' H'=>u r σ' H' Q
theorem KL:PGs X [] gNil:=by
 intro pins s σ H vs us Q I r h
 obtain⟨e,h⟩:=h
 subst e
 cases r
 exact assignInOrder_nil ⟨σ,H,I,h⟩
theorem VG {e:Expr}{es:Lg}{t:TG}{u:TGs}(h1:PG X e t)(h2:PGs X es u)
  (hs:(assignEach (e::es) X.env).map (·.2)=assign e X.env::(assignEach es X.env).map (·.2):=by rfl):PGs X (e::es) (VF t u):=by
 intro pins s σ H vs us Q I r h
 obtain⟨v,vr,e1,h⟩:=h
 subst e1
 cases r with
 | cons r rr=>
  rw [hs]
  refine assignInOrder_cons (thn (h1 pins s σ H _ _ _ I r h) λ_ s1 ⟨σ1,H1,I1,q1⟩=>?_)
  exact h2 pins s1 σ1 H1 _ _ Q I1 rr q1
noncomputable def gTup (K:Le)(n:Nat)(t:TGs):TG:=λv σ H Q=>∃ a xs,v=.ref a/\SqT K H a xs/\xs.length=n/\t xs σ H Q
theorem zbP {es:Lg}{k:Nat}{t:TGs}{n:Nat}(hc:X.calm=true)(h:PGs X es t)
  (hn:(assignEach es X.env).length=n:=by rfl) (hst:(assignEach es X.env).findIdx? (·.1)=none:=by rfl):PG X (.Tuple es k pos) (gTup X.K n t):=by
 intro pins s σ H v u Q I r hw
 obtain⟨a,xs,e1,hq,hl,hw⟩:=hw
 subst e1
 cases r
 obtain⟨its,rv,ht,hz⟩:=I.tuple hq
 refine assign_Tuple_tuple (I.ok.hd hc) ht (by simp [hn,← hl,rv.length]) hst λh' hx=>?_
 have I1:Inv X pins σ H { s with heap:=h' }:=I.kept (t':=s.toks) λb o e=>hx b o (uP (Heap.lt_size e)) e
 exact h pins _ σ H xs _ Q I1 (by simpa using rv) hw
noncomputable def gSub (to ti:TE)(t:TSet):TG:=λv σ H Q=>to σ H λo H1=>ti σ H1 λi H2=>t o i v H2 λH3=>Q σ H3
theorem zgp {o i:Expr}{to ti:TE}{t:TSet}(ho:PE X o to)(hi:PE X i ti)(hs:PSet X t)
  (ha:∀ v,assign (.Subscript o i pos) X.env v=(do
   let ov ← holding [v] (eval o X.env)
   let iv ← holding [v,ov] (eval i X.env)
   standAt pos
   holding [v,ov,iv] (setItem ov iv v)
   release [v,ov,iv] []):=by intro _;rfl):PG X (.Subscript o i pos) (gSub to ti t):=by
 intro pins s σ H v u Q I r h
 rw [ha]
 refine wpAny_bind (wpAny_holding (thn (ho pins s σ H _ I h) λov s1 ⟨x,H1,I1,r1,q1⟩=>?_))
 refine wpAny_bind (wpAny_holding (thn (hi pins s1 σ H1 _ I1 q1) λiv s2 ⟨y,H2,I2,r2,q2⟩=>?_))
 refine wpAny_bind (wpAny_standAt (wpAny_bind (wpAny_holding (thn (hs pins s2 σ H2 x y v ov iv u _ I2 r1 r2 r q2) λ_ s3 ⟨H3,I3,q3⟩=>?_))))
 exact wpAny_release ⟨σ,H3,I3,q3⟩
noncomputable def tAsg (te:TE)(g:TG):TS:=λD σ H=>te σ H λx H1=>g x σ H1 D.nx
theorem zgq {tg e:Expr}{te:TE}{g:TG}(he:PE X e te)(hg:PG X tg g)(hs:swapsWithSole [tg] e pos.line X.env=pure false:=by rfl) (hw:swappedStores [tg] e X.env=pure none:=by rfl)
  (h1:(assignEach [tg] X.env).map (·.2)=[assign tg X.env]:=by rfl):PS X (.Assign [tg] e pos) (tAsg te g):=by
 intro pins s σ H D I h
 refine wpAny_Assign_stores (thn (he pins s σ H _ I h) λv s1 ⟨x,H1,I1,r1,q1⟩=>?_) hs hw
 rw [h1]
 exact thn (hg pins s1 σ H1 x v _ I1 r1 q1) λ_ s2 q=>q
theorem zgr {i:Nat}{x:Str}{e:Expr}{te:TE}{pos':Pos}(hN:X.N.Nodup)(hi:X.N[i]? = some x)(hx:Loc X.env.scope x)(he:PE X e te)(hs:swapsWith e (some (.Name x pos')) pos.line X.env=pure false:=by rfl) (hf:X.fn x=true\/X.env.scope.names.lookup x=some .local:=by first | exact .inl rfl | exact .inr rfl | assumption) :
  PS X (.Assign [.Name x pos'] e pos) (tAsg te (vn i)):=by
 intro pins s σ H D I h
 refine wpAny_Assign_Name (thn (he pins s σ H _ I h) λv s1 ⟨y,H1,I1,r1,q1⟩=>?_) hs
 exact Q6 I1 hN hi hx r1 (λs2 I2=>⟨_,H1,I2,q1⟩) hf
noncomputable def tAug (i:Nat)(te:TE)(ti:TIp):TS:=λD σ H=>∃ x,σ[i]? = some (some x)/\te σ H λy H1=>ti x y H1 λz H2=>D.nx (σ.set i (some z)) H2
theorem zbQ {i:Nat}{x:Str}{e:Expr}{te:TE}{op:Operator}{ti:TIp}{pos':Pos}(hN:X.N.Nodup)(hi:X.N[i]? = some x)(hx:Loc X.env.scope x)(he:PE X e te)(ho:PIp X op ti)(hf:X.fn x=true\/X.env.scope.names.lookup x=some .local:=by first | exact .inl rfl | exact .inr rfl | assumption) :
  PS X (.AugAssign (.Name x pos') op e pos) (tAug i te ti):=by
 intro pins s σ H D I h
 obtain⟨v,e1,h⟩:=h
 obtain⟨m,hn,hl⟩:=I.loc
 have vis:Vis X.env.scope x:=by rcases hx with k | k;exact .inl k;exact .inr (.inl k)
 obtain⟨u,r,l⟩:=hl i x v hi e1 vis
 refine wpAny_AugAssign_Name ?_
 have go:wpAny (model X.prog X.w) X.A (eval e X.env) (λw s₂=>wpAny (model X.prog X.w) X.A (inplaceOp op u w) (λr s₃=>wpAny (model X.prog X.w) X.A (storeName X.env x r) (λ_=>SP X pins D .next) X.xe s₃) X.xe s₂) X.xe s:=by
  refine thn (he pins s σ H _ I h) λw s1 ⟨y,H1,I1,r1,q1⟩=>?_
  refine thn (ho pins s1 σ H1 v y u w _ I1 r r1 q1) λz s2 ⟨zv,H2,I2,r2,q2⟩=>?_
  exact Q6 I2 hN hi hx r2 (λs3 I3=>⟨_,H2,I3,q2⟩) hf
 rcases l with⟨hk,hm⟩ | ⟨hk,c,hc,hcell⟩
 ·exact wpAny_loadName_local I.ok.kind hk hn hm go
 ·rcases hk with hk | hk
  ·exact wpAny_loadName_cell I.ok.kind hk hc hcell go
  ·rcases hx with k | k
   ·have:X.env.scope.names.lookup x=some .free:=hk
    rw [k] at this;cases this
   ·have:X.env.scope.names.lookup x=some .free:=hk
    rw [k] at this;cases this
noncomputable def ipI (f:Int->Int->Int):TIp:=λx y H Q=>∃ i j,x=.int i/\y=.int j/\Q (.int (f i j)) H
theorem zgs:PIp X .Add (ipI λi j=>i+j):=by
 intro pins s σ H x y v u Q I r1 r2 h
 obtain⟨i,j,e1,e2,q⟩:=h
 subst e1;subst e2
 obtain⟨t,rfl⟩:=r1
 obtain⟨t',rfl⟩:=r2
 exact iadd_int ⟨.int _,H,I.tok _,⟨_,rfl⟩,q⟩
theorem zgt:PIp X .Sub (ipI λi j=>i - j):=by
 intro pins s σ H x y v u Q I r1 r2 h
 obtain⟨i,j,e1,e2,q⟩:=h
 subst e1;subst e2
 obtain⟨t,rfl⟩:=r1
 obtain⟨t',rfl⟩:=r2
 exact isub_int ⟨.int _,H,I.tok _,⟨_,rfl⟩,q⟩
end
section
variable {X:Cx} {pos:Pos}
noncomputable def zbR (c:TT)(tb:TS):TS:=λD σ H=>∃ W:Nat->St->Hp->Prop,(∃ m,W m σ H)/\∀ m σ H,W m σ H ->
 c σ H λb H1=>if b=true then ∃ N:St->Hp->Prop,(∀ σ' H',N σ' H'->∃ m',m' < m/\W m' σ' H')/\tb { D with nx:=N,ct:=N,bk:=D.nx } σ H1 else D.nx σ H1
theorem zbS {c:Expr}{body:List Stmt}{tc:TT}{tb:TS}(hp:PassesOwn (model X.prog X.w) X.A X.env X.xe)(hc:PT X c tc)(hb:PSs X body tb):PS X (.While c body [] pos) (zbR tc tb):=by
 intro pins s σ H D I h
 obtain⟨W,⟨m0,w0⟩,turn⟩:=h
 refine wpAny_While (codeAny_whileLoop (λn s'=>∃ σ' H',Inv X pins σ' H' s'/\W n σ' H') ?_ m0 ⟨σ,H,I,w0⟩)
 rintro n s1 ⟨σ1,H1,I1,w1⟩
 refine wpAny_passesOwn hp (thn (hc pins s1 σ1 H1 _ I1 (turn n σ1 H1 w1)) λb s2 ⟨H2,I2,q2⟩=>?_)
 cases b with
 | true=>
  obtain⟨N,hN,q2⟩:=q2
  rw [uw rfl]
  refine wpAny_passesOwn hp (thn (hb pins s2 σ1 H2 _ I2 q2) λf s3 q3=>?_)
  cases f with
  | next=>
   obtain⟨σ3,H3,I3,n3⟩:=q3
   obtain⟨m',hm,w3⟩:=hN σ3 H3 n3
   exact⟨m',hm,σ3,H3,I3,w3⟩
  | cont=>
   obtain⟨σ3,H3,I3,n3⟩:=q3
   obtain⟨m',hm,w3⟩:=hN σ3 H3 n3
   exact⟨m',hm,σ3,H3,I3,w3⟩
  | brk=>exact q3
  | ret v=>exact q3
 | false=>
  rw [uv uD]
  exact wpAny_execs_nil ⟨σ1,H2,I2,q2⟩
end
structure It where
 go:Nat->Hp->Prop
 yld:Nat->Hp->V->Hp->Prop
 stop:Nat->Hp->Prop
def FpOk (X:Cx)(pins:List (Addr×Obj))(H:Hp)(b:Addr):Prop:=
 H b=none/\b≠X.env.locals/\b∉X.fs/\(b∈X.ex\/X.s₀.heap.objs.size<=b)/\(∀ x c,X.env.cells.lookup x=some c->c≠b)/\∀ p∈X.pn++pins,p.1≠b
theorem Inv.fpOk {X:Cx}{pins:List (Addr×Obj)}{σ:St}{H H':Hp}{s:Shared}{b:Addr}(I:Inv X pins σ H s)(hb:s.heap.objs.size<=b)(hn:H' b=none):FpOk X pins H' b:=by
 refine⟨hn,gO (uI I.lt hb),I.nofs hb,.inr (uJ I.sz hb),λx c e z=>?_,λp hp z=>?_⟩
 ·obtain⟨v,q⟩:=I.cell x c e
  exact absurd (uI q.lt (by rw [z];exact hb)) (u9 _)
 ·exact absurd (uI (Heap.lt_size (I.pin p hp).1) (by rw [z];exact hb)) (u9 _)
structure Turn (P:Program)(w:World)(K:Le)(tg:Expr)(J:It)(fp:Ld)(it:Addr)(tn:Nat->Heap->Prop):Prop where
 mem:it∈fp
 obj:∀ i h,tn i h->∀ b∈fp,∃ o,h.get? b=some o/\∀ v,o.data≠.cell v
 keep:∀ i h h',tn i h->(∀ b∈fp,∀ o,h.get? b=some o->h'.get? b=some o)->tn i h'
 item:∀ (X:Cx),X.prog=P->X.w=w->X.K=K->X.calm=true->∀ (i:Nat) (pins:List (Addr×Obj)) (s:Shared) (σ:St) (H:Hp) (E:Value->Shared->Prop),Inv X pins σ H s->(∀ b∈fp,FpOk X pins H b)->tn i s.heap->J.go i H ->
  wpAny (model P w) X.A (pyNext (.ref it)) (λr s1=>∃ u,r=some u /\
   wpAny (model P w) X.A (letOwnedTupleGo tg (.ref it) u) (λ_ s2=>∃ x H',Inv X pins σ H' s2/\RelV x u/\J.yld i H x H'/\tn (i+1) s2.heap/\∀ b∈fp,H' b=none) E s1) E s
 done:∀ (X:Cx),X.prog=P->X.w=w->X.K=K->X.calm=true->∀ (i:Nat) (pins:List (Addr×Obj)) (s:Shared) (σ:St) (H:Hp) (E:Value->Shared->Prop),Inv X pins σ H s->(∀ b∈fp,FpOk X pins H b)->tn i s.heap->J.stop i H ->
  wpAny (model P w) X.A (pyNext (.ref it)) (λr s1=>r=none/\Inv X pins σ H s1) E s
 self:∀ (A:Around) (i:Nat) (s:Shared) (Q:Value->Shared->Prop) (E:Value->Shared->Prop),tn i s.heap->Q (.ref it) s->wpAny (model P w) A (pyIter (.ref it)) Q E s
noncomputable abbrev TI:=St->Hp->(It->Hp->Prop)->Prop
def PIE (X:Cx)(pins:List (Addr×Obj))(σ:St)(tg:Expr)(R:It->Hp->Prop)(itv:Value)(s2:Shared):Prop:=
 ∃ (it:Addr) (fp:Ld) (tn:Nat->Heap->Prop) (J:It) (H':Hp),itv=.ref it/\Inv X pins σ H' s2/\Turn X.prog X.w X.K tg J fp it tn/\tn 0 s2.heap/\(∀ b∈fp,FpOk X pins H' b)/\R J H'
def PI (X:Cx)(tg iter:Expr)(wi:TI):Prop:=
 ∀ (pins:List (Addr×Obj)) (s:Shared) (σ:St) (H:Hp) (R:It->Hp->Prop),Inv X pins σ H s->wi σ H R ->
  wpAny (model X.prog X.w) X.A (eval iter X.env) (λv s1=>wpAny (model X.prog X.w) X.A (pyIter v) (PIE X pins σ tg R) X.xe s1) X.xe s
theorem KN {M:Model}{A:Around}{E:Value->Shared->Prop}{s:Shared}{tg:Expr}{it:Addr}{u:Value}{o:Obj}{n:String}{vs:Array Value}{Q:Unit->Shared->Prop}(ho:s.heap.get? it=some o)(hc:o.cls=.type n)(hd:o.data=.fields vs)
    (hn:["enumerate","zip","dict_itemiterator","dict_reverseitemiterator","odict_iterator","itertools.zip_longest","itertools.pairwise"].contains n=false) (hQ:Q () s):wpAny M A (letOwnedTupleGo tg (.ref it) u) Q E s:=by
  unfold letOwnedTupleGo
  cases tg<;>first
    | exact wpAny_pure hQ
    | (cases u<;>first
        | exact wpAny_pure hQ
        | (refine wpAny_bind (wpAny_load ho ?_)
           rw [hc,hd]
           show wpAny M A (if (["enumerate","zip","dict_itemiterator","dict_reverseitemiterator","odict_iterator","itertools.zip_longest","itertools.pairwise"].contains n&&vs[0]? == some (rawInt _))=true then _ else _) Q E s
           rw [uv (by intro h;rw [hn,Ge] at h;cases h)]
           exact wpAny_pure hQ))
noncomputable def Itl (K:Le)(a:Addr):It:=
 ⟨λi H=>∃ xs x,SqL K H a xs/\xs[i]? = some x,λi H x H'=>H' = H/\∀ xs,SqL K H a xs->xs[i]? = some x,λi H=>∃ xs,SqL K H a xs/\xs.length<=i⟩
noncomputable def Itt (K:Le)(a:Addr):It:=
 ⟨λi H=>∃ xs x,SqT K H a xs/\xs[i]? = some x,λi H x H'=>H' = H/\∀ xs,SqT K H a xs->xs[i]? = some x,λi H=>∃ xs,SqT K H a xs/\xs.length<=i⟩
noncomputable def Itr (lo:Int)(n:Nat):It:=⟨λi _=>i<n,λi H x H'=>H' = H/\x=.int (lo+i),λi _=>n<=i⟩
theorem zaY {P:Program}{w:World}{K:Le}{tg:Expr}(a it:Addr):Turn P w K tg (Itl K a) [it] it (λi h=>h.IsListIter it a i) where
 mem:=by simp
 obj:=λi h st b hb=>by
  have e:b=it:=by simpa using hb
  subst e
  obtain⟨o,e,c,d⟩:=st
  exact⟨o,e,λv z=>by rw [d] at z;cases z⟩
 keep:=λi h h' st k=>st.at λo e=>k it (by simp) o e
 item:=by
  intro X hP hw hK hc i pins s σ H E I hf st hg
  subst hP hw hK
  obtain⟨xs,x,hq,hx⟩:=hg
  obtain⟨its,rv,p,hz⟩:=I.list hq
  obtain⟨u,hu,ru⟩:=rv.get hx
  obtain⟨f0,f1,f2,f3,f4,f5⟩:=hf it (by simp)
  refine wpAny_pyNext_list_item st p.isList (x:=u) (by simpa using hu) λh' st' sb=>?_
  have I1:Inv X pins σ H { s with heap:=h' }:=I.turned (t':=s.toks) (λb o hb e=>(sb.2 b hb).trans e) f0 f1 f3 f4 f5
  obtain⟨o,e,c,d⟩:=id st'
  exact⟨u,rfl,KN (s:={ s with heap:=h' }) e c d (by decide) ⟨x,H,I1,ru,⟨rfl,λys hy=>by rw [I.list_inj hy hq];exact hx⟩,st',λb hb=>(hf b hb).1⟩⟩
 done:=by
  intro X hP hw hK hc i pins s σ H E I hf st hg
  subst hP hw hK
  obtain⟨xs,hq,hx⟩:=hg
  obtain⟨its,rv,p,hz⟩:=I.list hq
  obtain⟨f0,f1,f2,f3,f4,f5⟩:=hf it (by simp)
  have hl:=rv.length
  exact wpAny_pyNext_list_end (I.ok.hd hc) st p.isList (by simp;lia) λh' eb=>⟨rfl,I.turned (t':=s.toks) (λb o hb e=>eb b o hb e) f0 f1 f3 f4 f5⟩
 self:=λ_ _ _ _ _ st h=>wpAny_pyIter_listiter st h
theorem YL {P:Program}{w:World}{K:Le}{tg:Expr}(a it:Addr):Turn P w K tg (Itt K a) [it] it (λi h=>h.IsTupleIter it a i) where
 mem:=by simp
 obj:=λi h st b hb=>by
  have e:b=it:=by simpa using hb
  subst e
  obtain⟨o,e,c,d⟩:=st
  exact⟨o,e,λv z=>by rw [d] at z;cases z⟩
 keep:=λi h h' st k=>st.at λo e=>k it (by simp) o e
 item:=by
  intro X hP hw hK hc i pins s σ H E I hf st hg
  subst hP hw hK
  obtain⟨xs,x,hq,hx⟩:=hg
  obtain⟨its,rv,p,hz⟩:=I.tuple hq
  obtain⟨u,hu,ru⟩:=rv.get hx
  obtain⟨f0,f1,f2,f3,f4,f5⟩:=hf it (by simp)
  refine wpAny_pyNext_tuple_item st (show s.heap.IsTuple a its.toArray from p) (x:=u) (by simpa using hu) λh' st' sb=>?_
  have I1:Inv X pins σ H { s with heap:=h' }:=I.turned (t':=s.toks) (λb o hb e=>(sb.2 b hb).trans e) f0 f1 f3 f4 f5
  obtain⟨o,e,c,d⟩:=id st'
  exact⟨u,rfl,KN (s:={ s with heap:=h' }) e c d (by decide) ⟨x,H,I1,ru,⟨rfl,λys hy=>by rw [I.tuple_inj hy hq];exact hx⟩,st',λb hb=>(hf b hb).1⟩⟩
 done:=by
  intro X hP hw hK hc i pins s σ H E I hf st hg
  subst hP hw hK
  obtain⟨xs,hq,hx⟩:=hg
  obtain⟨its,rv,p,hz⟩:=I.tuple hq
  obtain⟨f0,f1,f2,f3,f4,f5⟩:=hf it (by simp)
  have hl:=rv.length
  exact wpAny_pyNext_tuple_end (I.ok.hd hc) st (show s.heap.IsTuple a its.toArray from p) (by simp;lia) λh' eb=>⟨rfl,I.turned (t':=s.toks) (λb o hb e=>eb b o hb e) f0 f1 f3 f4 f5⟩
 self:=λ_ _ _ _ _ st h=>wpAny_pyIter_tupleiter st h
theorem YM {P:Program}{w:World}{K:Le}{tg:Expr}(it:Addr)(lo:Int)(n:Nat):Turn P w K tg (Itr lo n) [it] it (λi h=>IsRangeIter h it (lo+(i:Nat) * 1) ((n:Int) - (i:Nat)) 1) where
 mem:=by simp
 obj:=λi h st b hb=>by
  have e:b=it:=by simpa using hb
  subst e
  exact⟨_,st,λv z=>by
   have z':Data.fields _=Data.cell v:=z
   cases z'⟩
 keep:=λi h h' st k=>k it (by simp) _ st
 item:=by
  intro X hP hw hK hc i pins s σ H E I hf st hg
  subst hP hw hK
  obtain⟨f0,f1,f2,f3,f4,f5⟩:=hf it (by simp)
  have W:=Walks.range (prog:=X.prog) (w:=X.w) (I.ok.hd hc) it lo 1 n
  refine W.item i s _ _ hg st λv h' tk hv st' kk=>?_
  obtain⟨t,rfl⟩:=hv
  have I1:Inv X pins σ H { s with heap:=h',toks:=tk }:=I.turned (λb o hb e=>kk b o (by simpa using hb) e) f0 f1 f3 f4 f5
  refine⟨_,rfl,KN (s:={ s with heap:=h',toks:=tk }) (n:="range_iterator") st' rfl rfl (by decide) ⟨.int (lo+i),H,I1,⟨t,?_⟩,⟨rfl,rfl⟩,st',λb hb=>(hf b hb).1⟩⟩
  rw [Int.mul_one]
 done:=by
  intro X hP hw hK hc i pins s σ H E I hf st hg
  subst hP hw hK
  obtain⟨f0,f1,f2,f3,f4,f5⟩:=hf it (by simp)
  exact wpAny_pyNext_range_end (I.ok.hd hc) st (by have:n<=i:=hg;lia) λh' eb=>⟨rfl,I.turned (t':=s.toks) (λb o hb e=>eb b o hb e) f0 f1 f3 f4 f5⟩
 self:=λ_ _ _ _ _ st h=>wpAny_pyIter_rangeiter st h
section
variable {X:Cx} {tg:Expr}
theorem VH {pins:List (Addr×Obj)}{σ:St}{H:Hp}{s:Shared}{R:It->Hp->Prop}{E:Value->Shared->Prop}{lo hi:Int}{t u v:Tok}{tk:Nat}(I:Inv X pins σ H s)(h1:-(2 ^ 62)<=lo)(h2:lo<2 ^ 62)(h3:-(2 ^ 62)<=hi)(h4:hi<2 ^ 62)
  (q:R (Itr lo (hi - lo).toNat) H):wpAny (model X.prog X.w) X.A (pyIter (.ref s.heap.objs.size)) (PIE X pins σ tg R) E { s with heap:=s.heap.push { cls:=.type "range",data:=.fields #[.int lo t,.int hi u,.int 1 v] },toks:=tk }:=by
 refine wpAny_pyIter_range (IsRange.new ..) (small_one h1 h2 h3 h4) ?_
 have I1:Inv X pins σ H { s with heap:=s.heap.push { cls:=.type "range",data:=.fields #[.int lo t,.int hi u,.int 1 v] },toks:=tk }:=I.kept λb o e=>Heap.get?_push_of_some _ e
 refine⟨(s.heap.push { cls:=.type "range",data:=.fields #[.int lo t,.int hi u,.int 1 v] }).objs.size,[(s.heap.push { cls:=.type "range",data:=.fields #[.int lo t,.int hi u,.int 1 v] }).objs.size],_,_,H,rfl,
  I1.kept (t':=tk) λb o e=>Heap.get?_push_of_some _ e,YM _ lo (hi - lo).toNat,?_,λb hb=>?_,q⟩
 ·have e1:lo+((0:Nat):Int) * 1=lo:=by simp
  have e2:(((hi - lo).toNat:Nat):Int) - ((0:Nat):Int)=Builtin.Range.rangeSize lo hi 1:=by rw [rangeSize_one];split<;>lia
  show IsRangeIter _ _ (lo+((0:Nat):Int) * 1) ((((hi - lo).toNat:Nat):Int) - ((0:Nat):Int)) 1
  rw [e1,e2]
  exact Heap.get?_push_size _ rfl
 ·have e:b=(s.heap.push { cls:=.type "range",data:=.fields #[.int lo t,.int hi u,.int 1 v] }).objs.size:=by simpa using hb
  subst e
  exact I1.fpOk (ui _) (I1.hok.fresh (ui _))
noncomputable def zix (ta:TA):TI:=λσ H R=>ta σ H λvs H1=>∃ j:Int,vs=[.int j]/\-(2 ^ 62)<=j/\j<2 ^ 62/\R (Itr 0 j.toNat) H1
noncomputable def ziy (ta:TA):TI:=λσ H R=>ta σ H λvs H1=>∃ i j:Int,vs=[.int i,.int j]/\(-(2 ^ 62)<=i/\i<2 ^ 62/\-(2 ^ 62)<=j/\j<2 ^ 62)/\R (Itr i (j - i).toNat) H1
theorem zaZ {a:Expr}{ta:TA}{p pos:Pos}(hg:Gl X "range")(hm:X.mg "range" = none)(ha:PA X [a] ta)(hs:starEach [a] X.env=[(false,eval a X.env)]:=by rfl):PI X tg (.Call (.Name "range" p) [a] [] pos) (zix ta):=by
 intro pins s σ H R I h
 refine Call_ (ZT I hg hm boot_range (PyProof.Rows.callWith_type1 (thn (ha pos pins s σ H _ I h) λus s1 ⟨vs,H1,I1,r1,q1⟩=>?_) hs rfl))
 obtain⟨j,e,q1,q2,q⟩:=q1
 subst e
 cases r1 with
 | cons r rr=>
  cases rr
  obtain⟨t,rfl⟩:=r
  exact call_range_1 (VH I1 (by lia) (by lia) q1 q2 (by simpa using q))
theorem za0 {a b:Expr}{ta:TA}{p pos:Pos}(hg:Gl X "range")(hm:X.mg "range" = none)(ha:PA X [a,b] ta)(hs:starEach [a,b] X.env=[(false,eval a X.env),(false,eval b X.env)]:=by rfl) (hs2:starEach [b] X.env=[(false,eval b X.env)]:=by rfl) :
  PI X tg (.Call (.Name "range" p) [a,b] [] pos) (ziy ta):=by
 intro pins s σ H R I h
 refine Call_ (ZT I hg hm boot_range (PyProof.Rows.callWith_type1 (thn (ha pos pins s σ H _ I h) λus s1 ⟨vs,H1,I1,r1,q1⟩=>?_) (by rw [hs,hs2]) (by rw [hs2];rfl)))
 obtain⟨i,j,e,⟨q1,q2,q3,q4⟩,q⟩:=q1
 subst e
 cases r1 with
 | cons r rr=>
  cases rr with
  | cons r' rr=>
   cases rr
   obtain⟨t,rfl⟩:=r
   obtain⟨t',rfl⟩:=r'
   exact call_range_2 (VH I1 q1 q2 q3 q4 q)
noncomputable def tFor (wi:TI)(g:TG)(tb:TS):TS:=λD σ H=>wi σ H λJ H1=>∃ W:Nat->Nat->St->Hp->Prop,(∃ m,W 0 m σ H1)/\∀ i m σ H,W i m σ H ->
 (J.stop i H/\D.nx σ H)\/(J.go i H/\∃ N:St->Hp->Prop,(∀ σ' H',N σ' H'->∃ m',m' < m/\W (i+1) m' σ' H')/\∀ x H',J.yld i H x H'->g x σ H' λσ2 H2=>tb { D with nx:=N,ct:=N,bk:=D.nx } σ2 H2)
noncomputable def ZU (fp:Ld)(h:Heap):List (Addr×Obj):=fp.filterMap λb=>(h.get? b).map λo=>(b,o)
theorem vG {fp:Ld}{h:Heap}{b:Addr}{o:Obj}(hb:b∈fp)(e:h.get? b=some o):(b,o)∈ZU fp h:=List.mem_filterMap.mpr ⟨b,hb,by rw [e];rfl⟩
theorem za1 {fp:Ld}{h:Heap}{p:Addr×Obj}(hp:p∈ZU fp h):p.1∈fp/\h.get? p.1=some p.2:=by
 obtain⟨b,hb,e⟩:=List.mem_filterMap.mp hp
 cases q:h.get? b with
 | none=>rw [q] at e;cases e
 | some o=>
  rw [q] at e
  have e':(b,o)=p:=uG e
  subst e'
  exact⟨hb,q⟩
theorem Inv.pinned {pins:List (Addr×Obj)}{σ:St}{H:Hp}{s:Shared}{fp:Ld}(I:Inv X pins σ H s)(hf:∀ b∈fp,FpOk X pins H b)(ho:∀ b∈fp,∃ o,s.heap.get? b=some o/\∀ v,o.data≠.cell v):Inv X (pins++ZU fp s.heap) σ H s:=
 I.pins_of λp hp=>(ur.mp hp).elim (λz=>I.pin p (uB _ z)) λz=>by
  obtain⟨hb,e⟩:=za1 z
  obtain⟨f0,f1,f2,_⟩:=hf p.1 hb
  obtain⟨o,e',d⟩:=ho p.1 hb
  rw [e] at e';cases e'
  exact⟨e,f0,f1,f2,d⟩
theorem Inv.unpinned {pins pl:List (Addr×Obj)}{σ:St}{H:Hp}{s:Shared}(I:Inv X (pins++pl) σ H s):Inv X pins σ H s:=I.pins_of λp hp=>I.pin p (uB _ (uX _ hp))
theorem zgu {iter:Expr}{body:List Stmt}{wi:TI}{g:TG}{tb:TS}{pos:Pos}(hp:PassesOwn (model X.prog X.w) X.A X.env X.xe)(hc:X.calm=true)(hi:PI X tg iter wi)(hg:PG X tg g)(hb:PSs X body tb)
  (hs:∀ x,foldedSetIterable iter X.env x=pure x:=by intro _;rfl):PS X (.For tg iter body [] pos) (tFor wi g tb):=by
 intro pins s σ H D I h
 refine wpAny_For (thn (hi pins s σ H _ I h) λv s1 h1=>thn h1 λitv s2 h2=>?_) hs
 obtain⟨it,fp,tn,J,H2,e,I2,T,st2,f2,W,⟨m0,w0⟩,turn⟩:=h2
 subst e
 have stat:∀ {H':Hp},(∀ b∈fp,H' b=none)->∀ b∈fp,FpOk X pins H' b:=λhn b hb=>⟨hn b hb,(f2 b hb).2⟩
 refine codeAny_forLoop_any (λn s'=>∃ i σ' H',Inv X pins σ' H' s'/\tn i s'.heap/\(∀ b∈fp,H' b=none)/\W i n σ' H') ?_ m0 ⟨0,σ,H2,I2,st2,λb hb=>(f2 b hb).1,w0⟩
 rintro n s3 ⟨i,σ3,H3,I3,st3,fr3,w3⟩
 rcases turn i n σ3 H3 w3 with⟨stop,qn⟩ | ⟨go,N,hN,step⟩
 ·refine wpAny_passesOwn hp (thn (T.done X rfl rfl rfl hc i pins s3 σ3 H3 X.xe I3 (stat fr3) st3 stop) λr s4 ⟨hr,I4⟩=>?_)
  subst hr
  exact wpAny_execs_nil ⟨σ3,H3,I4,qn⟩
 ·refine wpAny_passesOwn hp (thn (T.item X rfl rfl rfl hc i pins s3 σ3 H3 X.xe I3 (stat fr3) st3 go) λr s4 ⟨u,hr,h4⟩=>?_)
  subst hr
  refine wpAny_passesOwn hp (thn h4 λ_ s5 ⟨x,H5,I5,r5,y5,st5,fr5⟩=>?_)
  have I5':=I5.pinned (stat fr5) (T.obj _ _ st5)
  refine wpAny_passesOwn hp (thn (hg _ s5 σ3 H5 x u _ I5' r5 (step x H5 y5)) λ_ s6 ⟨σ6,H6,I6,q6⟩=>?_)
  refine wpAny_passesOwn hp (thn (hb _ s6 σ6 H6 _ I6 q6) λf s7 q7=>?_)
  have again:∀ {σ7:St} {H7:Hp},Inv X (pins++ZU fp s5.heap) σ7 H7 s7->N σ7 H7->∃ m,m<n/\∃ i σ' H',Inv X pins σ' H' s7/\tn i s7.heap/\(∀ b∈fp,H' b=none)/\W i m σ' H':=λ{σ7 H7} I7 n7=>by
   obtain⟨m',hm,w7⟩:=hN σ7 H7 n7
   refine⟨m',hm,i+1,σ7,H7,I7.unpinned,T.keep _ _ _ st5 λb hb o e=>(I7.pin (b,o) (uB _ (uB _ (vG hb e)))).1,λb hb=>?_,w7⟩
   obtain⟨o,e,d⟩:=T.obj _ _ st5 b hb
   exact(I7.pin (b,o) (uB _ (uB _ (vG hb e)))).2.1
  cases f with
  | next=>obtain⟨σ7,H7,I7,n7⟩:=q7;exact again I7 n7
  | cont=>obtain⟨σ7,H7,I7,n7⟩:=q7;exact again I7 n7
  | brk=>obtain⟨σ7,H7,I7,q7⟩:=q7;exact⟨σ7,H7,I7.unpinned,q7⟩
  | ret v=>obtain⟨x7,σ7,H7,I7,r7,q7⟩:=q7;exact⟨x7,σ7,H7,I7.unpinned,r7,q7⟩
end
noncomputable abbrev R2:=V->V->Hp->VK->Prop
def OpR (X:Cx)(f:Value->Value->Sem Value)(r:R2):Prop:=
 ∀ (pins:List (Addr×Obj)) (s:Shared) (σ:St) (H:Hp) (x y:V) (v u:Value) (Q:VK),Inv X pins σ H s->RelV x v->RelV y u->r x y H Q ->
  wpAny (model X.prog X.w) X.A (f v u) (EP X pins σ Q) X.xe s
def UnR (X:Cx)(f:Value->Sem Value)(r:V->Hp->VK->Prop):Prop:=
 ∀ (pins:List (Addr×Obj)) (s:Shared) (σ:St) (H:Hp) (x:V) (v:Value) (Q:VK),Inv X pins σ H s->RelV x v->r x H Q ->
  wpAny (model X.prog X.w) X.A (f v) (EP X pins σ Q) X.xe s
def jZ (X:Cx)(f:Value)(r:List V->Hp->VK->Prop):Prop:=
 ∀ (pins:List (Addr×Obj)) (s:Shared) (σ:St) (H:Hp) (xs:List V) (us:Lf) (Q:VK),Inv X pins σ H s->Vals xs us->r xs H Q ->
  wpAny (model X.prog X.w) X.A (call f us) (EP X pins σ Q) X.xe s
def TruR (X:Cx)(r:V->Hp->(Bool->Hp->Prop)->Prop):Prop:=
 ∀ (pins:List (Addr×Obj)) (s:Shared) (σ:St) (H:Hp) (x:V) (v:Value) (Q:Bool->Hp->Prop),Inv X pins σ H s->RelV x v->r x H Q ->
  wpAny (model X.prog X.w) X.A (truthy v) (TP X pins σ Q) X.xe s
noncomputable def tOp (r:R2)(ta tb:TE):TE:=λσ H Q=>ta σ H λx H1=>tb σ H1 λy H2=>r x y H2 Q
noncomputable def tUn (r:V->Hp->VK->Prop)(ta:TE):TE:=λσ H Q=>ta σ H λx H1=>r x H1 Q
noncomputable def rI (C:Int->Int->Prop)(g:Int->Int->V):R2:=λx y H Q=>∃ i j,x=.int i/\y=.int j/\C i j/\Q (g i j) H
noncomputable def rI0 (g:Int->Int->V):R2:=λx y H Q=>∃ i j,x=.int i/\y=.int j/\Q (g i j) H
noncomputable def rU (g:Int->V):V->Hp->VK->Prop:=λx H Q=>∃ i,x=.int i/\Q (g i) H
section
variable {X:Cx} {a b c:Expr} {ta tb tc:TE} {pos:Pos}
theorem binT (ha:PE X a ta)(hb:PE X b tb){pins:List (Addr×Obj)}{s:Shared}{σ:St}{H:Hp}{R:V->V->Hp->Prop}(I:Inv X pins σ H s)
  (h:ta σ H λx H1=>tb σ H1 λy H2=>R x y H2) {Q:Value->Shared->Prop} {f:Value->Value->Sem Value}
  (hf:∀ v u s2 x y H2,Inv X pins σ H2 s2->RelV x v->RelV y u->R x y H2->wpAny (model X.prog X.w) X.A (f v u) Q X.xe s2) :
  wpAny (model X.prog X.w) X.A (eval a X.env) (λv s₁=>wpAny (model X.prog X.w) X.A (eval b X.env) (λu s₂=>wpAny (model X.prog X.w) X.A (f v u) Q X.xe s₂) X.xe s₁) X.xe s:=by
 refine thn (ha pins s σ H _ I h) λv s1 ⟨x,H1,I1,r1,q1⟩=>?_
 refine thn (hb pins s1 σ H1 _ I1 q1) λu s2 ⟨y,H2,I2,r2,q2⟩=>?_
 exact hf v u s2 x y H2 I2 r1 r2 q2
theorem ziz {op:Operator}{r:R2}(ho:OpR X (binaryOp op) r)(ha:PE X a ta)(hb:PE X b tb):PE X (.BinOp a op b pos) (tOp r ta tb):=by
 intro pins s σ H Q I h
 exact wpAny_BinOp (binT ha hb I h λv u s2 x y H2 I2 rx ry q=>ho pins s2 σ H2 x y v u Q I2 rx ry q)
theorem ziA {op:UnaryOp}{r:V->Hp->VK->Prop}(ho:UnR X (unaryOp op) r)(ha:PE X a ta):PE X (.UnaryOp op a pos) (tUn r ta):=by
 intro pins s σ H Q I h
 exact UnaryOp_ (thn (ha pins s σ H _ I h) λv s1 ⟨x,H1,I1,r1,q1⟩=>ho pins s1 σ H1 x v Q I1 r1 q1)
theorem opI {f:Value->Value->Sem Value}{C:Int->Int->Prop}{g:Int->Int->Int}
  (rule:∀ (i j:Int) (t u:Tok) (s:Shared) (Q:Value->Shared->Prop) (E:Value->Shared->Prop),C i j->Q (.int (g i j) s.toks) { s with toks:=s.toks+1 }->wpAny (model X.prog X.w) X.A (f (.int i t) (.int j u)) Q E s) :
  OpR X f (rI C λi j=>.int (g i j)):=by
 intro pins s σ H x y v u Q I rx ry h
 obtain⟨i,j,rfl,rfl,hc,q⟩:=h
 obtain⟨t,rfl⟩:=rx
 obtain⟨t',rfl⟩:=ry
 exact rule i j t t' s _ _ hc ⟨.int (g i j),H,I.tok _,⟨_,rfl⟩,q⟩
theorem opI0 {f:Value->Value->Sem Value}{g:Int->Int->Int}
  (rule:∀ (i j:Int) (t u:Tok) (s:Shared) (Q:Value->Shared->Prop) (E:Value->Shared->Prop),Q (.int (g i j) s.toks) { s with toks:=s.toks+1 }->wpAny (model X.prog X.w) X.A (f (.int i t) (.int j u)) Q E s) :
  OpR X f (rI0 λi j=>.int (g i j)):=by
 intro pins s σ H x y v u Q I rx ry h
 obtain⟨i,j,rfl,rfl,q⟩:=h
 obtain⟨t,rfl⟩:=rx
 obtain⟨t',rfl⟩:=ry
 exact rule i j t t' s _ _ ⟨.int (g i j),H,I.tok _,⟨_,rfl⟩,q⟩
theorem opB0 {f:Value->Value->Sem Value}{g:Int->Int->Bool}
  (rule:∀ (i j:Int) (t u:Tok) (s:Shared) (Q:Value->Shared->Prop) (E:Value->Shared->Prop),Q (.bool (g i j)) s->wpAny (model X.prog X.w) X.A (f (.int i t) (.int j u)) Q E s) :
  OpR X f (rI0 λi j=>.bl (g i j)):=by
 intro pins s σ H x y v u Q I rx ry h
 obtain⟨i,j,rfl,rfl,q⟩:=h
 obtain⟨t,rfl⟩:=rx
 obtain⟨t',rfl⟩:=ry
 exact rule i j t t' s _ _ ⟨.bl (g i j),H,I,rfl,q⟩
def CDiv (i j:Int):Prop:=0<j/\j<1073741824
def CPow (i j:Int):Prop:=0<=j/\j<=1000000/\i.natAbs<2 ^ 64
def CMul (i j:Int):Prop:=(-(2 ^ 64)<i/\i<2 ^ 64)\/(-(2 ^ 64)<j/\j<2 ^ 64)
theorem CMul.ok {i j:Int}(h:CMul i j):IntMulOk i j:=by
 rcases h with⟨h1,h2⟩ | ⟨h1,h2⟩
 ·exact .of_left (intBits_le_64 h1 h2)
 ·exact .of_right (intBits_le_64 h1 h2)
theorem zgv:OpR X (binaryOp .Add) (rI0 λi j=>.int (i+j)):=opI0 λ_ _ _ _ _ _ _ q=>add_int q
theorem zgw:OpR X (binaryOp .Sub) (rI0 λi j=>.int (i - j)):=opI0 λ_ _ _ _ _ _ _ q=>sub_int q
theorem zd7:OpR X (binaryOp .FloorDiv) (rI CDiv λi j=>.int (i / j)):=opI λi j _ _ _ _ _ hc q=>by
 have h1:(0:Int)<j:=hc.1
 have h2:j<1073741824:=hc.2
 exact floordiv_int (by lia) (by rw [Int.fdiv_eq_ediv_of_nonneg i (by lia)];exact q) (.inl (PyProof.noPylong_small (by lia)))
theorem zgx:OpR X (binaryOp .Mod) (rI (λ_ j=>0<j) λi j=>.int (i % j)):=opI λi j _ _ _ _ _ hc q=>by
 have h1:(0:Int)<j:=hc
 exact mod_int' (by lia) (by rw [Int.fmod_eq_emod_of_nonneg i (by lia)];exact q)
theorem zgy:OpR X (binaryOp .Pow) (rI CPow λi j=>.int (i ^ j.toNat)):=opI λ_ _ _ _ _ _ _ hc q=>pow_int_small hc.1 hc.2.1 hc.2.2 q
theorem unI {f:Value->Sem Value}{g:Int->Int}
  (rule:∀ (i:Int) (t:Tok) (s:Shared) (Q:Value->Shared->Prop) (E:Value->Shared->Prop),Q (.int (g i) s.toks) { s with toks:=s.toks+1 }->wpAny (model X.prog X.w) X.A (f (.int i t)) Q E s) :
  UnR X f (rU λi=>.int (g i)):=by
 intro pins s σ H x v Q I rx h
 obtain⟨i,rfl,q⟩:=h
 obtain⟨t,rfl⟩:=rx
 exact rule i t s _ _ ⟨.int (g i),H,I.tok _,⟨_,rfl⟩,q⟩
theorem zgz:UnR X (unaryOp .USub) (rU λi=>.int (-i)):=unI λ_ _ _ _ _ q=>neg_int q
end
noncomputable def scal:V->V->Bool
 | .non,.non=>true | .non,.int _=>true | .int _,.non=>true | .non,.bl _=>true | .bl _,.non=>true | .non,.str _=>true | .str _,.non=>true
 | .int _,.int _=>true | .bl _,.bl _=>true | .str _,.str _=>true | .byt _,.byt _=>true
 | .int _,.str _=>true | .str _,.int _=>true | .bl _,.str _=>true | .str _,.bl _=>true
 | _,_=>false
noncomputable def rEq:R2:=λx y H Q=>scal x y=true/\Q (.bl (decide (x=y))) H
noncomputable def rNe:R2:=λx y H Q=>scal x y=true/\Q (.bl (!decide (x=y))) H
theorem KQ {i j:Int}:decide (V.int i=V.int j)=(i == j):=by
 rw [UX]
 simp
theorem zbT {i j:Bool}:decide (V.bl i=V.bl j)=(i == j):=by
 rw [UX]
 simp
theorem KR {i j:Str}:decide (V.str i=V.str j)=(i == j):=by
 rw [UX]
 simp
theorem KU {i j:Array UInt8}:decide (V.byt i=V.byt j)=(i.toList == j.toList):=by
 rw [UX]
 cases i
 cases j
 simp
section
variable {X:Cx} {a b c:Expr} {ta tb tc:TE} {pos:Pos}
theorem fin_bl {pins:List (Addr×Obj)}{σ:St}{H:Hp}{s:Shared}{Q:VK}{k k':Bool}(I:Inv X pins σ H s)(q:Q (.bl k) H)(e:k=k'):EP X pins σ Q (.bool k') s:=by
 subst e
 exact⟨.bl k,H,I,rfl,q⟩
theorem ziB:OpR X (compareOp .Eq) rEq:=by
 intro pins s σ H x y v u Q I rx ry h
 obtain⟨hs,q⟩:=h
 cases x with
 | non=>
  cases rx
  cases y with
  | non=>cases ry;exact PySem.EqNone.eq_none_none (fin_bl I q (by simp))
  | bl j=>cases ry;exact PySem.EqNone.eq_none_bool (fin_bl I q (by simp))
  | int j=>obtain⟨t',rfl⟩:=ry;exact PySem.EqNone.eq_none_int (fin_bl I q (by simp))
  | str j=>obtain⟨t',rfl⟩:=ry;exact PySem.EqNone.eq_none_str (fin_bl I q (by simp))
  | _=>exact absurd (show false=true from hs) uD
 | bl i=>
  cases rx
  cases y with
  | non=>cases ry;exact PySem.EqNone.eq_bool_none (fin_bl I q (by simp))
  | bl j=>cases ry;exact eq_bool (fin_bl I q zbT)
  | str j=>obtain⟨t',rfl⟩:=ry;exact PySem.EqMixed.eq_bool_str (fin_bl I q (by simp))
  | _=>exact absurd (show false=true from hs) uD
 | int i=>
  obtain⟨t,rfl⟩:=rx
  cases y with
  | non=>cases ry;exact PySem.EqNone.eq_int_none (fin_bl I q (by simp))
  | int j=>obtain⟨t',rfl⟩:=ry;exact eq_int (fin_bl I q KQ)
  | str j=>obtain⟨t',rfl⟩:=ry;exact PySem.EqMixed.eq_int_str (fin_bl I q (by simp))
  | _=>exact absurd (show false=true from hs) uD
 | str i=>
  obtain⟨t,rfl⟩:=rx
  cases y with
  | non=>cases ry;exact PySem.EqNone.eq_str_none (fin_bl I q (by simp))
  | bl j=>cases ry;exact PySem.EqMixed.eq_str_bool (fin_bl I q (by simp))
  | int j=>obtain⟨t',rfl⟩:=ry;exact PySem.EqMixed.eq_str_int (fin_bl I q (by simp))
  | str j=>obtain⟨t',rfl⟩:=ry;exact eq_str (fin_bl I q KR)
  | _=>exact absurd (show false=true from hs) uD
 | byt i=>
  obtain⟨t,rfl⟩:=rx
  cases y with
  | byt j=>obtain⟨t',rfl⟩:=ry;exact PySem.W.eq_bytes (fin_bl I q KU)
  | _=>exact absurd (show false=true from hs) uD
 | _=>cases y<;>exact absurd (show false=true from hs) uD
theorem ziC:OpR X (compareOp .NotEq) rNe:=by
 intro pins s σ H x y v u Q I rx ry h
 obtain⟨hs,q⟩:=h
 cases x with
 | non=>
  cases rx
  cases y with
  | non=>cases ry;exact PySem.EqNone.ne_none_none (fin_bl I q (by simp))
  | bl j=>cases ry;exact PySem.EqNone.ne_none_bool (fin_bl I q (by simp))
  | int j=>obtain⟨t',rfl⟩:=ry;exact PySem.EqNone.ne_none_int (fin_bl I q (by simp))
  | str j=>obtain⟨t',rfl⟩:=ry;exact PySem.EqNone.ne_none_str (fin_bl I q (by simp))
  | _=>exact absurd (show false=true from hs) uD
 | bl i=>
  cases rx
  cases y with
  | non=>cases ry;exact PySem.EqNone.ne_bool_none (fin_bl I q (by simp))
  | bl j=>cases ry;exact ne_bool (fin_bl I q (congrArg not zbT))
  | str j=>obtain⟨t',rfl⟩:=ry;exact PySem.EqMixed.ne_bool_str (fin_bl I q (by simp))
  | _=>exact absurd (show false=true from hs) uD
 | int i=>
  obtain⟨t,rfl⟩:=rx
  cases y with
  | non=>cases ry;exact PySem.EqNone.ne_int_none (fin_bl I q (by simp))
  | int j=>obtain⟨t',rfl⟩:=ry;exact ne_int (fin_bl I q (congrArg not KQ))
  | str j=>obtain⟨t',rfl⟩:=ry;exact PySem.EqMixed.ne_int_str (fin_bl I q (by simp))
  | _=>exact absurd (show false=true from hs) uD
 | str i=>
  obtain⟨t,rfl⟩:=rx
  cases y with
  | non=>cases ry;exact PySem.EqNone.ne_str_none (fin_bl I q (by simp))
  | bl j=>cases ry;exact PySem.EqMixed.ne_str_bool (fin_bl I q (by simp))
  | int j=>obtain⟨t',rfl⟩:=ry;exact PySem.EqMixed.ne_str_int (fin_bl I q (by simp))
  | str j=>obtain⟨t',rfl⟩:=ry;exact ne_str (fin_bl I q (congrArg not KR))
  | _=>exact absurd (show false=true from hs) uD
 | byt i=>
  obtain⟨t,rfl⟩:=rx
  cases y with
  | byt j=>obtain⟨t',rfl⟩:=ry;exact PySem.W.ne_bytes (fin_bl I q (congrArg not KU))
  | _=>exact absurd (show false=true from hs) uD
 | _=>cases y<;>exact absurd (show false=true from hs) uD
theorem ziD:OpR X (compareOp .Lt) (rI0 λi j=>.bl (decide (i<j))):=opB0 λ_ _ _ _ _ _ _ q=>lt_int q
theorem ziE:OpR X (compareOp .LtE) (rI0 λi j=>.bl (decide (i<=j))):=opB0 λ_ _ _ _ _ _ _ q=>le_int q
theorem ziF:OpR X (compareOp .Gt) (rI0 λi j=>.bl (decide (j<i))):=opB0 λ_ _ _ _ _ _ _ q=>gt_int q
theorem ziG:OpR X (compareOp .GtE) (rI0 λi j=>.bl (decide (j<=i))):=opB0 λ_ _ _ _ _ _ _ q=>ge_int q
theorem za2:OpR X (compareOp .In) (λx y H Q=>∃ i j,x=.str i/\y=.str j/\Q (.bl (!(Builtin.Str.occurrences j i 0 j.length 1).isEmpty)) H):=by
 intro pins s σ H x y v u Q I rx ry h
 obtain⟨i,j,rfl,rfl,q⟩:=h
 obtain⟨t,rfl⟩:=rx
 obtain⟨t',rfl⟩:=ry
 exact in_str (fin_bl I q rfl)
theorem zgA:OpR X (compareOp .Is) (λx y H Q=>y=.non/\Q (.bl (decide (x=.non))) H):=by
 intro pins s σ H x y v u Q I rx ry h
 obtain⟨rfl,q⟩:=h
 cases ry
 refine is_none_gen (fin_bl I q ?_)
 cases x<;>first
  | (cases rx;rfl)
  | (obtain⟨t,rfl⟩:=rx;rfl)
theorem zd8:OpR X (compareOp .IsNot) (λx y H Q=>y=.non/\Q (.bl (!decide (x=.non))) H):=by
 intro pins s σ H x y v u Q I rx ry h
 obtain⟨rfl,q⟩:=h
 cases ry
 refine isnot_none_gen (fin_bl I q ?_)
 cases x<;>first
  | (cases rx;rfl)
  | (obtain⟨t,rfl⟩:=rx;rfl)
theorem Xm:OpR X (compareOp .NotIn) (λx y H Q=>∃ i j,x=.str i/\y=.str j/\Q (.bl (!(!(Builtin.Str.occurrences j i 0 j.length 1).isEmpty))) H):=by
 intro pins s σ H x y v u Q I rx ry h
 obtain⟨i,j,rfl,rfl,q⟩:=h
 obtain⟨t,rfl⟩:=rx
 obtain⟨t',rfl⟩:=ry
 exact notIn_str (fin_bl I q rfl)
theorem zd9 {op:CmpOp}{r:R2}(ho:OpR X (compareOp op) r)(ha:PE X a ta)(hb:PE X b tb)(hm:behindInMarks op b=false):PE X (.Compare a [op] [b] pos) (tOp r ta tb):=by
 intro pins s σ H Q I h
 exact wpAny_Compare1 (binT ha hb I h λv u s2 x y H2 I2 rx ry q=>ho pins s2 σ H2 x y v u Q I2 rx ry q) hm
noncomputable def KW (t:TE):TT:=λσ H Q=>t σ H λx H'=>∃ k,x=.bl k/\Q k H'
theorem zea {op:CmpOp}{r:R2}(ho:OpR X (compareOp op) r)(ha:PE X a ta)(hb:PE X b tb)(hm:behindInMarks op b=false):PT X (.Compare a [op] [b] pos) (KW (tOp r ta tb)):=by
 intro pins s σ H Q I h
 refine wpAny_isTrue_Compare1 (thn (ha pins s σ H _ I h) λv s1 ⟨x,H1,I1,r1,q1⟩=>thn (hb pins s1 σ H1 _ I1 q1) λu s2 ⟨y,H2,I2,r2,q2⟩=>
  thn (ho pins s2 σ H2 x y v u _ I2 r1 r2 q2) λc s3 ⟨z,H3,I3,r3,k,e,q3⟩=>?_) hm
 subst e
 cases r3
 exact wpAny_truthy_bool ⟨H3,I3,q3⟩
noncomputable def ZV (r r':R2)(ta tb tc:TE):TE:=λσ H Q=>ta σ H λx H1=>tb σ H1 λy H2=>r x y H2 λz H3=>∃ k,z=.bl k /\
 (if k=true then tc σ H3 λw' H4=>r' y w' H4 Q else Q (.bl false) H3)
theorem zbU {op op':CmpOp}{r r':R2}(ho:OpR X (compareOp op) r)(ho':OpR X (compareOp op') r')(ha:PE X a ta)(hb:PE X b tb)(hc:PE X c tc)
  (hm:lastMarks [op,op'] [b,c]=false:=by with_unfolding_all rfl):PE X (.Compare a [op,op'] [b,c] pos) (ZV r r' ta tb tc):=by
 intro pins s σ H Q I h
 refine Compare_chain (thn (ha pins s σ H _ I h) λv s1 ⟨x,H1,I1,r1,q1⟩=>chain_link (thn (hb pins s1 σ H1 _ I1 q1) λu s2 ⟨y,H2,I2,r2,q2⟩=>
  thn (ho pins s2 σ H2 x y v u _ I2 r1 r2 q2) λd s3 ⟨z,H3,I3,r3,k,e,q3⟩=>?_)) hm
 subst e
 cases r3
 refine wpAny_truthy_bool ?_
 cases k with
 | false=>exact ite_ff ⟨.bl false,H3,I3,rfl,q3⟩
 | true=>exact ite_tt (chain_last (thn (hc pins s3 σ H3 _ I3 q3) λw' s4 ⟨z',H4,I4,r4,q4⟩=>ho' pins s4 σ H4 y z' u w' Q I4 r2 r4 q4))
theorem zbV {op op':CmpOp}{r r':R2}(ho:OpR X (compareOp op) r)(ho':OpR X (compareOp op') r')(ha:PE X a ta)(hb:PE X b tb)(hc:PE X c tc)
  (hm:lastMarks [op,op'] [b,c]=false:=by with_unfolding_all rfl):PT X (.Compare a [op,op'] [b,c] pos) (KW (ZV r r' ta tb tc)):=by
 intro pins s σ H Q I h
 refine isTrue_chain (thn (ha pins s σ H _ I h) λv s1 ⟨x,H1,I1,r1,q1⟩=>test_link (thn (hb pins s1 σ H1 _ I1 q1) λu s2 ⟨y,H2,I2,r2,q2⟩=>
  thn (ho pins s2 σ H2 x y v u _ I2 r1 r2 q2) λd s3 ⟨z,H3,I3,r3,k,e,q3⟩=>?_)) hm
 subst e
 cases r3
 refine wpAny_truthy_bool ?_
 cases k with
 | false=>
  obtain⟨k',e',q'⟩:=q3
  cases e'
  exact ite_ff ⟨H3,I3,q'⟩
 | true=>
  refine ite_tt (test_last (thn (hc pins s3 σ H3 _ I3 q3) λw' s4 ⟨z',H4,I4,r4,q4⟩=>thn (ho' pins s4 σ H4 y z' u w' _ I4 r2 r4 q4) λd' s5 ⟨z2,H5,I5,r5,k2,e2,q5⟩=>?_))
  subst e2
  cases r5
  exact wpAny_truthy_bool ⟨H5,I5,q5⟩
def TruV (K:Le)(x:V)(H:Hp)(k:Bool):Prop:=
 match x with
 | .non=>k=false
 | .bl b=>k=b
 | .int i=>k=(i != 0)
 | .str y=>y.length<=sizeLine/\k=((y.length:Int) != 0)
 | .byt y=>y.size<=sizeLine/\k=((y.size:Int) != 0)
 | .ref p=>(∃ xs,SqL K H p xs/\k = !xs.isEmpty)\/(∃ xs,SqT K H p xs/\k = !xs.isEmpty)\/∃ kvs,H p=some (.dK kvs)/\k = !kvs.isEmpty
 | _=>False
theorem YN {κ:Type}{kvs:List (κ×V)}{vs:List (κ×Value)}(r:KV kvs vs):(!vs.isEmpty) = !kvs.isEmpty:=by
 cases r<;>rfl
theorem Q7 {xs:List V}{its:Lf}(r:Vals xs its):(!its.toArray.isEmpty) = !xs.isEmpty:=by
 cases r<;>simp
theorem kO:(sizeLine:Nat)<2 ^ 63:=by rw [sizeLine_eq];decide
theorem zgB:TruR X (λx H Q=>∃ k,TruV X.K x H k/\Q k H):=by
 intro pins s σ H x v Q I rx h
 obtain⟨k,e,q⟩:=h
 have hl:=kO
 have hs:sizeLine=16777216:=sizeLine_eq
 cases x with
 | non=>
  cases rx
  have e':k=false:=e
  subst e'
  exact truthy_none ⟨H,I,q⟩
 | bl b=>
  cases rx
  have e':k=b:=e
  subst e'
  exact wpAny_truthy_bool ⟨H,I,q⟩
 | int i=>
  obtain⟨t,rfl⟩:=rx
  have e':k=(i != 0):=e
  subst e'
  exact PySem.P.truthy_int ⟨H,I,q⟩
 | str y=>
  obtain⟨t,rfl⟩:=rx
  obtain⟨hy,e'⟩:y.length<=sizeLine/\k=((y.length:Int) != 0):=e
  subst e'
  exact PySem.P.truthy_str (by lia) ⟨H,I.tok _,q⟩
 | byt y=>
  obtain⟨t,rfl⟩:=rx
  obtain⟨hy,e'⟩:y.size<=sizeLine/\k=((y.size:Int) != 0):=e
  subst e'
  exact PySem.W.truthy_bytes (by lia) ⟨H,I.tok _,q⟩
 | ref p=>
  cases rx
  have e':(∃ xs,SqL X.K H p xs/\k = !xs.isEmpty)\/(∃ xs,SqT X.K H p xs/\k = !xs.isEmpty)\/∃ kvs,H p=some (.dK kvs)/\k = !kvs.isEmpty:=e
  rcases e' with⟨xs,hx,e'⟩ | ⟨xs,hx,e'⟩ | ⟨kvs,hx,e'⟩
  ·subst e'
   obtain⟨its,r,pl,hz⟩:=I.list hx
   have hlen:=r.length
   exact wpAny_truthy_list pl.isList (by simp only [uj];lia) ⟨H,I.tok _,by rw [Q7 r];exact q⟩
  ·subst e'
   obtain⟨its,r,pl,hz⟩:=I.tuple hx
   have hlen:=r.length
   exact truthy_tuple pl (by simp only [uj];lia) ⟨H,I.tok _,by rw [Q7 r];exact q⟩
  ·subst e'
   obtain⟨hz,hS,vs,r,m⟩:kvs.length<=sizeLine/\(p == sysModules)=false/\∃ vs,KV kvs vs/\s.heap.DictOf (zE X.prog X.w) p vs:=I.hok p _ hx
   have hlen:kvs.length=vs.length:=Paired.length r
   exact wpAny_truthy_dict hS m (by lia) ⟨H,I.tok _,by rw [YN r];exact q⟩
 | _=>exact(show False from e).elim
theorem zbW (ha:PE X a ta)(he:∀ whole,isTrue a X.env whole=(do let v ← whole;standAt a.pos;holding [v] (truthy v))) :
  PT X a (λσ H Q=>ta σ H λx H'=>∃ k,TruV X.K x H' k/\Q k H'):=by
 intro pins s σ H Q I h
 exact isTrue_plain (thn (ha pins s σ H _ I h) λv s1 ⟨x,H1,I1,r1,q1⟩=>zgB pins s1 σ H1 x v Q I1 r1 q1) (he _)
theorem YO:OpR X (binaryOp .Add) (λx y H Q=>∃ i j,x=.str i/\y=.str j/\i.length+j.length<=sizeLine/\Q (.str (i++j)) H):=by
 intro pins s σ H x y v u Q I rx ry h
 obtain⟨i,j,rfl,rfl,hz,q⟩:=h
 obtain⟨t,rfl⟩:=rx
 obtain⟨t',rfl⟩:=ry
 exact add_str (λt' tk=>⟨.str (i++j),H,I.tok _,⟨_,rfl⟩,q⟩) hz
theorem vals1 {x:V}{us:Lf}(r:Vals [x] us):∃ u,us=[u]/\RelV x u:=by
 cases r with
 | cons r1 r2=>cases r2;exact⟨_,rfl,r1⟩
theorem vals2 {x y:V}{us:Lf}(r:Vals [x,y] us):∃ u w',us=[u,w']/\RelV x u/\RelV y w':=by
 cases r with
 | cons r1 r2=>
  cases r2 with
  | cons r3 r4=>cases r4;exact⟨_,_,rfl,r1,r3⟩
theorem za3:jZ X (.type "int") (λxs H Q=>(∃ i,xs=[.int i]/\Q (.int i) H)\/∃ k,xs=[.bl k]/\Q (.int (if k then 1 else 0)) H):=by
 intro pins s σ H xs us Q I r h
 rcases h with⟨i,rfl,q⟩ | ⟨k,rfl,q⟩
 ·obtain⟨u,rfl,t,rfl⟩:=vals1 r
  exact call_int_int ⟨.int i,H,I,⟨_,rfl⟩,q⟩
 ·obtain⟨u,rfl,r1⟩:=vals1 r
  cases r1
  exact call_int_bool ⟨.int (if k then 1 else 0),H,I.tok _,⟨_,rfl⟩,q⟩
end
structure ObjM (h:Heap)(x dx C:Addr)(mA:La):Prop where
 obj:h.get? x=some (PySem.W.instObj C dx)
 ns:h.Ns1 dx mA
 ne:dx≠x
theorem za4 {h:Heap}{dx:Addr}{mA:La}(n:h.Ns1 dx mA):∃ od,h.get? dx=some od/\∀ name,PySem.W.lookIn name od=some (mA name):=by
 obtain⟨o,es,ep,ho,hd,hk,_,hm⟩:=n
 refine⟨o,ho,λname=>?_⟩
 have e:=hm name
 unfold nsFind findBy at e
 rw [← Array.find?_toList] at e
 unfold PySem.W.lookIn
 rw [hd]
 dsimp only
 split
 ·rename_i y q
  rw [q] at e
  exact congrArg some e
 ·rename_i q
  rw [q] at e
  have a:es.toList.any (·.refKey)=false:=by
   rw [List.any_eq_false]
   intro y hy
   obtain⟨z,t,hkey⟩:=hk y (Array.mem_toList_iff.mp hy)
   simp [DictEntry.refKey,hkey]
  have a':¬ es.toList.any (·.refKey)=true:=by rw [a];exact uD
  rw [uv a']
  exact congrArg some e
theorem ObjM.look {h:Heap}{x dx C:Addr}{mA:La}(I:ObjM h x dx C mA):∃ od,PySem.W.InstAt h x (PySem.W.instObj C dx) C (some od)/\∀ name,PySem.W.lookIn name od=some (mA name):=
 let ⟨od,ho,hl⟩:=za4 I.ns
 ⟨od,⟨I.obj,rfl,rfl,ho⟩,hl⟩
section
variable {prog:Program} {w:World} {A:Around} {E:Value->Shared->Prop} {s:Shared} {K:Le} {x dx C f:Addr} {mA:La} {name:Str} {v:Value}
theorem get_map {expr:Bool}{Q:Value->Shared->Prop}(X:K.In s.heap)(I:ObjM s.heap x dx C mA)(hg:PySem.W.plainGet K C name=true)(hh:PySem.W.hasDictIn K C=true)
  (ha:PySem.W.findIn K (.ref C) name=some none) (hv:mA name=some v) (hv':PySem.W.handedIn v=true) (h:Q v { s with toks:=s.toks+1 }) :
  wpAny (model prog w) A (getAttr (.ref x) name expr) Q E s:=by
 obtain⟨od,J,hl⟩:=I.look
 exact PySem.W.get_value X J (gH hg).1 (PySem.W.findObj_own hh ha rfl (by rw [hl,hv])) hv' h
theorem zbX {pl:Sem Bool}{Q:Value×Lf->Shared->Prop}(X:K.In s.heap)(I:ObjM s.heap x dx C mA)(hg:PySem.W.plainGet K C name=true)
  (hf:PySem.W.findIn K (.ref C) name=some (some (.ref f))) (ht:PySem.W.isFn K (.ref f)=true) (hv:mA name=none) (h:Q (.ref f,[.ref x]) s) :
  wpAny (model prog w) A (getMethod (.ref x) name pl) Q E s:=by
 obtain⟨od,J,hl⟩:=I.look
 exact PySem.W.method_fn X J (gH hg).1 (gH hg).2 hf (gr.mp ht) (by show(PySem.W.lookIn name od).map (·.isSome)=some false;rw [hl,hv];rfl) h
theorem zeb {ns:Lh}{Q:Unit->Shared->Prop}(X:K.In s.heap)(I:ObjM s.heap x dx C mA)
  (hs:PySem.W.findIn K (.ref C) "__setattr__" = some (some (.builtin "object.__setattr__"))) (hp:PySem.W.plainOver K C=true) (ht:PySem.W.takerIn K C name=some none) (hh:PySem.W.hasDictIn K C=true)
  (hw:PySem.Within mA ns) (hsz:ns.length<=sizeLine)
  (h:∀ h',ObjM h' x dx C (λy=>if y=name then some v else mA y)->Heap.SameBut dx s.heap h'->Q () { s with heap:=h',toks:=s.toks+2 }) :
  wpAny (model prog w) A (setAttr (.ref x) name v) Q E s:=by
 obtain⟨od,J,hl⟩:=I.look
 refine PySem.W.set_plain X J hs (PySem.W.osa_open (s:={ s with toks:=s.toks+1 }) (r:=none) X J hp ht λb=>?_)
 obtain⟨cd,hc,hd'⟩:=PySem.W.any_some hh
 have hx:s.heap.get? x=some ⟨.ref C,some dx,.plain,#[]⟩:=I.obj
 refine wpAny_bind (wpAny_pure (wpAny_bind (wpAny_bind (wpAny_loadPart hx (wpAny_bind (PySem.W.Looks.here (s:={ s with toks:=s.toks+1 }) (PySem.W.looks_clsIn X hc) ?_))))))
 rw [hd']
 refine wpAny_pure (a:=some dx) (wpAny_bind (wpAny_pure (wpAny_bind ?_)))
 refine wpAny_nsSet1 (s:={ s with toks:=s.toks+1 }) I.ns λh' hn2 hs2=>?_
 obtain⟨oD,esD,epD,hoD,hdD,hcD⟩:=hn2.count (PySem.Within.cons name v hw)
 refine wpAny_bind (wpAny_lookBehind hoD (by rw [hdD];exact pastItsLine_dict (uJ hcD (by rw [ub];lia))) ?_)
 exact wpAny_pure (h _ ⟨(hs2.2 _ (Ne.symm I.ne)).trans I.obj,hn2,I.ne⟩ hs2)
theorem zbY {R:Result->Shared->Prop}{vs:Lf}{kw:List (Str×Value)}(X:K.In s.heap)(hm:PySem.W.makesIn K C=true)
  (hi:PySem.W.findIn K (.ref C) "__init__" = some (some (.ref f))) (hf:PySem.W.typeIn K (.ref f)=some (.type "function"))
  (h:codeAny (model prog w) (A.under (.builtin "type.__call__" ⟨.ref C::vs,kw⟩)) (.call (.ref f) ⟨.ref (s.heap.objs.size+1)::vs,kw⟩) (PySem.W.InitBack (s.heap.objs.size+1) R)
   { s with heap:=(s.heap.push PySem.W.emptyDict).push (PySem.W.instObj C s.heap.objs.size) }) :
  codeAny (model prog w) A (.call (.ref C) ⟨vs,kw⟩) R s:=by
 obtain⟨hh,g,d,t,os⟩:=s
 exact PySem.W.make_core (PySem.W.makes_of X hm) (PySem.W.looks_findIn X hi) (λself=>PySem.W.bind_fn X self hf) (.inl rfl) h
end
noncomputable def putF (f:Str)(v:V):List (Str×V)->List (Str×V)
 | []=>[(f,v)]
 | (g,x)::r=>if g=f then(g,v)::r else(g,x)::putF f v r
theorem Ql (f g:Str)(v:V):∀ fs:List (Str×V),(putF f v fs).lookup g=if g=f then some v else fs.lookup g
 | []=>by
  show List.lookup g [(f,v)]=_
  by_cases h:g=f
  ·have hb:(g == f)=true:=gr.mpr h
   simp only [List.lookup,hb,uw h]
  ·have hb:(g == f)=false:=u3.mpr h
   simp only [List.lookup,hb,uv h]
 | (k,x)::r=>by
  have ih:=Ql f g v r
  rw [show putF f v ((k,x)::r)=(if k=f then(k,v)::r else(k,x)::putF f v r) from rfl]
  by_cases hk:k=f
  ·rw [uw hk]
   by_cases h:g=k
   ·have hb:(g == k)=true:=gr.mpr h
    simp only [List.lookup,hb,uw (h.trans hk)]
   ·have hb:(g == k)=false:=u3.mpr h
    simp only [List.lookup,hb,uv (λe:g=f=>h (e.trans hk.symm))]
  ·rw [uv hk]
   by_cases h:g=k
   ·have hb:(g == k)=true:=gr.mpr h
    simp only [List.lookup,hb,uv (λe:g=f=>hk (h.symm.trans e))]
   ·have hb:(g == k)=false:=u3.mpr h
    simp only [List.lookup,hb]
    exact ih
theorem ZW (f:Str)(v:V):∀ fs:List (Str×V),f∈(putF f v fs).map (·.1)/\∀ g,g∈fs.map (·.1)->g∈(putF f v fs).map (·.1)
 | []=>⟨by simp [putF],λg h=>by simp at h⟩
 | (k,x)::r=>by
  obtain⟨i1,i2⟩:=ZW f v r
  rw [show putF f v ((k,x)::r)=(if k=f then(k,v)::r else(k,x)::putF f v r) from rfl]
  by_cases hk:k=f
  ·rw [uw hk]
   subst hk
   exact⟨by simp,λg h=>by simpa using h⟩
  ·rw [uv hk]
   refine⟨?_,λg h=>?_⟩
   ·rw [uo]
    exact uh _ i1
   ·rw [uo] at h ⊢
    rcases um.mp h with e | e
    ·exact um.mpr (.inl e)
    ·exact uh _ (i2 g e)
theorem Qm (f:Str)(v:V):∀ fs:List (Str×V),(putF f v fs).length<=fs.length+1
 | []=>by simp [putF]
 | (k,x)::r=>by
  have ih:=Qm f v r
  rw [show putF f v ((k,x)::r)=(if k=f then(k,v)::r else(k,x)::putF f v r) from rfl]
  by_cases hk:k=f
  ·rw [uw hk,ub,ub];lia
  ·rw [uv hk,ub,ub];lia
theorem RelO.some_of {v:V}{o:Option Value}(r:RelO (some v) o):∃ u,o=some u/\RelV v u:=by
 cases o with
 | none=>exact(show False from r).elim
 | some u=>exact⟨u,rfl,r⟩
theorem RelO.none_of {o:Option Value}(r:RelO none o):o=none:=by
 cases o with
 | none=>rfl
 | some u=>exact(show False from r).elim
theorem za5 {v:V}{u:Value}(r:RelV v u):PySem.W.handedIn u=true:=by
 cases v with
 | non=>cases (show u=Value.none from r);rfl
 | bl b=>cases (show u=Value.bool b from r);rfl
 | int i=>obtain⟨t,e⟩:=(show ∃ t,u=Value.int i t from r);cases e;rfl
 | str x=>obtain⟨t,e⟩:=(show ∃ t,u=Value.str x t from r);cases e;rfl
 | byt b=>obtain⟨t,e⟩:=(show ∃ t,u=Value.bytes b t from r);cases e;rfl
 | flt b=>obtain⟨t,e⟩:=(show ∃ t,u=Value.float b t from r);cases e;rfl
 | ref a=>cases (show u=Value.ref a from r);rfl
 | ty n=>cases (show u=Value.type n from r);rfl
section
variable {P:Program} {w:World} {H H':Hp} {h h':Heap} {a C dx:Addr} {fs fs':List (Str×V)}
theorem Zk (hok:HOk P w H h)(e:H a=some (.ins C dx fs)):∃ mA,ObjM h a dx C mA/\(∀ f,RelO (fs.lookup f) (mA f))/\PySem.Within mA (fs.map (·.1))/\fs.length<=1000/\H dx=some (.own a):=by
 obtain⟨d,z,ne,ob,mA,n,r,q⟩:=(show zZ P w H h a (.ins C dx fs) from hok a _ e)
 exact⟨mA,⟨ob,n,ne⟩,r,q,z,d⟩
end
structure Cls (K:Le)(C:Addr):Prop where
 pg:PySem.W.plainGet K C Str.empty=true
 hd:PySem.W.hasDictIn K C=true
 po:PySem.W.plainOver K C=true
 sa:PySem.W.findIn K (.ref C) "__setattr__" = some (some (.builtin "object.__setattr__"))
theorem Cls.get {K:Le}{C:Addr}(c:Cls K C)(f:Str):PySem.W.plainGet K C f=true:=c.pg
def qY (K:Le)(C:Addr)(f:Str):Prop:=PySem.W.findIn K (.ref C) f=some none
theorem qY.taker {K:Le}{C:Addr}{f:Str}(n:qY K C f):PySem.W.takerIn K C f=some none:=by
 unfold PySem.W.takerIn
 rw [show PySem.W.findIn K (.ref C) f=some none from n]
 rfl
structure Meth (K:Le)(C:Addr)(m:Str)(f:Addr):Prop where
 at_:PySem.W.findIn K (.ref C) m=some (some (.ref f))
 fn:PySem.W.isFn K (.ref f)=true
 kp:PySem.W.keepIn K (.ref f)=true
section
variable {X:Cx} {pins:List (Addr×Obj)} {σ:St} {H:Hp} {s:Shared} {a C dx:Addr} {fs:List (Str×V)} {f:Str} {v:V} {A:Around} {E:Value->Shared->Prop}
theorem YQ {b:Bool}{Q:Value->Shared->Prop}(I:Inv X pins σ H s)(e:H a=some (.ins C dx fs))(c:Cls X.K C)(n:qY X.K C f)(l:fs.lookup f=some v)
  (h:∀ u s',Inv X pins σ H s'->RelV v u->Q u s'):wpAny (model X.prog X.w) A (getAttr (.ref a) f b) Q E s:=by
 obtain⟨mA,O,r,_,_,_⟩:=Zk I.hok e
 obtain⟨u,hu,ru⟩:=RelO.some_of (v:=v) (o:=mA f) (by rw [← l];exact r f)
 exact get_map I.kIn O (c.get f) c.hd n hu (za5 ru) (h u _ (I.tok _) ru)
theorem YR {m:Str}{g:Addr}{pl:Sem Bool}{Q:Value×Lf->Shared->Prop}(I:Inv X pins σ H s)(e:H a=some (.ins C dx fs))(c:Cls X.K C)(k:Meth X.K C m g)(l:fs.lookup m=none)
  (h:Q (.ref g,[.ref a]) s):wpAny (model X.prog X.w) A (getMethod (.ref a) m pl) Q E s:=by
 obtain⟨mA,O,r,_,_,_⟩:=Zk I.hok e
 have hn:mA m=none:=RelO.none_of (by rw [← l];exact r m)
 exact zbX I.kIn O (c.get m) k.at_ k.fn hn h
theorem YS {y:V}{u:Value}{Q:Unit->Shared->Prop}(I:Inv X pins σ H s)(e:H a=some (.ins C dx fs))(c:Cls X.K C)(n:qY X.K C f)(hl:fs.length<1000)(ry:RelV y u)
  (h:∀ s',Inv X pins σ (upd H a (.ins C dx (putF f y fs))) s'->Q () s'):wpAny (model X.prog X.w) A (setAttr (.ref a) f u) Q E s:=by
 obtain⟨mA,O,r,wi,_,ho⟩:=Zk I.hok e
 have hz:(fs.map (·.1)).length<=sizeLine:=by rw [ue,sizeLine_eq];lia
 refine zeb I.kIn O c.sa c.po n.taker c.hd wi hz λh' O' sb=>h _ ?_
 have hd:∃ o,h'.get? dx=some o:=let ⟨o,_,_,e',_⟩:=O'.ns;⟨o,e'⟩
 refine I.write (x:=a) (e:=dx) (by rw [e];exact True.intro) (.inr ho) (λb q hb z=>(sb.2 b hb).trans z) hd ?_
 refine⟨by rw [zU O.ne];exact ho,?_,O.ne,O'.obj,_,O'.ns,λg=>?_,λg hg=>?_⟩
 ·have:=Qm f y fs;lia
 ·show RelO ((putF f y fs).lookup g) (if g=f then some u else mA g)
  rw [Ql]
  by_cases q:g=f
  ·rw [uw q,uw q];exact ry
  ·rw [uv q,uv q];exact r g
 ·by_cases q:g=f
  ·rw [q];exact(ZW f y fs).1
  ·refine(ZW f y fs).2 g (wi g λz=>hg ?_)
   show(if g=f then some u else mA g)=none
   rw [uv q];exact z
theorem Inv.made (I:Inv X pins σ H s):Inv X pins σ (upd (upd H s.heap.objs.size (.own (s.heap.objs.size+1))) (s.heap.objs.size+1) (.ins C s.heap.objs.size []))
  { s with heap:=(s.heap.push PySem.W.emptyDict).push (PySem.W.instObj C s.heap.objs.size) }:=by
 have e1:(s.heap.push PySem.W.emptyDict).get? s.heap.objs.size=some PySem.W.emptyDict:=Heap.get?_push_size s.heap rfl
 have e2:((s.heap.push PySem.W.emptyDict).push (PySem.W.instObj C s.heap.objs.size)).get? (s.heap.objs.size+1)=some (PySem.W.instObj C s.heap.objs.size):=by
  have:=Heap.get?_push_size (s.heap.push PySem.W.emptyDict) (o:=PySem.W.instObj C s.heap.objs.size) rfl
  rwa [Heap.size_push] at this
 have e3:(s.heap.push PySem.W.emptyDict).Ns s.heap.objs.size (λ_=>none):=⟨PySem.W.emptyDict,#[],_,e1,rfl,(λe he=>absurd he (by simp)),λ_=>rfl⟩
 have I1:=I.laid (a:=s.heap.objs.size) (o:=.own (s.heap.objs.size+1)) (h':=s.heap.push PySem.W.emptyDict) (t':=s.toks) (λb u q=>Heap.get?_push_of_some _ q) (ui _) ⟨_,e1⟩
 refine I1.laid (a:=s.heap.objs.size+1) (o:=.ins C s.heap.objs.size []) (t':=s.toks) (λb u q=>Heap.get?_push_of_some _ q) (Up (Heap.size_push _ _)) ?_
 have ne:s.heap.objs.size≠s.heap.objs.size+1:=uP (UQ _)
 refine⟨by rw [zU ne,jY],uE _,ne,e2,λ_=>none,(Heap.Ns1.of_empty e3).at λo q=>Heap.get?_push_of_some _ q,λ_=>True.intro,λy hy=>absurd rfl hy⟩
theorem zec {prog:Program}{w:World}{env:Env}{e:Expr}{f:Str}{pos:Pos}{s:Shared}{Q:Value->Shared->Prop}(hb:attributeBase e f env (eval e env)=eval e env)
  (h:wpAny (model prog w) A (eval e env) (λo s₁=>wpAny (model prog w) A (getAttr o f true) Q E s₁) E s):wpAny (model prog w) A (eval (.Attribute e f pos) env) Q E s:=
 Attribute_any_ h (by rw [arm_eval_Attribute,hb])
end
noncomputable def tFld (K:Le)(ta:TE)(f:Str):TE:=λσ H Q=>ta σ H λx H1=>∃ a C dx fs v,x=.ref a/\H1 a=some (.ins C dx fs)/\Cls K C/\qY K C f/\fs.lookup f=some v/\Q v H1
noncomputable def sFld (K:Le)(ta tv:TE)(f:Str):TS:=λD σ H=>tv σ H λy H1=>ta σ H1 λx H2=>∃ a C dx fs,x=.ref a/\H2 a=some (.ins C dx fs)/\Cls K C/\qY K C f/\fs.length<1000 /\
 D.nx σ (upd H2 a (.ins C dx (putF f y fs)))
section
variable {X:Cx} {o e value:Expr} {f:Str} {pos pos' tpos:Pos} {ta tv:TE}
theorem zgC (he:PE X e ta)(hb:attributeBase e f X.env (eval e X.env)=eval e X.env):PE X (.Attribute e f pos) (tFld X.K ta f):=by
 intro pins s σ H Q I h
 refine zec hb (thn (he pins s σ H _ I h) λu s1 ⟨x,H1,I1,rx,a,C,dx,fs,v,ex,ea,c,n,l,q⟩=>?_)
 subst ex
 obtain rfl:u=Value.ref a:=rx
 exact YQ I1 ea c n l λu' s2 I2 ru=>⟨v,H1,I2,ru,q⟩
theorem zgD (ha:PE X o ta)(hv:PE X value tv)(hs:swapsWith value (some (.Attribute o f pos')) pos.line X.env=pure false):PS X (.Assign [.Attribute o f pos'] value pos) (sFld X.K ta tv f):=by
 intro pins s σ H D I h
 refine plainObj_wpAny_Assign_Attribute (thn (hv pins s σ H _ I h) λu s1 ⟨y,H1,I1,ry,q⟩=>thn (ha pins s1 σ H1 _ I1 q) λov s2 ⟨x,H2,I2,rx,a,C,dx,fs,ex,ea,c,n,l,q2⟩=>?_) hs
 subst ex
 obtain rfl:ov=Value.ref a:=rx
 exact YS I2 ea c n l ry λs3 I3=>⟨σ,_,I3,q2⟩
end
section
variable {X:Cx} {pins:List (Addr×Obj)} {σ:St} {H:Hp} {s:Shared} {A:Around} {E:Value->Shared->Prop} {Q:Value->Shared->Prop} {c:Value} {b:Bool}
inductive TyOf (K:Le)(H:Hp):V->Value->Prop where
 | non:TyOf K H .non (.type "NoneType")
 | bl (x:Bool):TyOf K H (.bl x) (.type "bool")
 | int (i:Int):TyOf K H (.int i) (.type "int")
 | str (x:Str):TyOf K H (.str x) (.type "str")
 | flt (x:UInt64):TyOf K H (.flt x) (.type "float")
 | lst {a:Addr} {xs:List V} (e:H a=some (.lst xs)):TyOf K H (.ref a) (.type "list")
 | frz {a:Addr} {o:Obj} {xs:List V} (e:H a=some (.frz o (.lst xs))):TyOf K H (.ref a) (.type "list")
 | tup {a:Addr} {xs:List V} (e:H a=some (.tup xs)):TyOf K H (.ref a) (.type "tuple")
 | dK {a:Addr} {kvs:List (Key×V)} (e:H a=some (.dK kvs)):TyOf K H (.ref a) (.type "dict")
 | dT {a:Addr} {kvs:List (List Key×V)} (e:H a=some (.dT kvs)):TyOf K H (.ref a) (.type "dict")
 | ins {a C dx:Addr} {fs:List (Str×V)} (e:H a=some (.ins C dx fs)) (cl:Cls K C) (ha:PySem.W.findIn K (.ref C) "__class__" = some (some (.builtin "object.__class__")))
   (hn:PySem.W.specialIn K (.builtin "object.__class__") "__get__" = some (some (.builtin "getset_descriptor.__get__"))) (htk:PySem.W.takesIn K (.builtin "object.__class__")=some true)
   (hm:PySem.W.mroIn K C (.type "object")=some true):TyOf K H (.ref a) (.ref C)
theorem za6 {x:V}{u t:Value}(I:Inv X pins σ H s)(rx:RelV x u)(ty:TyOf X.K H x t)(e:PySem.W.kitOne X.K t c=some b)(h:∀ tk,Q (.bool b) { s with toks:=tk }) :
  wpAny (model X.prog X.w) A (call (.builtin "isinstance") [u,c]) Q E s:=by
 cases ty with
 | non=>cases (show u=Value.none from rx);exact Ua PySem.W.kitx_none I.kIn True.intro e (λz=>nomatch z) h
 | bl y=>cases (show u=Value.bool y from rx);exact Ua PySem.W.kitx_bool I.kIn True.intro e (λz=>nomatch z) h
 | int i=>obtain⟨t,q⟩:=(show ∃ t,u=Value.int i t from rx);cases q;exact Ua PySem.W.kitx_int I.kIn True.intro e (λz=>nomatch z) h
 | str y=>obtain⟨t,q⟩:=(show ∃ t,u=Value.str y t from rx);cases q;exact Ua PySem.W.kitx_str I.kIn True.intro e (λz=>nomatch z) h
 | flt y=>obtain⟨t,q⟩:=(show ∃ t,u=Value.float y t from rx);cases q;exact Ua PySem.W.kitx_float I.kIn True.intro e (λz=>nomatch z) h
 | @lst a xs ea=>
  cases (show u=Value.ref a from rx)
  obtain⟨_,_,n,_,h1⟩:=(show zZ X.prog X.w H s.heap a (.lst xs) from I.hok a _ ea)
  exact Ua U3 I.kIn ⟨_,h1,rfl⟩ e (λz=>nomatch z) h
 | @frz a ob xs ea=>
  cases (show u=Value.ref a from rx)
  obtain⟨_,_,_,n,_,h1⟩:=(show zZ X.prog X.w H s.heap a (.frz ob (.lst xs)) from I.hok a _ ea)
  exact Ua U3 I.kIn ⟨_,h1,rfl⟩ e (λz=>nomatch z) h
 | @tup a xs ea=>
  cases (show u=Value.ref a from rx)
  obtain⟨_,_,_,p⟩:=(show zZ X.prog X.w H s.heap a (.tup xs) from I.hok a _ ea)
  obtain⟨o,h1,h2,_⟩:=p
  exact Ua PySem.W.kitx_tuple I.kIn ⟨o,h1,h2⟩ e (λz=>nomatch z) h
 | @dK a kvs ea=>
  cases (show u=Value.ref a from rx)
  obtain⟨_,_,vs,_,p⟩:=(show zZ X.prog X.w H s.heap a (.dK kvs) from I.hok a _ ea)
  obtain⟨o,es,ep,h1,h2,_⟩:=p
  exact Ua U4 I.kIn ⟨o,h1,h2.1⟩ e (λz=>nomatch z) h
 | @dT a kvs ea=>
  cases (show u=Value.ref a from rx)
  obtain⟨_,_,xs,_,o,es,ep,h1,h2,_⟩:=(show zZ X.prog X.w H s.heap a (.dT kvs) from I.hok a _ ea)
  exact Ua U4 I.kIn ⟨o,h1,h2.1⟩ e (λz=>nomatch z) h
 | @ins a C dx fs ea cl ha hn htk hm=>
  cases (show u=Value.ref a from rx)
  obtain⟨mA,O,_⟩:=Zk I.hok ea
  obtain⟨od,J,_⟩:=O.look
  exact Ua (PySem.W.kitx_own (cl.get _) cl.hd ha hn htk hm) I.kIn J e (λz=>nomatch z) h
end
structure Room (k:Nat)(A:Around):Prop where
 hd:A.handled=none
 dp:A.depth+3 * k+5<recursionLimit
 un:A.units+16 * k+200<cLine
 gd:A.guards=some []
theorem Room.mono {j k:Nat}{A:Around}(r:Room k A)(h:j<=k):Room j A:=⟨r.hd,by have:=r.dp;lia,by have:=r.un;lia,r.gd⟩
theorem Room.deeper {k:Nat}{A:Around}(r:Room (k+1) A)(env:Env):Room k (A.deeper env):=
 ⟨r.hd,by have:=r.dp;show A.depth+1+3 * k+5<_;lia,by have:=r.un;show A.units+3+16 * k+200<_;lia,r.gd⟩
theorem YT {A:Around}{C:Addr}{us:Lf}{kw:List (Str×Value)}:(A.under (.builtin "type.__call__" ⟨.ref C::us,kw⟩)).depth=A.depth+1:=by
 first | rfl | simp [Around.under,Code.weight,Code.isCreation,Code.isGuard,Code.isCaller,Code.frames,Code.isFrame,guardIds]
theorem YU {A:Around}{C:Addr}{us:Lf}{kw:List (Str×Value)}:(A.under (.builtin "type.__call__" ⟨.ref C::us,kw⟩)).units=A.units+1:=by
 first | rfl | simp [Around.under,Code.cUnits,Code.frames,Code.isFrame]
theorem VI {A:Around}{C:Addr}{us:Lf}{kw:List (Str×Value)}:(A.under (.builtin "type.__call__" ⟨.ref C::us,kw⟩)).guards=A.guards:=by
 first | rfl | simp [Around.under,Code.weight,Code.isCreation,Code.isGuard,Code.isCaller,Code.frames,Code.isFrame,guardIds]
theorem Room.make {k:Nat}{A:Around}(r:Room (k+1) A)(C:Addr)(us:Lf)(kw:List (Str×Value)):Room k (A.under (.builtin "type.__call__" ⟨.ref C::us,kw⟩)):=
 ⟨r.hd,by have:=r.dp;rw [YT];lia,by have:=r.un;rw [YU];lia,by rw [VI];exact r.gd⟩
theorem Room.depth {k:Nat}{A:Around}(r:Room k A):A.depth<recursionLimit:=by have:=r.dp;lia
noncomputable def tNil:TA:=λ_ H Q=>Q [] H
noncomputable def zfy (ta:TE)(tr:TA):TA:=λσ H Q=>ta σ H λx H1=>tr σ H1 λxs H2=>Q (x::xs) H2
section
variable {X:Cx} {e:Expr} {es:Lg} {te:TE} {t:TA} {pos:Pos}
theorem Q8:PA X [] tNil:=λ_ _ _ _ H Q I h=>Calls.spliced_nil ⟨[],H,I,.nil,h⟩
theorem vH (ha:PE X e te)(hr:PA X es t)(hs:starEach (e::es) X.env=(false,eval e X.env)::starEach es X.env:=by rfl):PA X (e::es) (zfy te t):=by
 intro pos pins s σ H Q I h
 rw [hs]
 show wpAny _ _ (spliced ((false,eval e X.env)::backTo pos (starEach es X.env))) _ _ s
 refine Calls.spliced_cons (thn (ha pins s σ H _ I h) λu s1 ⟨x,H1,I1,r1,q1⟩=>?_)
 exact thn (hr pos pins s1 σ H1 _ I1 q1) λus s2 ⟨xs,H2,I2,r2,q2⟩=>⟨x::xs,H2,I2,.cons r1 r2,q2⟩
noncomputable def tTup (t:TA):TE:=λσ H Q=>t σ H λxs H1=>xs.length<=sizeLine/\∀ p,H1 p=none->Q (.ref p) (upd H1 p (.tup xs))
noncomputable def tLst (t:TA):TE:=λσ H Q=>t σ H λxs H1=>xs.length<=sizeLine/\∀ p,H1 p=none->Q (.ref p) (upd H1 p (.lst xs))
theorem zbZ {x1}(h:PA X es t):PE X (.Tuple es x1 pos) (tTup t):=by
 intro pins s σ H Q I hq
 refine wpAny_Tuple_spliced (thn (h pos pins s σ H _ I hq) λus s1 ⟨xs,H1,I1,r,z,q⟩=>⟨by rw [← r.length];exact z,?_⟩)
 have hf:H1 s1.heap.objs.size=none:=I1.hok.fresh (ui _)
 refine⟨.ref s1.heap.objs.size,upd H1 s1.heap.objs.size (.tup xs),I1.laid (t':=s1.toks) (λb u e=>Heap.get?_push_of_some _ e) (ui _) ?_,rfl,q _ hf⟩
 exact⟨z,us,r,⟨_,Heap.get?_push_size _ rfl,rfl,_,rfl⟩⟩
theorem zgE (h:PA X es t):PE X (.List es pos) (tLst t):=by
 intro pins s σ H Q I hq
 refine wpAny_List_spliced (thn (h pos pins s σ H _ I hq) λus s1 ⟨xs,H1,I1,r,z,q⟩=>⟨by rw [← r.length];exact z,?_⟩)
 have hf:H1 s1.heap.objs.size=none:=I1.hok.fresh (ui _)
 refine⟨.ref s1.heap.objs.size,upd H1 s1.heap.objs.size (.lst xs),I1.laid (t':=s1.toks) (λb u e=>Heap.get?_push_of_some _ e) (ui _) ?_,rfl,q _ hf⟩
 exact⟨z,us,0,r,Heap.get?_push_size _ rfl⟩
end
noncomputable abbrev Sp:=List V->Hp->VK->XK->Prop
noncomputable abbrev CXT:=List Env->Hp->Shared->XK->Value->Shared->Prop
structure Env0 (P:Program)(w:World)(K:Le)(mg:La)(base:Heap)(A:Around)(outer:List Env)(s:Shared)(H:Hp):Prop where
 frames:A.frames=some outer
 mod:Mod K mg base
 bs:∀ b o,base.get? b=some o->s.heap.get? b=some o/\H b=none
 bsz:base.objs.size<=s.heap.objs.size
 funs:s.heap.FunFrames base outer
 frf:∀ b∈frs outer,H b=none
 hok:HOk P w H s.heap
 bare:AllBare s.gens
def CE (outer:List Env)(P:Program)(w:World)(H:Hp)(s:Shared)(Q:VK)(u:Value)(s':Shared):Prop:=
 ∃ v H',s'.os=s.os/\AllBare s'.gens/\Un (frs outer) [] H H' s.heap s'.heap/\HOk P w H' s'.heap/\RelV v u/\Q v H'
def CR (CX:CXT)(outer:List Env)(P:Program)(w:World)(H:Hp)(s:Shared)(Q:VK)(E:XK)(r:Result)(s':Shared):Prop:=
 match r with
 | .ok (.ret u)=>CE outer P w H s Q u s'
 | .ok _=>False
 | .error e=>CX outer H s E e s'
structure FnOk (P:Program)(w:World)(K:Le)(mg:La)(base:Heap)(CX:CXT)(k:Nat)(f:Addr)(fd:FuncData)(ps:Lh)(sp:Sp):Prop where
 len:∀ vs H Q E,sp vs H Q E->vs.length=ps.length
 run:∀ (A:Around) (outer:List Env) (s:Shared) (H:Hp) (args:Args) (us:Lf) (vs:List V) (Q:VK) (E:XK),Room k A->Env0 P w K mg base A outer s H->BindsTo s fd args (ps.zip us)->Vals vs us->sp vs H Q E ->
  codeAny (model P w) A (.call (.ref f) args) (CR CX outer P w H s Q E) s
theorem Env0.make {P:Program}{w:World}{K:Le}{mg:La}{base:Heap}{A:Around}{outer:List Env}{s:Shared}{H:Hp}(e:Env0 P w K mg base A outer s H)(C:Addr)(us:Lf)(kw:List (Str×Value)) :
  Env0 P w K mg base (A.under (.builtin "type.__call__" ⟨.ref C::us,kw⟩)) outer s H:=⟨by first | exact e.frames | (simpa [Around.under,Code.envs,Code.isFrame,pushEnvs] using e.frames),e.mod,e.bs,e.bsz,e.funs,e.frf,e.hok,e.bare⟩
section
variable {X:Cx} {pins:List (Addr×Obj)} {σ:St} {H:Hp} {s s':Shared}
theorem Inv.env0 (I:Inv X pins σ H s):Env0 X.prog X.w X.K X.mg X.base X.A X.stack s H:=
 ⟨I.ok.frames,I.ok.mod,I.bs,uJ I.ok.bsz I.sz,I.stack,I.stkFree,I.hok,I.bare⟩
theorem Inv.after {Q:VK}{u:Value}(I:Inv X pins σ H s)(h:CE X.stack X.prog X.w H s Q u s'):EP X pins σ Q u s':=by
 obtain⟨v,H',os,bare,un,hok,r,q⟩:=h
 obtain⟨hh,g,d,t,os'⟩:=s'
 obtain rfl:os' = s.os:=os
 exact⟨v,H',I.call (h':=hh) (g':=g) (d':=d) (t':=t) (ch:=[]) un hok bare (λb z=>absurd z (by simp)),r,q⟩
end
def Binds (K:Le)(fd:FuncData)(ps:Lh)(ds:Lf):Prop:=
 ∀ (s:Shared) (us:Lf),K.In s.heap->(us++ds).length=ps.length->BindsTo s fd ⟨us,[]⟩ (ps.zip (us++ds))
theorem Binds.all {K:Le}{fd:FuncData}{ps:Lh}(h:∀ us:Lf,us.length=ps.length->bindArgs fd ⟨us,[]⟩=pure (ps.zip us)):Binds K fd ps []:=λs us _ hl=>by
 rw [uk] at hl ⊢
 exact .of_eq (h us hl)
section
variable {X:Cx} {CX:CXT} {k:Nat} {f C:Addr} {fd:FuncData} {ps:Lh} {sp:Sp} {dvs:List V} {ds:Lf} {E:XK} {x m:Str} {p pos apos:Pos} {e o:Expr} {es:Lg} {ta:TE} {t:TA}
structure Mk (K:Le)(C f:Addr):Prop where
 makes:PySem.W.makesIn K C=true
 init:PySem.W.findIn K (.ref C) "__init__" = some (some (.ref f))
 fn:PySem.W.isFn K (.ref f)=true
 kp:PySem.W.keepIn K (.ref C)=true
end
section
variable {X:Cx} {CX:CXT} {k:Nat} {f C:Addr} {fd:FuncData} {ps ks:Lh} {sp:Sp} {E:XK} {x m:Str} {p pos apos kpos:Pos} {e o:Expr} {es:Lg} {kws:List Keyword} {te ta:TE} {t tk:TA} {nm:Option Str}
variable {g:Lf->Lf->Lf} {gV:List V->List V->List V}
end
structure zg (N P:Lh)(sc:Scope):Prop where
 kind:sc.kind=.function
 co:sc.isCoroutine=false
 gen:sc.isGenerator=false
 nd:N.Nodup
 pre:N.take P.length=P
 par:∀ x∈P,sc.names.lookup x=some .local\/sc.names.lookup x=some .cell
 nofree:∀ y∈sc.names,y.2≠.free
theorem WH {kindOf:Str->Option NameKind}{x:Str}:∀ {binds:List (Str×Value)} {m:La},(∀ v,(x,v)∉binds)->bindL kindOf binds m x=m x
 | [],_,_=>rfl
 | (n,v)::r,m,h=>by
  unfold bindL
  rw [WH λw hw=>h w (uh _ hw)]
  split
  ·have:x≠n:=by rintro rfl;exact h v uf
   simp [this]
  ·rfl
theorem WI {kindOf:Str->Option NameKind}{x:Str}:∀ {binds:List (Str×Value)} {m:La},(∀ v,(x,v)∉binds)->bindC kindOf binds m x=m x
 | [],_,_=>rfl
 | (n,v)::r,m,h=>by
  unfold bindC
  rw [WI λw hw=>h w (uh _ hw)]
  split
  ·rfl
  ·have:x≠n:=by rintro rfl;exact h v uf
   simp [this]
theorem WJ {kindOf:Str->Option NameKind}{x:Str}{v:Value}:∀ {P:Lh} {vs:Lf} {i:Nat} {m:La},P.Nodup->P[i]? = some x->vs[i]? = some v->kindOf x=some .local ->
  bindL kindOf (P.zip vs) m x=some v
 | [],_,_,_,_,h,_,_=>by simp at h
 | _::_,[],_,_,_,_,h,_=>by simp at h
 | p::P,w::vs,0,m,nd,h1,h2,hk=>by
  simp at h1 h2;subst h1;subst h2
  show bindL kindOf ((p,w)::P.zip vs) m p=_
  unfold bindL
  rw [WH λv hv=>(Uc.mp nd).1 (UY hv).1,uw hk]
  simp
 | p::P,w::vs,i+1,m,nd,h1,h2,hk=>by
  show bindL kindOf ((p,w)::P.zip vs) m x=_
  unfold bindL
  exact WJ (i:=i) (Uc.mp nd).2 (by simpa using h1) (by simpa using h2) hk
theorem WK {kindOf:Str->Option NameKind}{x:Str}{v:Value}:∀ {P:Lh} {vs:Lf} {i:Nat} {m:La},P.Nodup->P[i]? = some x->vs[i]? = some v->kindOf x≠some .local ->
  bindC kindOf (P.zip vs) m x=some v
 | [],_,_,_,_,h,_,_=>by simp at h
 | _::_,[],_,_,_,_,h,_=>by simp at h
 | p::P,w::vs,0,m,nd,h1,h2,hk=>by
  simp at h1 h2;subst h1;subst h2
  show bindC kindOf ((p,w)::P.zip vs) m p=_
  unfold bindC
  rw [WI λv hv=>(Uc.mp nd).1 (UY hv).1,uv hk]
  simp
 | p::P,w::vs,i+1,m,nd,h1,h2,hk=>by
  show bindC kindOf ((p,w)::P.zip vs) m x=_
  unfold bindC
  exact WK (i:=i) (Uc.mp nd).2 (by simpa using h1) (by simpa using h2) hk
noncomputable def start (N:Lh)(vs:List V):St:=vs.map some++List.replicate (N.length - vs.length) none
noncomputable def cxOf (CX:CXT)(P:Program)(w:World)(K:Le)(mg:La)(base:Heap)(N:Lh)(qual:Str)(scope:Scope)(f:Addr)(cd:Value)(A:Around)(outer:List Env)(s:Shared)(H:Hp)(E:XK):Cx where
 prog:=P
 w:=w
 K:=K
 mg:=mg
 base:=base
 A:=A.deeper (envOfC qual scope s.heap.objs.size f cd)
 N:=N
 s₀:=s
 H₀:=H
 env:=envOfC qual scope s.heap.objs.size f cd
 outer:=outer
 stack:=envOfC qual scope s.heap.objs.size f cd::outer
 ex:=[]
 calm:=true
 fn:=λ_=>true
 pn:=[]
 xe:=λe s'=>wpAny (model P w) (A.deeper (envOfC qual scope s.heap.objs.size f cd)) (leaving (envOfC qual scope s.heap.objs.size f cd) e) (λ_ s''=>CX outer H s E e s'') (λe' s''=>CX outer H s E e' s'') s'
theorem VJ {sc:Scope}{n:Nat}{x:Str}(h:sc.names.lookup x=some .cell):∃ c,(cellsFrom n sc.names []).lookup x=some c:=by
 have q:=PySem.W.cellsFrom_some sc.names n [] (.inl h)
 exact Gh.mp q
theorem za7 {CX:CXT}{P:Program}{w:World}{K:Le}{mg:La}{base:Heap}{N ps:Lh}{qual:Str}{scope:Scope}{f:Addr}{cd:Value}{A:Around}{outer:List Env}{s s1:Shared}{H:Hp}{E:XK}{us:Lf}{vs:List V}
  (S:zg N ps scope) (hd:A.handled=none) (e0:Env0 P w K mg base A outer s H) (hl:vs.length=ps.length) (r:Vals vs us)
  (x:InCallC s s.heap.objs.size (bindL (envOfC qual scope s.heap.objs.size f cd).kindOf (ps.zip us) λ_=>none) (cellsFrom (s.heap.objs.size+1) scope.names []) (bindC (envOfC qual scope s.heap.objs.size f cd).kindOf (ps.zip us) λ_=>none) s1) :
  Inv (cxOf CX P w K mg base N qual scope f cd A outer s H E) [] (start N vs) H s1:=by
 have hpl:ps.length<=N.length:=by have:=congrArg List.length S.pre;rw [Uv] at this;lia
 obtain⟨h1,tk,rfl,hk⟩:=x.done
 have noA:∀ b:Addr,b∉(cxOf CX P w K mg base N qual scope f cd A outer s H E).ex:=λb z=>absurd (show b∈([]:Ld) from z) (by simp)
 refine⟨⟨e0.mod,S.kind,rfl,rfl,ui _,λy z c h1 h2=>?_,λy hy=>?_,λy c _ h=>?_,λ_=>hd,Around.frames_deeper e0.frames,.inr ⟨rfl,rfl⟩,λb z=>absurd z (noA b),e0.bs,e0.bsz,λb _ _=>noA b,λb z=>absurd z (noA b),e0.funs,e0.frf⟩,
  rfl,e0.bare,Un.kept hk,⟨_,x.toInCall.ns,λi y v h1 h2 h3=>?_⟩,λy c h=>⟨_,x.cell y c h⟩,e0.hok.fresh (ui _),λy c h=>?_,λp hp=>absurd (show p∈([]:List (Addr×Obj)) from hp) (by simp),e0.hok.kept hk,?_⟩
 ·exact name_of_addr x.apart (u7 h1) (u7 h2)
 ·have hy:scope.names.lookup y=some .cell\/scope.names.lookup y=some .free:=hy
  rcases hy with hy | hy
  ·exact VJ hy
  ·exact absurd rfl (S.nofree _ (u7 hy))
 ·exact Nat.le_of_lt (x.above y c (u7 h))
 ·have hi:i<vs.length:=by
   unfold start at h2
   by_cases hi:i<vs.length
   ·exact hi
   ·rw [uV (by simpa using hi)] at h2
    rw [Gj] at h2
    split at h2<;>cases h2
  have ha:vs[i]? = some v:=by
   unfold start at h2
   rw [Ul (by simpa using hi),ux] at h2
   cases e:vs[i]? with
   | none=>rw [e] at h2;cases h2
   | some a=>rw [e] at h2;cases h2;rfl
  obtain⟨u,hu,rv⟩:=r.get ha
  have hp:ps[i]? = some y:=by
   rw [← S.pre,List.getElem?_take_of_lt (by lia)];exact h1
  have ndP:ps.Nodup:=by rw [← S.pre];exact S.nd.sublist (List.take_sublist _ _)
  refine⟨u,rv,?_⟩
  rcases S.par y (uK hp) with k | k
  ·exact .inl ⟨k,WJ ndP hp hu k⟩
  ·obtain⟨c,e⟩:=VJ (n:=s.heap.objs.size+1) k
   refine .inr ⟨.inl k,c,e,?_⟩
   have q:=x.cell y c e
   rw [WK ndP hp hu (by show scope.names.lookup y≠_;rw [k];decide)] at q
   exact q
 ·exact e0.hok.fresh (Nat.le_of_lt (x.above y c (u7 h)))
 ·unfold start
  show _=N.length
  rw [ua,ue,Uk]
  lia
theorem zb0 {CX:CXT}{P:Program}{w:World}{K:Le}{mg:La}{base:Heap}{k:Nat}{f:Addr}{name qual:Str}{params:Arguments}{body:List Stmt}{scope:Scope}{dV kV doc pm cdv ct oc:Value}{an od:Option Addr}
  {osl:Array (Option Value)} {N ps:Lh} {sp:Sp} (lk:K.lookup f=some ⟨oc,od,.func (PySem.W.fnOf name qual params body scope dV kV doc pm an cdv ct),osl⟩) (hcd:PySem.W.codeIn K cdv qual=true) (S:zg N ps scope)
  (len:∀ vs H Q E,sp vs H Q E->vs.length=ps.length)
  (hbody:∀ (A:Around) (outer:List Env) (s:Shared) (H:Hp) (vs:List V) (Q:VK) (E:XK),Room k (A.deeper (envOfC qual scope s.heap.objs.size f cdv))->sp vs H Q E ->
   ∃ t,PSs (cxOf CX P w K mg base N qual scope f cdv A outer s H E) body t/\t { nx:=λ_ H'=>Q .non H',rt:=Q } (start N vs) H) :
  FnOk P w K mg base CX (k+1) f (PySem.W.fnOf name qual params body scope dV kV doc pm an cdv ct) ps sp:=by
 refine⟨len,λA outer s H args us vs Q E hr e0 hb r hsp=>?_⟩
 have hl:=len _ _ _ _ hsp
 have KX:K.In s.heap:=e0.mod.kin.keeps λb o e=>(e0.bs b o e).1
 have lim:s.heap.NoLimit:=e0.mod.nolimit.keeps λb o e=>(e0.bs b o e).1
 have hkind:∀ y∈ps.zip us,scope.names.lookup y.1=some .local\/(scope.names.lookup y.1=some .cell/\((cellsFrom (s.heap.objs.size+1) scope.names []).lookup y.1).isSome=true):=λ⟨n,v⟩ hy=>by
  rcases S.par n (UY hy).1 with q | q
  ·exact .inl q
  ·exact .inr ⟨q,PySem.W.cellsFrom_some _ _ _ (.inl q)⟩
 refine codeAny_call_function hr.depth (KX _ _ lk) rfl S.co S.gen rfl (PySem.W.codeRec_of KX hcd) (hb _ _ _ _ ?_)
 refine wpAny_newFunctionEnv_cells S.kind hkind λenv he s1 x=>?_
 subst he
 refine⟨lim.keeps x.toInCall.keep,codeAny_func ?_⟩
 obtain⟨t,ht,hq⟩:=hbody A outer s H vs Q E (hr.deeper _) hsp
 have I:Inv (cxOf CX P w K mg base N qual scope f cdv A outer s H E) [] (start N vs) H s1:=za7 S hr.hd e0 hl r x
 refine wpAny_mono (ht [] s1 (start N vs) H _ I hq) (λfl s' hs=>?_) λe s' hs=>hs
 have fin:∀ {σ':St} {H':Hp} {v:V} {u:Value},Inv (cxOf CX P w K mg base N qual scope f cdv A outer s H E) [] σ' H' s'->RelV v u->Q v H'->CE outer P w H s Q u s':=
  λ{σ' H' v u} J rv q=>⟨v,H',J.os,J.bare,J.base,J.hok,rv,q⟩
 cases fl with
 | ret u=>
  obtain⟨v,σ',H',J,rv,q⟩:=hs
  exact fin J rv q
 | next=>
  obtain⟨σ',H',J,q⟩:=hs
  exact fin (v:=V.non) (u:=Value.none) J rfl q
 | brk=>
  obtain⟨_,_,_,q⟩:=hs
  exact False.elim q
 | cont=>
  obtain⟨_,_,_,q⟩:=hs
  exact False.elim q
section
variable {X:Cx} {x:Str} {p pos:Pos} {e:Expr} {es:Lg} {t:TA} {id T:String} {r:List V->Hp->VK->Prop}
noncomputable def tCB (r:List V->Hp->VK->Prop)(t:TA):TE:=λσ H Q=>t σ H λvs H1=>r vs H1 Q
theorem Zl (hc:jZ X (.builtin id) r)(hg:Gl X x)(hm:X.mg x=none)(hv:bootBuiltins x=some (.builtin id))(ha:PA X (e::es) t)(hn:x≠"__name__":=by decide) (hdb:(x == ("__debug__":Str))=false:=by decide)
  (he:starEach (e::es) X.env=(false,eval e X.env)::starEach es X.env:=by rfl) (hpl:(backTo pos (starEach es X.env)).any (·.1)=false:=by rfl):PE X (.Call (.Name x p) (e::es) [] pos) (tCB r t):=by
 intro pins s σ H Q I h
 refine wpAny_Call_Name_kw (ZT I hg hm hv ?_ hn hdb)
 exact PyProof.Rows.callWith_builtin1 (thn (ha pos pins s σ H _ I h) λus s1 ⟨vs,H1,I1,r1,q1⟩=>hc pins s1 σ H1 vs us Q I1 r1 q1) he hpl
theorem kc (hc:jZ X (.type T) r)(hg:Gl X x)(hm:X.mg x=none)(hv:bootBuiltins x=some (.type T))(ha:PA X (e::es) t)(hn:x≠"__name__":=by decide) (hdb:(x == ("__debug__":Str))=false:=by decide)
  (he:starEach (e::es) X.env=(false,eval e X.env)::starEach es X.env:=by rfl) (hpl:(backTo pos (starEach es X.env)).any (·.1)=false:=by rfl):PE X (.Call (.Name x p) (e::es) [] pos) (tCB r t):=by
 intro pins s σ H Q I h
 refine wpAny_Call_Name_kw (ZT I hg hm hv ?_ hn hdb)
 exact PyProof.Rows.callWith_type1 (thn (ha pos pins s σ H _ I h) λus s1 ⟨vs,H1,I1,r1,q1⟩=>hc pins s1 σ H1 vs us Q I1 r1 q1) he hpl
end
end L2
namespace HT
open PySem PyProof.Rows
section
open PySem.SeqAt
open PySem.AutoSeq1 (wpAny_loadPart')
open PySem.MeetsSeq PySem.MeetsSeq2 PySem.MeetsSeq3
end
section
variable {prog:Program} {w:World} {A:Around} {E:Value->Shared->Prop} {s:Shared}
theorem zed {t b:Addr}{vs ws:Lf}{Q:Value->Shared->Prop}(ht:IsTup s.heap t vs.toArray)(hb:IsTup s.heap b ws.toArray)(hv:vs≠[])
  (h1:ws=[]->Q (.ref t) s) (h2:ws≠[]->Q (.ref s.heap.objs.size) { s with heap:=s.heap.push { cls:=.type "tuple",data:=.seq (vs++ws).toArray } })
  (hsz:vs.length+ws.length<=sizeLine):wpAny (model prog w) A (binaryOp .Add (.ref t) (.ref b)) Q E s:=by
 obtain⟨⟨cls,dd,data,sl⟩,ho,hc,n,hd⟩:=id ht
 obtain⟨⟨cls2,dd2,data2,sl2⟩,ho2,hc2,n2,hd2⟩:=id hb
 simp only at hc hd hc2 hd2
 subst hc hd hc2 hd2
 have e:vs.toArray++ws.toArray=(vs++ws).toArray:=by simp
 by_cases hw:ws=[]
 ·exact concat_meets ⟨_,ho,rfl⟩ ⟨_,ho2,rfl⟩ noFill_tuple_add seq_tuple_add gu gh (U8 _ _)
   (tuple_addW1 t b vs.toArray ws.toArray n n2 dd dd2 sl sl2 (by simpa using hv) (by simp [hw])) ⟨ho,ho2,h1 hw⟩
 ·refine concat_meets ⟨_,ho,rfl⟩ ⟨_,ho2,rfl⟩ noFill_tuple_add seq_tuple_add gu gh (U8 _ _)
   (tuple_addW2 t b vs.toArray ws.toArray n n2 dd dd2 sl sl2 (by simpa using hv) (by simpa using hw) (by rw [uj,uj];exact hsz)) ⟨ho,ho2,?_⟩
  rw [e]
  exact h2 hw
noncomputable def sIx (n d:Nat):Option Int->Nat
 | none=>d
 | some v=>if v<0 then(v+(n:Int)).toNat else min v.toNat n
theorem sIx_nat (n d k:Nat):sIx n d (some (k:Int))=min k n:=by
 show(if (k:Int)<0 then((k:Int)+(n:Int)).toNat else min (k:Int).toNat n)=min k n
 rw [uv (by lia),UK]
theorem sIx_le (n d:Nat)(hd:d<=n)(o:Option Int):sIx n d o<=n:=by
 cases o with
 | none=>exact hd
 | some v=>
  show(if v<0 then(v+(n:Int)).toNat else min v.toNat n)<=n
  by_cases hv:v<0
  ·rw [uw hv];lia
  ·rw [uv hv];exact Nat.min_le_right _ _
theorem KY (v:Int)(n d:Nat):(if v<0 then max (v+(n:Int)) 0 else min v (n:Int))=((sIx n d (some v):Nat):Int):=by
 show(if v<0 then max (v+(n:Int)) 0 else min v (n:Int))=(((if v<0 then(v+(n:Int)).toNat else min v.toNat n):Nat):Int)
 by_cases hv:v<0
 ·simp only [uw hv];lia
 ·simp only [uv hv];lia
theorem YV (lo hi:Option Int)(n:Nat):Builtin.Slice.sliceAdjust lo hi 1 (n:Int)=(((sIx n 0 lo:Nat):Int),((sIx n n hi:Nat):Int)):=by
 have h1:¬ ((1:Int)<0):=by lia
 unfold Builtin.Slice.sliceAdjust
 simp only [h1,U2]
 refine Prod.ext ?_ ?_
 ·cases lo with
  | none=>rfl
  | some v=>exact KY v n 0
 ·cases hi with
  | none=>rfl
  | some v=>exact KY v n n
theorem YW (i j:Nat):Builtin.Slice.slicePlaces (i:Int) (j:Int) 1=j - i:=by
 unfold Builtin.Slice.slicePlaces
 have h1:(1:Int) > 0:=by lia
 simp only [h1,U5,Int.ediv_one]
 split<;>lia
theorem Q9 {v:Value}{o:Option Int}{Q:Option Int->Shared->Prop}(p:IsPart v o)(h:Q o s):wpAny (model prog w) A (Builtin.Slice.slicePartIndex v) Q E s:=by
 cases p with
 | none=>exact slicePart_none h
 | int i t=>exact slicePart_int h
theorem vo {sl:Addr}{vl vu:Value}{lo hi:Option Int}{n:Nat}{Q:Int×Int×Nat->Shared->Prop}(hs:s.heap.IsSliceOf sl vl vu .none)(pl:IsPart vl lo)(pu:IsPart vu hi)
  (h:Q (((sIx n 0 lo:Nat):Int),1,sIx n n hi - sIx n 0 lo) s):wpAny (model prog w) A (Builtin.Slice.sliceApplied (.ref sl) (pure (n:Int))) Q E s:=by
 obtain⟨os,hos,hcs,hds⟩:=id hs
 unfold Builtin.Slice.sliceApplied Builtin.Slice.sliceFields
 refine wpAny_bind (wpAny_bind (wpAny_field hos hds (x:=vl) rfl (wpAny_bind (wpAny_field hos hds (x:=vu) rfl (wpAny_bind (wpAny_field hos hds (x:=.none) rfl (wpAny_pure ?_)))))))
 refine wpAny_bind (slicePart_none ?_)
 show wpAny _ _ (if ((1:Int) == 0)=true then _ else _) _ _ s
 rw [uv (by decide)]
 refine wpAny_bind (Q9 pl (wpAny_bind (Q9 pu (wpAny_bind (wpAny_pure ?_)))))
 show wpAny _ _ (match Builtin.Slice.sliceAdjust lo hi 1 (n:Int) with | (lo,hi)=>pure (lo,(1:Int),Builtin.Slice.slicePlaces lo hi 1)) _ _ s
 rw [YV lo hi n]
 show wpAny _ _ (pure (((sIx n 0 lo:Nat):Int),(1:Int),Builtin.Slice.slicePlaces ((sIx n 0 lo:Nat):Int) ((sIx n n hi:Nat):Int) 1)) _ _ s
 rw [YW]
 exact wpAny_pure h
theorem zb1 (xs:Array Value)(i k:Nat):((List.range k).filterMap λ(m:Nat)=>xs[((i:Int)+(m:Int) * 1).toNat]?).toArray=((xs.toList.drop i).take k).toArray:=by
 have e:(λ(m:Nat)=>xs[((i:Int)+(m:Int) * 1).toNat]?)=λm=>xs[i+m]?:=by
  funext m
  have:((i:Int)+(m:Int) * 1).toNat=i+m:=by lia
  rw [this]
 rw [e]
 have:=pick_run xs i k
 rw [List.filterMap_map] at this
 have e2:((λx=>xs[x]?) ∘ λx=>i+x)=λm=>xs[i+m]?:=rfl
 rw [e2] at this
 rw [this]
theorem Zm {t sl:Addr}{items:Array Value}{vl vu:Value}{lo hi:Option Int}{Q:Value->Shared->Prop}(ht:IsTup s.heap t items)(hs:s.heap.IsSliceOf sl vl vu .none)(pl:IsPart vl lo)(pu:IsPart vu hi)
  (hw:¬ (sIx items.size 0 lo=0/\sIx items.size items.size hi=items.size))
  (h:Q (.ref s.heap.objs.size) { s with heap:=s.heap.push { cls:=.type "tuple",data:=.seq ((items.toList.drop (sIx items.size 0 lo)).take (sIx items.size items.size hi - sIx items.size 0 lo)).toArray } })
  (hsz:items.size<=sizeLine):wpAny (model prog w) A (getItem (.ref t) (.ref sl)) Q E s:=by
 have htake:sizeOk (.seq ((items.toList.drop (sIx items.size 0 lo)).take (sIx items.size items.size hi - sIx items.size 0 lo)).toArray):=by
  show((items.toList.drop (sIx items.size 0 lo)).take (sIx items.size items.size hi - sIx items.size 0 lo)).toArray.size<=sizeLine
  rw [uj,Uv,Ub,gG]
  lia
 have hj:sIx items.size items.size hi<=items.size:=sIx_le _ _ (ui _) hi
 obtain⟨os,hos,hcs,hds⟩:=id hs
 have hTs:s.TypeIs (.ref sl) "slice":=⟨os,hos,hcs⟩
 unfold getItem
 try with_reducible refine wpAny_holding ?_
 first | refine wpAny_bind (wpAny_pure ?_) | skip
 refine wpAny_bind (wpAny_sequenceKey ht.typeIs (by decide) ?_)
 refine wpAny_bind (wpAny_callSpecial?_slot (name:=Str.ofString "__getitem__") ht.typeIs PyProof.Rows.slot_tuple_getitem
  (wpAny_call_entry PyProof.Rows.slot_tuple_getitem ht.typeIs entry_tuple_getitem ?_ (args_tuple_getitem _ _)))
 show wpAny _ _ (Builtin.Tuple.tupleItemsOf (.ref t) >>= _) _ _ s
 refine wpAny_bind (tupleItemsOf_ ht ?_)
 refine wpAny_bind (wpAny_typeOf hTs ?_)
 rw [uw (by decide)]
 refine wpAny_bind (vo hs pl pu ?_)
 have hno:¬ ((((sIx items.size 0 lo:Nat):Int) == 0&&(1:Int) == 1&&(sIx items.size items.size hi - sIx items.size 0 lo) == items.size)=true):=by
  intro q
  rw [uQ,uQ] at q
  have q1:((sIx items.size 0 lo:Nat):Int)=0:=eq_of_beq q.1.1
  have q2:sIx items.size items.size hi - sIx items.size 0 lo=items.size:=eq_of_beq q.2
  exact hw ⟨by lia,by lia⟩
 show wpAny _ _ (if (((sIx items.size 0 lo:Nat):Int) == 0&&(1:Int) == 1&&(sIx items.size items.size hi - sIx items.size 0 lo) == items.size)=true then _ else _) _ _ s
 rw [uv hno,zb1]
 first
  | exact wpAny_bind (m:=Builtin.Tuple.tupleExact _) (wpAny_newObj_type (wpAny_pure ⟨_,rfl,wpAny_pure h⟩) htake)
  | exact wpAny_bind (m:=Builtin.Tuple.tupleExact _) (wpAny_newObj_type (wpAny_bind (wpAny_pure (wpAny_pure ⟨_,rfl,wpAny_pure h⟩))) htake)
  | exact wpAny_bind (wpAny_bind (m:=Builtin.Tuple.tupleExact _) (wpAny_newObj_type (wpAny_pure (wpAny_pure ⟨_,rfl,wpAny_pure h⟩)) htake))
  | exact wpAny_bind (wpAny_bind (m:=Builtin.Tuple.tupleExact _) (wpAny_newObj_type (wpAny_pure ⟨_,rfl,wpAny_pure h⟩) htake))
end
end HT
namespace L2
open PySem PySem.Spec PyProof.Rows
noncomputable abbrev TO:=St->Hp->(Option Int->Hp->Prop)->Prop
section
variable {X:Cx} {e:Expr} {te:TE} {lo hi:Option Expr} {tl th:TO} {pos p2:Pos}
def SlR (X:Cx)(r:V->Option Int->Option Int->Hp->VK->Prop):Prop:=
 ∀ (pins:List (Addr×Obj)) (s:Shared) (σ:St) (H:Hp) (x:V) (v vl vu:Value) (lo hi:Option Int) (sl:Addr) (Q:VK),Inv X pins σ H s->RelV x v->s.heap.IsSliceOf sl vl vu .none->IsPart vl lo->IsPart vu hi->r x lo hi H Q ->
  ∃ T id,typeLookup (.type T) "__getitem__" = pure (some (.builtin id))/\s.TypeIs v T/\wpAny (model X.prog X.w) X.A (getItem v (.ref sl)) (EP X pins σ Q) X.xe s
noncomputable def cutV (xs:List V)(lo hi:Option Int):List V:=(xs.drop (HT.sIx xs.length 0 lo)).take (HT.sIx xs.length xs.length hi - HT.sIx xs.length 0 lo)
theorem Qn (xs:List V)(lo hi:Option Int):(cutV xs lo hi).length<=xs.length:=by
 unfold cutV
 rw [Uv,Ub]
 lia
noncomputable def rSlT (K:Le):V->Option Int->Option Int->Hp->VK->Prop:=λx lo hi H Q=>∃ a xs,x=.ref a/\SqT K H a xs /\
 ¬ (HT.sIx xs.length 0 lo=0/\HT.sIx xs.length xs.length hi=xs.length)/\∀ p,H p=none->Q (.ref p) (upd H p (.tup (cutV xs lo hi)))
theorem zgF:SlR X (rSlT X.K):=by
 intro pins s σ H x v vl vu lo hi sl Q I rx hs pl pu h
 obtain⟨a,xs,rfl,hx,hw,q⟩:=h
 cases rx
 obtain⟨its,r,ht,hz⟩:=I.tuple hx
 have hlen:its.toArray.size=xs.length:=by rw [uj];exact r.length.symm
 refine⟨"tuple",_,PyProof.Rows.slot_tuple_getitem.lookup,ht.typeIs,?_⟩
 refine HT.Zm ht hs pl pu (by rw [hlen];exact hw) ?_ (by rw [hlen];exact hz)
 rw [hlen]
 refine⟨.ref s.heap.objs.size,_,I.laid (t':=s.toks) (o:=.tup (cutV xs lo hi)) (λb ob q=>Heap.get?_push_of_some _ q) (ui _) ?_,rfl,q _ (I.hok.fresh (ui _))⟩
 exact⟨uJ (Qn xs lo hi) hz,_,(r.drop (HT.sIx xs.length 0 lo)).take (HT.sIx xs.length xs.length hi - HT.sIx xs.length 0 lo),IsTup.new _ _⟩
noncomputable def ziH (K:Le):R2:=λx y H Q=>∃ a b xs ys,x=.ref a/\y=.ref b/\SqT K H a xs/\SqT K H b ys/\xs≠[]/\xs.length+ys.length<=sizeLine /\
 (ys=[]->Q (.ref a) H)/\(ys≠[]->∀ p,H p=none->Q (.ref p) (upd H p (.tup (xs++ys))))
theorem Vals.nil_iff {xs:List V}{us:Lf}(r:Vals xs us):us=[]↔xs=[]:=by
 cases r with
 | nil=>simp
 | cons _ _=>simp
theorem zee:OpR X (binaryOp .Add) (ziH X.K):=by
 intro pins s σ H x y v u Q I rx ry h
 obtain⟨a,b,xs,ys,rfl,rfl,ha,hb,hx,hz,q1,q2⟩:=h
 cases rx
 cases ry
 obtain⟨its,r1,p1,_⟩:=I.tuple ha
 obtain⟨its2,r2,p2,_⟩:=I.tuple hb
 refine HT.zed p1 p2 (λz=>hx (r1.nil_iff.mp z)) (λz=>⟨.ref a,H,I,rfl,q1 (r2.nil_iff.mp z)⟩) (λz=>?_) (by rw [← r1.length,← r2.length];exact hz)
 refine⟨.ref s.heap.objs.size,_,I.laid (t':=s.toks) (o:=.tup (xs++ys)) (λb ob q=>Heap.get?_push_of_some _ q) (ui _) ?_,rfl,q2 (λw=>z (r2.nil_iff.mpr w)) _ (I.hok.fresh (ui _))⟩
 exact⟨by rw [ua];exact hz,_,r1.append r2,IsTup.new _ _⟩
end
noncomputable def ixN (n:Nat)(i:Int):Option Nat:=if 0<=i then(if i<n then some i.toNat else none) else if -(n:Int)<=i then some (i+n).toNat else none
noncomputable def atI {α:Type}(xs:List α)(i:Int):Option α:=(ixN xs.length i).bind λj=>xs[j]?
theorem Xn {n:Nat}{i:Int}{j:Nat}(h:ixN n i=some j):seqIndex? i n=some j/\j<n/\-(n:Int)<=i/\i<n:=by
 unfold ixN at h
 by_cases h0:0<=i
 ·rw [uw h0] at h
  by_cases h1:i<n
  ·rw [uw h1] at h
   have e:i.toNat=j:=uG h
   exact⟨by rw [seqIndex_of h0 h1,e],by lia,by lia,h1⟩
  ·rw [uv h1] at h;cases h
 ·rw [uv h0] at h
  by_cases h1:-(n:Int)<=i
  ·rw [uw h1] at h
   have e:(i+n).toNat=j:=uG h
   exact⟨by rw [seqIndex_neg (by lia) h1,e],by lia,h1,by lia⟩
  ·rw [uv h1] at h;cases h
theorem Xo {α:Type}{xs:List α}{i:Int}{v:α}(h:atI xs i=some v):∃ j,seqIndex? i xs.length=some j/\xs[j]? = some v/\j<xs.length/\-(xs.length:Int)<=i/\i<xs.length:=by
 unfold atI at h
 cases e:ixN xs.length i with
 | none=>rw [e] at h;cases h
 | some j=>
  rw [e] at h
  obtain⟨h1,h2,h3,h4⟩:=Xn e
  exact⟨j,h1,h,h2,h3,h4⟩
def KZ (b:Expr):Prop:=∀ o i,subscripted b false o i=operate [o,i] (getItem o i)
def IxR (X:Cx)(r:R2):Prop:=
 ∀ (value slice:Expr) (pins:List (Addr×Obj)) (s:Shared) (σ:St) (H:Hp) (x y:V) (v u:Value) (Q:VK),Inv X pins σ H s->RelV x v->RelV y u->r x y H Q ->
  subscripted slice false v u=operate [v,u] (getItem v u)->wpAny (model X.prog X.w) X.A (subscriptTail value slice v u) (EP X pins σ Q) X.xe s
def MtR (X:Cx)(id:String)(r:V->List V->Hp->VK->Prop):Prop:=
 ∀ (pins:List (Addr×Obj)) (s:Shared) (σ:St) (H:Hp) (x:V) (xs:List V) (v:Value) (us:Lf) (Q:VK),Inv X pins σ H s->RelV x v->Vals xs us->r x xs H Q ->
  wpAny (model X.prog X.w) X.A (call (.builtin id) (v::us)) (EP X pins σ Q) X.xe s
section
variable {X:Cx} {a b:Expr} {ta tb:TE} {pos:Pos}
theorem ziI {r:R2}(hr:IxR X r)(ha:PE X a ta)(hb:PE X b tb)(hs:KZ b):PE X (.Subscript a b pos) (tOp r ta tb):=by
 intro pins s σ H Q I h
 exact Subscript_ (binT ha hb I h λv u s2 x y H2 I2 rx ry q=>hr a b pins s2 σ H2 x y v u Q I2 rx ry q (hs _ _))
noncomputable def rIxL (K:Le):R2:=λx y H Q=>∃ p xs i v,x=.ref p/\y=.int i/\SqL K H p xs/\atI xs i=some v/\Q v H
noncomputable def rIxT (K:Le):R2:=λx y H Q=>∃ p xs i v,x=.ref p/\y=.int i/\SqT K H p xs/\atI xs i=some v/\Q v H
noncomputable def rIxS:R2:=λx y H Q=>∃ z i c,x=.str z/\y=.int i/\z.length<=sizeLine/\atI z.cps.toList i=some c/\Q (.str ⟨#[c]⟩) H
theorem zef:IxR X (rIxL X.K):=by
 intro value slice pins s σ H x y v u Q I rx ry h hs
 obtain⟨p,xs,i,z,rfl,rfl,hq,he,q⟩:=h
 cases rx
 obtain⟨t,rfl⟩:=ry
 obtain⟨its,r,pl,hz⟩:=I.list hq
 obtain⟨j,h1,h2,h3,h4,h5⟩:=Xo he
 obtain⟨w,ew,rw'⟩:=r.get h2
 have hl:=r.length
 have hn:=kO
 have fin:EP X pins σ Q w s:=⟨z,H,I,rw',q⟩
 by_cases h0:0<=i
 ·have hj:i.toNat=j:=by
   rw [seqIndex_of h0 h5] at h1
   exact uG h1
  exact item_listR pl.isList h0 (by lia) (by rw [hj];simpa using ew) fin hs
 ·have hj:(i+(its.toArray.size:Int)).toNat=j:=by
   rw [seqIndex_neg (by lia) h4] at h1
   rw [uj,← hl]
   exact uG h1
  exact subscriptTail_builtinR (x:=w) pl.isList.typeIs slot_list_getitem.lookup
   (wpAny_getItem_list_neg (Q:=λr s'=>r=w/\EP X pins σ Q r s') pl.isList (by lia) (by rw [uj]<;>lia) (by lia) (by rw [hj];simpa using ew) ⟨rfl,fin⟩) hs
theorem zgG:IxR X (rIxT X.K):=by
 intro value slice pins s σ H x y v u Q I rx ry h hs
 obtain⟨p,xs,i,z,rfl,rfl,hq,he,q⟩:=h
 cases rx
 obtain⟨t,rfl⟩:=ry
 obtain⟨its,r,pl,hz⟩:=I.tuple hq
 obtain⟨j,h1,h2,h3,h4,h5⟩:=Xo he
 obtain⟨w,ew,rw'⟩:=r.get h2
 have hl:=r.length
 have hn:=kO
 have fin:EP X pins σ Q w s:=⟨z,H,I,rw',q⟩
 exact subscriptTail_builtinR (x:=w) pl.typeIs slot_tuple_getitem.lookup
  (getItem_tuple (j:=j) (Q:=λr s'=>r=w/\EP X pins σ Q r s') pl (by lia) (by lia) (by rw [uj,← hl];exact h1) (by simpa using ew) ⟨rfl,fin⟩) hs
theorem zgH:IxR X rIxS:=by
 intro value slice pins s σ H x y v u Q I rx ry h hs
 obtain⟨z,i,c,rfl,rfl,hz,he,q⟩:=h
 obtain⟨t,rfl⟩:=rx
 obtain⟨t',rfl⟩:=ry
 obtain⟨j,h1,h2,h3,h4,h5⟩:=Xo he
 have hl:z.cps.toList.length=z.length:=by simp [Str.length]
 rw [hl] at h1 h4 h5
 have hn:=kO
 exact tail_any (typeIs_str s z t) slot_str_getitem.lookup (getItem_str (c:=c) (by
  have e1:decide (i < -(2 ^ 63:Int))=false:=uq (by lia)
  have e2:decide (i ≥ 2 ^ 63)=false:=uq (by lia)
  rw [e1,e2,Bool.or_false]) (by rw [h1];simpa using h2) ⟨.str ⟨#[c]⟩,H,I.tok _,⟨_,rfl⟩,q⟩) hs
theorem YX (its:Lf)(n j:Nat)(u:Value):Obj.mapSeq (·.setIfInBounds j u) { cls:=.type "list",data:=.seq its.toArray n }={ cls:=.type "list",data:=.seq (its.set j u).toArray n }:=by
 simp [Obj.mapSeq]
theorem Inv.lst {pins:List (Addr×Obj)}{σ:St}{H:Hp}{s:Shared}{p:Addr}{xs:List V}(I:Inv X pins σ H s)(h:H p=some (.lst xs)) :
  ∃ (its:Lf) (n:Nat),Vals xs its/\s.heap.get? p=some { cls:=.type "list",data:=.seq its.toArray n }/\xs.length<=sizeLine:=by
 obtain⟨z,its,n,r,e⟩:=I.hok p _ h
 exact⟨its,n,r,e,z⟩
theorem Inv.lstUpd {pins:List (Addr×Obj)}{σ:St}{H:Hp}{s:Shared}{p:Addr}{xs ys:List V}{its its':Lf}{n n':Nat}{f:Obj->Obj}(I:Inv X pins σ H s)(h:H p=some (.lst xs))
  (ho:s.heap.get? p=some { cls:=.type "list",data:=.seq its.toArray n }) (hf:f { cls:=.type "list",data:=.seq its.toArray n }={ cls:=.type "list",data:=.seq its'.toArray n' }) (r:Vals ys its') (hz:ys.length<=sizeLine) (t:Nat) :
  Inv X pins σ (upd H p (.lst ys)) { s with heap:=s.heap.update p f,toks:=t }:=by
 have e:(s.heap.update p f).get? p=some { cls:=.type "list",data:=.seq its'.toArray n' }:=by
  rw [Heap.get?_update_self f ho (by rw [hf]<;>rfl),hf]
 refine I.write (x:=p) (e:=p) (by rw [h];trivial) (.inl rfl) (λb u hb q=>(Heap.get?_update_other _ _ (Ne.symm hb)).trans q) ⟨_,e⟩ ?_
 exact⟨hz,its',n',r,e⟩
noncomputable def zfz:V->V->V->Hp->(Hp->Prop)->Prop:=λo i v H Q=>∃ p xs k j,o=.ref p/\i=.int k/\H p=some (.lst xs)/\ixN xs.length k=some j/\Q (upd H p (.lst (xs.set j v)))
theorem set_list:PSet X zfz:=by
 intro pins s σ H o i v ov iv u Q I ro ri rv h
 obtain⟨p,xs,k,j,rfl,rfl,hp,hj,q⟩:=h
 cases ro
 obtain⟨t,rfl⟩:=ri
 obtain⟨its,n,r,ho,hz⟩:=I.lst hp
 obtain⟨h1,h2,h3,h4⟩:=Xn hj
 have hl:=r.length
 have hn:=kO
 have I':Inv X pins σ (upd H p (.lst (xs.set j v))) { s with heap:=s.heap.update p (Obj.mapSeq (·.setIfInBounds j u)) }:=
  I.lstUpd hp ho (YX its n j u) (r.set rv j) (by rw [List.length_set];exact hz) s.toks
 by_cases h0:0<=k
 ·have hk:k.toNat=j:=by
   rw [seqIndex_of h0 h4] at h1
   exact uG h1
  exact PySem.W.ki_setAt ho h0 (by lia) (by rw [uj,← hl];exact h4) (by rw [hk];exact⟨_,I',q⟩)
 ·have hk:(k+(its.toArray.size:Int)).toNat=j:=by
   rw [seqIndex_neg (by lia) h3] at h1
   rw [uj,← hl]
   exact uG h1
  exact PySem.W.ki_setBack ho (by lia) (by rw [uj,← hl];exact h3) (by lia) (by rw [hk];exact⟨_,I',q⟩)
theorem Xq (lo hi:Option Int)(n:Nat):(sliceBounds lo hi none n).1=((HT.sIx n 0 lo:Nat):Int)/\(sliceBounds lo hi none n).2.1=((HT.sIx n n hi:Nat):Int)/\(sliceBounds lo hi none n).2.2=1:=by
 refine⟨?_,?_,rfl⟩
 ·cases lo with
  | none=>simp [sliceBounds,HT.sIx]
  | some i=>
   simp only [sliceBounds,HT.sIx,gi,show(1:Int) > 0 by decide,U5]
   by_cases h:i<0
   ·simp only [h,U5]<;>lia
   ·simp only [h,U2]<;>lia
 ·cases hi with
  | none=>simp [sliceBounds,HT.sIx]
  | some i=>
   simp only [sliceBounds,HT.sIx,gi,show(1:Int) > 0 by decide,U5]
   by_cases h:i<0
   ·simp only [h,U5]<;>lia
   ·simp only [h,U2]<;>lia
theorem Wi (its:Lf)(lo hi:Option Int):slicePick its.toArray lo hi none=((its.drop (HT.sIx its.length 0 lo)).take (HT.sIx its.length its.length hi - HT.sIx its.length 0 lo)).toArray:=by
 obtain⟨h1,h2,h3⟩:=Xq lo hi its.toArray.size
 unfold slicePick
 rw [h1,h2,h3]
 simp only [sliceRange_one,pick_run,uj]<;>rfl
noncomputable def rSlL (K:Le):V->Option Int->Option Int->Hp->VK->Prop:=λx lo hi H Q=>∃ a xs,x=.ref a/\SqL K H a xs/\∀ p,H p=none->Q (.ref p) (upd H p (.lst (cutV xs lo hi)))
theorem zeg:SlR X (rSlL X.K):=by
 intro pins s σ H x v vl vu lo hi sl Q I rx hs pl pu h
 obtain⟨a,xs,rfl,hx,q⟩:=h
 cases rx
 obtain⟨its,r,ht,hz⟩:=I.list hx
 have hlen:=r.length
 refine⟨"list",_,slot_list_getitem.lookup,ht.isList.typeIs,?_⟩
 refine wpAny_getItem_list_slice ht.isList hs pl pu .none (by simp) ?_ (by rw [uj]<;>lia)
 rw [Wi,← hlen]
 refine⟨.ref s.heap.objs.size,_,I.laid (t':=s.toks) (o:=.lst (cutV xs lo hi)) (λb ob q=>Heap.get?_push_of_some _ q) (ui _) ?_,rfl,q _ (I.hok.fresh (ui _))⟩
 exact⟨uJ (Qn xs lo hi) hz,_,0,(r.drop (HT.sIx xs.length 0 lo)).take (HT.sIx xs.length xs.length hi - HT.sIx xs.length 0 lo),Heap.get?_push_size _ rfl⟩
noncomputable def zL:V->Bool
 | .non=>true
 | .bl _=>true
 | .int _=>true
 | .str _=>true
 | _=>false
noncomputable def eqV:V->V->Bool
 | .non,.non=>true
 | .bl a,.bl b=>a == b
 | .bl a,.int b=>(if a then 1 else 0) == b
 | .int a,.bl b=>a == (if b then 1 else 0)
 | .int a,.int b=>a == b
 | .str a,.str b=>a == b
 | _,_=>false
theorem zb2 {A:Around}{s:Shared}{y x:V}{u v:Value}(ry:RelV y u)(rx:RelV x v)(fy:zL y=true)(fx:zL x=true):SeqAt.EqAt A s u v (eqV y x):=by
 cases y with
 | non=>
  cases ry
  cases x with
  | non=>cases rx;exact SeqAt.EqAt.same _
  | bl b=>cases rx;exact SeqAt.EqAt.none_bool b
  | int b=>obtain⟨t,rfl⟩:=rx;exact SeqAt.EqAt.none_int b t
  | str b=>obtain⟨t,rfl⟩:=rx;exact SeqAt.EqAt.none_str b t
  | _=>exact absurd (show false=true from fx) uD
 | bl a=>
  cases ry
  cases x with
  | non=>cases rx;exact SeqAt.EqAt.bool_none a
  | bl b=>cases rx;exact SeqAt.EqAt.bool_bool a b
  | int b=>obtain⟨t,rfl⟩:=rx;exact SeqAt.EqAt.bool_int a b t
  | str b=>obtain⟨t,rfl⟩:=rx;exact SeqAt.EqAt.bool_str a b t
  | _=>exact absurd (show false=true from fx) uD
 | int a=>
  obtain⟨t',rfl⟩:=ry
  cases x with
  | non=>cases rx;exact SeqAt.EqAt.int_none a t'
  | bl b=>cases rx;exact SeqAt.EqAt.int_bool a t' b
  | int b=>obtain⟨t,rfl⟩:=rx;exact SeqAt.EqAt.int_int a t' b t
  | str b=>obtain⟨t,rfl⟩:=rx;exact SeqAt.EqAt.int_str a t' b t
  | _=>exact absurd (show false=true from fx) uD
 | str a=>
  obtain⟨t',rfl⟩:=ry
  cases x with
  | non=>cases rx;exact SeqAt.EqAt.str_none a t'
  | bl b=>cases rx;exact SeqAt.EqAt.str_bool a t' b
  | int b=>obtain⟨t,rfl⟩:=rx;exact SeqAt.EqAt.str_int a t' b t
  | str b=>obtain⟨t,rfl⟩:=rx;exact SeqAt.EqAt.str_str a t' b t
  | _=>exact absurd (show false=true from fx) uD
 | _=>exact absurd (show false=true from fy) uD
noncomputable def eqU (x:V)(u:Value):Bool:=match u with
 | .none=>eqV .non x
 | .bool b=>eqV (.bl b) x
 | .int i _=>eqV (.int i) x
 | .str z _=>eqV (.str z) x
 | _=>false
theorem zb3 {x y:V}{u:Value}(r:RelV y u)(f:zL y=true):eqU x u=eqV y x:=by
 cases y with
 | non=>cases r;rfl
 | bl b=>cases r;rfl
 | int i=>obtain⟨t,rfl⟩:=r;rfl
 | str z=>obtain⟨t,rfl⟩:=r;rfl
 | _=>exact absurd (show false=true from f) uD
theorem Zn {x:V}:∀ {xs:List V} {us:Lf},Vals xs us->xs.all zL=true->us.any (eqU x)=xs.any λy=>eqV y x
 | _,_,.nil,_=>rfl
 | y::xs,u::us,.cons r t,f=>by
  rw [Ur,uQ] at f
  rw [Us,Us,zb3 r f.1,Zn t f.2]
theorem yg {A:Around}{s:Shared}{x:V}{v:Value}(rx:RelV x v)(fx:zL x=true):∀ {xs:List V} {us:Lf},Vals xs us->xs.all zL=true->∀ u∈us,SeqAt.EqAt A s u v (eqU x u)
 | _,_,.nil,_=>λu hu=>by cases hu
 | y::xs,u::us,.cons r t,f=>λu' hu=>by
  rw [Ur,uQ] at f
  rcases um.mp hu with rfl | hu
  ·rw [zb3 r f.1];exact zb2 r rx f.1 fx
  ·exact yg rx fx t f.2 u' hu
noncomputable def inV (x:V)(xs:List V):Bool:=xs.any λy=>eqV y x
noncomputable def rIn (K:Le)(neg:Bool):R2:=λx y H Q=>∃ p xs,y=.ref p/\(SqL K H p xs\/SqT K H p xs)/\zL x=true/\xs.all zL=true/\Q (.bl (if neg then !inV x xs else inV x xs)) H
theorem za8:OpR X (compareOp .In) (rIn X.K false):=by
 intro pins s σ H x y v u Q I rx ry h
 obtain⟨p,xs,rfl,hq,fx,fs,q⟩:=h
 cases ry
 rcases hq with hq | hq
 ·obtain⟨its,r,pl,hz⟩:=I.list hq
  refine SeqAt.in_listAt (eqU x) pl.isList (λw hw=>yg rx fx r fs w (by simpa using hw)) ⟨.bl _,H,I,rfl,?_⟩
  rw [show its.toArray.any (eqU x)=its.any (eqU x) by simp,Zn r fs]
  exact q
 ·obtain⟨its,r,pl,hz⟩:=I.tuple hq
  refine SeqAt.in_tupleAt (eqU x) pl (λw hw=>yg rx fx r fs w (by simpa using hw)) ⟨.bl _,H,I,rfl,?_⟩
  rw [show its.toArray.any (eqU x)=its.any (eqU x) by simp,Zn r fs]
  exact q
theorem Xr:OpR X (compareOp .NotIn) (rIn X.K true):=by
 intro pins s σ H x y v u Q I rx ry h
 obtain⟨p,xs,rfl,hq,fx,fs,q⟩:=h
 cases ry
 rcases hq with hq | hq
 ·obtain⟨its,r,pl,hz⟩:=I.list hq
  refine SeqAt.notIn_listAt (eqU x) pl.isList (λw hw=>yg rx fx r fs w (by simpa using hw)) ⟨.bl _,H,I,rfl,?_⟩
  rw [show its.toArray.any (eqU x)=its.any (eqU x) by simp,Zn r fs]
  exact q
 ·obtain⟨its,r,pl,hz⟩:=I.tuple hq
  refine SeqAt.notIn_tupleAt (eqU x) pl (λw hw=>yg rx fx r fs w (by simpa using hw)) ⟨.bl _,H,I,rfl,?_⟩
  rw [show its.toArray.any (eqU x)=its.any (eqU x) by simp,Zn r fs]
  exact q
theorem Xs:jZ X (.builtin "len") (λxs H Q=>∃ p ys,xs=[.ref p]/\(SqL X.K H p ys\/SqT X.K H p ys)/\Q (.int ys.length) H):=by
 intro pins s σ H xs us Q I r h
 obtain⟨p,ys,rfl,hq,q⟩:=h
 obtain⟨u,rfl,rx⟩:=vals1 r
 cases rx
 have hn:=kO
 rcases hq with hq | hq
 ·obtain⟨its,r',pl,hz⟩:=I.list hq
  have hlen:=r'.length
  exact Calls.call_len_list pl.isList (by simp only [uj]<;>lia) ⟨.int ys.length,H,I.tok _,⟨s.toks+1,by rw [uj,hlen]⟩,q⟩
 ·obtain⟨its,r',pl,hz⟩:=I.tuple hq
  have hlen:=r'.length
  exact len_tuple pl (by simp only [uj]<;>lia) ⟨.int ys.length,H,I.tok _,⟨s.toks+1,by rw [uj,hlen]⟩,q⟩
theorem Xu:jZ X (.builtin "len") (λxs H Q=>∃ z,xs=[.str z]/\z.length<=sizeLine/\Q (.int z.length) H):=by
 intro pins s σ H xs us Q I r h
 obtain⟨z,rfl,hz,q⟩:=h
 obtain⟨u,rfl,t,rfl⟩:=vals1 r
 have hn:=kO
 exact len_str (by lia) ⟨.int z.length,H,I.tok _,⟨_,rfl⟩,q⟩
theorem kD:jZ X (.type "tuple") (λxs H Q=>∃ p ys,xs=[.ref p]/\((SqL X.K H p ys/\∀ l,H l=none->Q (.ref l) (upd H l (.tup ys)))\/(SqT X.K H p ys/\Q (.ref p) H))):=by
 intro pins s σ H xs us Q I r h
 obtain⟨p,ys,rfl,h⟩:=h
 obtain⟨u,rfl,rx⟩:=vals1 r
 cases rx
 rcases h with⟨hq,q⟩ | ⟨hq,q⟩
 ·obtain⟨its,r',pl,hz⟩:=I.list hq
  have hlen:=r'.length
  refine call_tuple_list pl.isList (λh' kp=>?_) (by simp only [uj]<;>lia)
  have I1:Inv X pins σ H { s with heap:=h' }:=I.kept (t':=s.toks) kp
  have I2:Inv X pins σ (upd H h'.objs.size (.tup ys)) { s with heap:=h'.push { cls:=.type "tuple",data:=.seq its.toArray } }:=
   I1.laid (t':=s.toks) (λb o e=>Heap.get?_push_of_some _ e) (ui _) (show zZ X.prog X.w _ _ _ (.tup ys) from⟨hz,its,r',IsTup.new _ _⟩)
  exact⟨.ref h'.objs.size,_,I2,rfl,q _ (I1.hok.fresh (ui _))⟩
 ·obtain⟨its,r',pl,hz⟩:=I.tuple hq
  exact call_tuple_same pl ⟨.ref p,H,I,rfl,q⟩
def tyV (K:Le)(T:String)(x:V)(H:Hp):Prop:=match x with
 | .str _=>T="str"
 | .int _=>T="int"
 | .ref p=>(T="list"/\∃ xs,SqL K H p xs)\/(T="tuple"/\∃ o,K.lookup p=some o/\o.cls=.type "tuple"/\o.dict=none) \/
   (T="dict"/\((∃ kvs,H p=some (.dK kvs))\/∃ kvs,H p=some (.dT kvs)))\/(T="set"/\∃ S n,H p=some (.set S n))
 | _=>False
theorem zb4 {pins:List (Addr×Obj)}{σ:St}{H:Hp}{s:Shared}{T:String}{x:V}{v:Value}(I:Inv X pins σ H s)(r:RelV x v)(ty:tyV X.K T x H) :
  s.TypeIs v T/\∀ a,v=.ref a->∃ ob,s.heap.get? a=some ob/\ob.dict=none:=by
 cases x with
 | str z=>
  obtain⟨t,rfl⟩:=r
  cases (show T="str" from ty)
  exact⟨typeIs_str s z t,λ_ e=>nomatch e⟩
 | int i=>
  obtain⟨t,rfl⟩:=r
  cases (show T="int" from ty)
  exact⟨typeIs_int s i t,λ_ e=>nomatch e⟩
 | ref p=>
  cases r
  rcases ty with⟨rfl,xs,hq⟩ | ⟨rfl,o,hk,hc,hd⟩ | ⟨rfl,hk⟩ | ⟨rfl,S,n,hk⟩
  ·obtain⟨its,_,pl,_⟩:=I.list hq
   refine⟨pl.isList.typeIs,λa e=>?_⟩
   cases e
   obtain⟨o,n,e,c,hd,_⟩:=pl
   exact⟨o,e,hd⟩
  ·refine⟨⟨o,I.kIn p o hk,hc⟩,λa e=>?_⟩
   cases e
   exact⟨o,I.kIn _ o hk,hd⟩
  ·have z:∃ o,s.heap.get? p=some o/\o.ExactDict:=by
    rcases hk with⟨kvs,hk⟩ | ⟨kvs,hk⟩
    ·obtain⟨_,_,_,_,o,_,_,e,ex,_⟩:=I.hok p _ hk
     exact⟨o,e,ex⟩
    ·obtain⟨_,_,_,_,o,_,_,e,ex,_⟩:=I.hok p _ hk
     exact⟨o,e,ex⟩
   obtain⟨o,e,ex⟩:=z
   refine⟨⟨o,e,ex.1⟩,λa e2=>?_⟩
   cases e2
   exact⟨o,e,ex.2.1⟩
  ·obtain⟨o,_,_,_,e,ex,_⟩:=I.hok p _ hk
   refine⟨⟨o,e,ex.1⟩,λa e2=>?_⟩
   cases e2
   exact⟨o,e,ex.2.1⟩
 | _=>exact False.elim ty
noncomputable def tBM0 (K:Le)(T:String)(r:V->List V->Hp->VK->Prop)(to:TE):TE:=λσ H Q=>to σ H λx H1=>tyV K T x H1/\r x [] H1 Q
noncomputable def tBM (K:Le)(T:String)(r:V->List V->Hp->VK->Prop)(to:TE)(t:TA):TE:=λσ H Q=>to σ H λx H1=>tyV K T x H1/\t σ H1 λxs H2=>r x xs H2 Q
variable {o e:Expr} {es:Lg} {to:TE} {t:TA} {name:Str} {apos cpos:Pos} {T id:String} {r:V->List V->Hp->VK->Prop}
theorem zgI (pa:PlainAttrs T)(slot:Slot T name id)(hty:typeOf (.builtin id)=pure (.type "method_descriptor"))(hm:MtR X id r)(ho:PE X o to)
  (hbase:attributeBase o name X.env (eval o X.env)=eval o X.env:=by rfl) (hline:(apos.endLine == cpos.line)=true:=by rfl):PE X (.Call (.Attribute o name apos) [] [] cpos) (tBM0 X.K T r to):=by
 intro pins s σ H Q I h
 refine wpAny_Call_method0_late hbase hline (thn (ho pins s σ H _ I h) λv s1 ⟨x,H1,I1,r1,ty,q1⟩=>?_)
 obtain⟨h1,h2⟩:=zb4 I1 r1 ty
 exact⟨T,id,pa,slot,hty,h1,h2,Calls.callWith_builtin rfl (PySem.evalArgs_none (hm pins s1 σ H1 x [] v [] Q I1 r1 .nil q1))⟩
theorem ziJ (pa:PlainAttrs T)(slot:Slot T name id)(hty:typeOf (.builtin id)=pure (.type "method_descriptor"))(hm:MtR X id r)(ho:PE X o to)(ha:PA X (e::es) t)
  (hbase:attributeBase o name X.env (eval o X.env)=eval o X.env:=by rfl)
  (hfew:((backTo cpos (starEach (e::es) X.env)).all (λx=>!x.1)&&(backToKw cpos (keywordEach [] X.env)).all (λx=>x.1.isSome)
   && decide ((e::es).length+([]:List Keyword).length+(if ([]:List Keyword).isEmpty then 0 else 1)<30))=true:=by rfl)
  (hline:(apos.endLine == cpos.line)=true:=by rfl) (hs:starEach (e::es) X.env=(false,eval e X.env)::starEach es X.env:=by rfl) (hplain:(backTo cpos (starEach es X.env)).any (·.1)=false:=by rfl) :
  PE X (.Call (.Attribute o name apos) (e::es) [] cpos) (tBM X.K T r to t):=by
 intro pins s σ H Q I h
 refine wpAny_Call_method_late hbase hfew hline rfl (thn (ho pins s σ H _ I h) λv s1 ⟨x,H1,I1,r1,ty,q1⟩=>?_)
 obtain⟨h1,h2⟩:=zb4 I1 r1 ty
 refine⟨T,id,pa,slot,hty,h1,h2,?_⟩
 have hA:=ha cpos pins s1 σ H1 _ I1 q1
 rw [hs] at hA ⊢
 refine Calls.callWith_builtin (by show(false||(backTo cpos (starEach es X.env)).any (·.1))=false;rw [hplain]<;>rfl) (Calls.evalArgs_plain ?_)
 exact thn hA λus s2 ⟨vs,H2,I2,r2,q2⟩=>hm pins s2 σ H2 x vs v us Q I2 r1 r2 q2
end
def MtM (X:Cx)(id:String)(r:V->List V->Hp->VK->Prop):Prop:=
 ∀ (pins:List (Addr×Obj)) (s:Shared) (σ:St) (H:Hp) (x:V) (xs:List V) (v:Value) (us:Lf) (Q:VK),Inv X pins σ H s->RelV x v->Vals xs us->r x xs H Q ->
  wpAny (model X.prog X.w) X.A (call (.builtin id) (v::us)) (EP X pins σ Q) X.xe s
theorem Vals.one:∀ {x:V} {us:Lf},Vals [x] us->∃ u,us=[u]/\RelV x u
 | _,_,.cons r .nil=>⟨_,rfl,r⟩
theorem Vals.zero:∀ {us:Lf},Vals [] us->us=[]
 | _,.nil=>rfl
theorem Vals.dropLast {xs:List V}{us:Lf}(h:Vals xs us):Vals xs.dropLast us.dropLast:=by
 induction h with
 | nil=>exact .nil
 | cons r t ih=>
  cases t with
  | nil=>exact .nil
  | cons q t'=>exact .cons r ih
theorem Vals.eraseIdx:∀ {xs:List V} {us:Lf} (i:Nat),Vals xs us->Vals (xs.eraseIdx i) (us.eraseIdx i)
 | _,_,_,.nil=>.nil
 | _,_,0,.cons _ t=>t
 | _,_,i+1,.cons r t=>.cons r (Vals.eraseIdx i t)
theorem YY {α:Type}(l:List α):l.eraseIdx (l.length - 1)=l.dropLast:=by
 induction l with
 | nil=>rfl
 | cons a r ih=>
  cases r with
  | nil=>rfl
  | cons b r=>
   have e:(a::b::r).length - 1=((b::r).length - 1)+1:=by
    have h1:(a::b::r).length=r.length+2:=rfl
    have h2:(b::r).length=r.length+1:=rfl
    lia
   rw [e,List.eraseIdx_cons_succ,ih]
   all_goals rfl
theorem WL {α:Type}:∀ (l:List α) (i:Nat),(l.eraseIdx i).length<=l.length
 | [],_=>ui _
 | _::_,0=>UT _
 | _::r,i+1=>Nat.succ_le_succ (WL r i)
section
variable {X:Cx} {pins:List (Addr×Obj)} {σ:St} {H:Hp} {s:Shared} {l b:Addr} {xs ys zs:List V}
theorem Inv.lset {its its':Lf}{n:Nat}{f:Array Value->Array Value}{t':Nat}(I:Inv X pins σ H s)(hH:H l=some (.lst xs))
  (e:s.heap.get? l=some { cls:=.type "list",data:=.seq its.toArray n }) (hf:f its.toArray=its'.toArray) (hv:Vals ys its') (hz:ys.length<=sizeLine) :
  Inv X pins σ (upd H l (.lst ys)) { s with heap:=s.heap.update l (Obj.mapSeq f),toks:=t' }:=by
 have q:=PySem.IsL.update e f
 rw [hf] at q
 refine I.write (x:=l) (e:=l) (by rw [hH];exact trivial) (.inl rfl) (λb' u hb hu=>(Heap.get?_update_other s.heap (Obj.mapSeq f) (Ne.symm hb)).trans hu) ⟨_,q⟩ ?_
 exact⟨hz,its',_,hv,q⟩
theorem Inv.lnew {its:Lf}{t':Nat}(I:Inv X pins σ H s)(hv:Vals ys its)(hz:ys.length<=sizeLine) :
  Inv X pins σ (upd H s.heap.objs.size (.lst ys)) { s with heap:=s.heap.push { cls:=.type "list",data:=.seq its.toArray },toks:=t' }:=
 I.laid (λ_ _ q=>Heap.get?_push_of_some _ q) (ui _) ⟨hz,its,0,hv,Heap.get?_push_size _ rfl⟩
theorem Inv.fresh (I:Inv X pins σ H s):H s.heap.objs.size=none:=I.hok.fresh (ui _)
theorem Inv.lstM (I:Inv X pins σ H s)(hH:H l=some (.lst xs)):xs.length<=sizeLine/\∃ (its:Lf) (n:Nat),Vals xs its/\xs.length=its.length/\s.heap.get? l=some { cls:=.type "list",data:=.seq its.toArray n }:=by
 obtain⟨z,its,n,r,e⟩:=I.hok l _ hH
 exact⟨z,its,n,r,r.length,e⟩
theorem zb5 {n:Nat}(h:n<=sizeLine):Builtin.List.listTooLong n=false:=by
 unfold Builtin.List.listTooLong
 exact uq (by lia)
end
section
variable {X:Cx}
noncomputable def K1:V->List V->Hp->VK->Prop:=λx vs H Q=>∃ l xs y,x=.ref l/\vs=[y]/\H l=some (.lst xs)/\xs.length<sizeLine/\Q .non (upd H l (.lst (xs++[y])))
theorem WM:MtM X "list.append" K1:=by
 intro pins s σ H x vs v us Q I rx rv h
 obtain⟨l,xs,y,rfl,rfl,hH,hz,q⟩:=h
 cases rx
 obtain⟨u,rfl,ru⟩:=rv.one
 obtain⟨z,its,n,r,hl,e⟩:=I.lstM hH
 refine call_meets F.slot_list_append ⟨_,e,rfl⟩ F.entry_list_append (F.args_list_append_2 _ _) (PySem.list_append l its.toArray n u (by rw [uj];lia)) ⟨e,?_⟩
 refine⟨.non,_,I.lset (its':=its++[u]) hH e (by simp) (r.append (.cons ru .nil)) ?_,rfl,q⟩
 rw [ua,UP]
 lia
noncomputable def K2:V->List V->Hp->VK->Prop:=λx vs H Q=>∃ l b xs zs,x=.ref l/\vs=[.ref b]/\H l=some (.lst xs)/\H b=some (.lst zs)/\xs.length+zs.length<=sizeLine/\Q .non (upd H l (.lst (xs++zs)))
theorem za9:MtM X "list.extend" K2:=by
 intro pins s σ H x vs v us Q I rx rv h
 obtain⟨l,b,xs,zs,rfl,rfl,hH,hB,hz,q⟩:=h
 cases rx
 obtain⟨u,rfl,ru⟩:=rv.one
 cases ru
 obtain⟨z,its,n,r,hl,e⟩:=I.lstM hH
 obtain⟨z2,its2,n2,r2,hl2,e2⟩:=I.lstM hB
 have hsz:its.toArray.size+its2.toArray.size<=sizeLine:=by rw [uj,uj];lia
 have hlong:¬ (!its.toArray.isEmpty&&Builtin.List.listTooLong (its.toArray.size+its2.toArray.size))=true:=by
  rw [zb5 hsz,gC]
  exact uD
 refine call_meets F.slot_list_extend ⟨_,e,rfl⟩ F.entry_list_extend (F.args_list_extend_2 _ _)
  (AutoSeq1.list_extend_list_list_0 l its.toArray n b its2.toArray n2 hlong (by rw [uj];lia) (by lia)) ⟨e,e2,?_⟩
 refine⟨.non,_,I.lset (its':=its++its2) hH e (by simp) (r.append r2) ?_,rfl,q⟩
 rw [ua]
 lia
noncomputable def rPop:V->List V->Hp->VK->Prop:=λx vs H Q=>∃ l xs y,x=.ref l/\vs=[]/\H l=some (.lst xs)/\xs[xs.length - 1]? = some y/\Q y (upd H l (.lst xs.dropLast))
theorem zgJ:MtM X "list.pop" rPop:=by
 intro pins s σ H x vs v us Q I rx rv h
 obtain⟨l,xs,y,rfl,rfl,hH,hy,q⟩:=h
 cases rx
 have hus:=rv.zero
 subst hus
 obtain⟨z,its,n,r,hl,e⟩:=I.lstM hH
 obtain⟨u,hu,ru⟩:=r.get hy
 have hy':its.toArray[its.toArray.size - 1]? = some u:=by
  show its.toArray[its.length - 1]? = some u
  rw [← Array.getElem?_toList,← hl]
  exact hu
 refine call_meets F.slot_list_pop ⟨_,e,rfl⟩ F.entry_list_pop (F.args_list_pop_1 _) (MeetsSeq.list_pop_last l its.toArray n u hy' (by rw [uj];lia)) ⟨e,?_⟩
 refine⟨y,_,I.lset (its':=its.dropLast) hH e ?_ r.dropLast ?_,ru,q⟩
 ·show its.toArray.eraseIdxIfInBounds (its.toArray.size - 1)=its.dropLast.toArray
  rw [uj,gS,YY]
 ·rw [List.length_dropLast]
  lia
noncomputable def zb6:V->List V->Hp->VK->Prop:=λx vs H Q=>∃ l xs i k y,x=.ref l/\vs=[.int i]/\H l=some (.lst xs)/\-(2 ^ 63)<=i/\i<2 ^ 63/\seqIndex? i xs.length=some k/\xs[k]? = some y/\Q y (upd H l (.lst (xs.eraseIdx k)))
theorem zb7:MtM X "list.pop" zb6:=by
 intro pins s σ H x vs v us Q I rx rv h
 obtain⟨l,xs,i,k,y,rfl,rfl,hH,h1,h2,hk,hy,q⟩:=h
 cases rx
 obtain⟨u,rfl,ru⟩:=rv.one
 obtain⟨t,rfl⟩:=ru
 obtain⟨z,its,n,r,hl,e⟩:=I.lstM hH
 obtain⟨w,hw,rw'⟩:=r.get hy
 refine call_meets F.slot_list_pop ⟨_,e,rfl⟩ F.entry_list_pop (F.args_list_pop_2 _ _)
  (MeetsSeq.list_pop_at l its.toArray n i t k w (fitsIndex_both h1 h2) (by rw [uj,← hl];exact hk) (by rw [← Array.getElem?_toList];exact hw) (by rw [uj];lia)) ⟨e,?_⟩
 refine⟨y,_,I.lset (its':=its.eraseIdx k) hH e ?_ (r.eraseIdx k) ?_,rw',q⟩
 ·show its.toArray.eraseIdxIfInBounds k=(its.eraseIdx k).toArray
  rw [gS]
 ·have:=WL xs k
  lia
noncomputable def rCat:R2:=λx y H Q=>∃ l b xs zs,x=.ref l/\y=.ref b/\H l=some (.lst xs)/\H b=some (.lst zs)/\xs.length+zs.length<=sizeLine/\∀ p,H p=none->Q (.ref p) (upd H p (.lst (xs++zs)))
theorem zgK:OpR X (binaryOp .Add) rCat:=by
 intro pins s σ H x y v u Q I rx ry h
 obtain⟨l,b,xs,zs,rfl,rfl,hH,hB,hz,q⟩:=h
 cases rx
 cases ry
 obtain⟨z,its,n,r,hl,e⟩:=I.lstM hH
 obtain⟨z2,its2,n2,r2,hl2,e2⟩:=I.lstM hB
 refine PySem.P.add_list e e2 ?_ (by rw [uj,uj];lia)
 have ea:its.toArray++its2.toArray=(its++its2).toArray:=by simp
 rw [ea]
 exact⟨.ref _,_,I.lnew (t':=s.toks) (r.append r2) (by rw [ua];lia),rfl,q _ I.fresh⟩
end
section
variable {prog:Program} {w:World} {A:Around} {E:Value->Shared->Prop} {s:Shared}
set_option maxRecDepth 100000 in
end
section
variable {X:Cx}
end
end L2
namespace Att
open PySem PySem.W PySem.Calls PyProof.Rows
theorem QC {P:Params}{h:Heap}:∀ (ns:List Int) (vs:Lf),WellAll P h vs (ns.map WData.int)->IntsAre vs ns:=by
 intro ns
 induction ns with
 | nil=>
  intro vs w
  rw [Uw] at w
  cases w
  exact .nil
 | cons n ns ih=>
  intro vs w
  rw [uo] at w
  cases w with
  | cons a b=>
   cases a
   exact .cons _ _ (ih _ b)
theorem zba {l:OpenLaw}{n:Nat}(hn:l.most=some n){P:Params}{h:Heap}{args:List WData}{vals:Lf}
  (hpre:l.row.toRowW.claim.pre args=true) (hwl:WellAll P h vals args) :
  ∃ a vs ns,vals=[Value.ref a]/\args=[WData.list (ns.map WData.int)]/\h.get? a=some { cls:=.type "list",data:=.seq vs.toArray }/\IntsAre vs ns/\ns.length<=n:=by
 have hsh:WShape.hasAll [] args [.list .int]=true:=(pre_splitW hpre).1
 have hc:l.pre.holds [] { args:=args }=true:=(pre_splitW hpre).2
 obtain⟨d,r,rfl,h1,h2⟩:=hasAllW_cons hsh
 obtain rfl:=hasAllW_nil h2
 obtain⟨xs,rfl,h3⟩:=hasW_list h1
 obtain⟨ns,rfl⟩:=items_int h3
 have hlen:ns.length<=n:=by
  unfold OpenLaw.pre at hc
  have h4:(WTm.not (.lt (.lit (.int (n:Int))) (.len (.arg 0)))).holds [] { args:=[.list (ns.map .int)] }=true:=by
   have h4:=(holds_andW hc).1
   rw [hn] at h4
   exact h4
  have h5:=condW_of h4 (w_not (w_lt w_lit (w_len_list (w_arg rfl))))
  rw [ue] at h5
  refine Nat.le_of_not_lt λq=>?_
  have q':(n:Int)<((ns.length:Nat):Int):=by lia
  first
   | (rw [uS q'] at h5;exact absurd h5 (by decide))
   | (simp at h5;omega)
 cases hwl with
 | cons w1 w2=>
  cases w2
  cases w1 with
  | list ho hall=>exact⟨_,_,ns,rfl,rfl,ho,QC ns _ hall,hlen⟩
theorem zbb (l:OpenLaw)(args:List WData):l.row.toRowW.claim.post args (.bool true) args=true:=
 postW_of (r:=l.row.toRowW) (X:=(true == true))
  (show WShape.has [] (.bool true) .bool=true by first | rfl | decide | simp [WShape.has,WShape.arms,WShape.armsAll])
  (show(WTm.eq .res (.lit (.bool true))).value [] { args:=args,res:=some (.bool true),after:=args }=some (.bool (true == true)) from w_eq_bool (w_res rfl) w_lit) rfl
theorem attach_call {l:OpenLaw}{n:Nat}{q:Program}{loose:Lh}{XP:(La)->Heap->Prop}{YP:World->Heap->Prop}{d:DefRec}
  (hn:l.most=some n) (hdf:d.params.defaults=[])
  (call:∀ (w:World) (s₀ s₁:Shared) (mg mb:La) (fa:Addr) (o:Obj) (pm cd doc:Value) (a:Addr) (vs:Lf) (ns:List Int),
   Ground q loose [] XP w s₀ mg mb s₁.heap->YP w s₁.heap ->
   s₁.heap.get? fa=some o->o.data=.func (docDef d.name d.params d.body d.scope pm cd doc)->s₁.heap.CodeRec cd d.name->mg d.name=some (.ref fa) ->
   s₁.heap.get? a=some { cls:=.type "list",data:=.seq vs.toArray }->IntsAre vs ns->ns.length<=n->s₁.gens = #[] ->
   codeAny (model l.prog w) callerA (.call (.ref fa) ⟨[.ref a],[]⟩) (λr s'=>r=.ok (.ret (.bool true))/\OldK s₁.heap s'.heap/\s'.os=s₁.os/\AllBare s'.gens) s₁) :
  WalkO q loose XP YP l.row.toRowW d [] (λf vs=>PySem.call f vs):=by
 intro w s₀ s₁ mg mb G Y fa o pm cd doc dV kV ho hd hcd hD hmg hg args vals as hpre hlay hrd hwl hlo
 obtain rfl:dV=.none:=Dflts.none hD hdf
 obtain rfl:kV=.none:=Dflts.noKw hD
 obtain⟨a,vs,ns,rfl,rfl,hobj,hints,hlen⟩:=zba hn hpre hwl
 refine enter_call (codeAny_mono (call w s₀ s₁ mg mb fa o pm cd doc a vs ns G Y ho (fd_plain hd) hcd hmg hobj hints hlen hg) λr s' hq=>?_)
 obtain⟨rfl,h2,h3,h4⟩:=hq
 exact⟨.inl ⟨.bool true,.bool true,[],rfl,λ_=>rfl,.bool true,zbb l _,λ_=>⟨List.Pairwise.nil,λ_ hm=>(nomatch hm)⟩⟩,h2,h3,h4⟩
section
variable {prog:Program} {w:World} {A:Around} {E:Value->Shared->Prop} {s:Shared} {K:Frag}
end
end Att
namespace L2
open PySem PySem.Spec PyProof.Rows
theorem WN:∀ {vs:Lf} {ns:List Int},IntsAre vs ns->Vals (ns.map V.int) vs
 | _,_,.nil=>.nil
 | _,_,.cons n t h=>.cons ⟨t,rfl⟩ (WN h)
def Only (H:Hp):Prop:=∀ b,H b=none\/∃ o xs,H b=some (.frz o (.lst xs))
theorem zb8 {P:Program}{w:World}{K:Le}{mg mb:La}{CX:CXT}{k:Nat}{fa a:Addr}{fd:FuncData}{x:Str}{sp:Sp}{s₁:Shared}{vs:Lf}{ns:List Int}
  (KX:K.In s₁.heap) (hns:s₁.heap.Ns mainGlobals mg) (hb:s₁.heap.Ns builtinsNs mb) (hbb:∀ x:Str,x≠"__name__"->mb x=bootBuiltins x) (hlim:s₁.heap.NoLimit) (hg:s₁.gens = #[])
  (ha:s₁.heap.get? a=some { cls:=.type "list",data:=.seq vs.toArray }) (hi:IntsAre vs ns) (hl:ns.length<=sizeLine) (hr:Room k callerA)
  (F:∀ base:Heap,K.In base->base.Ns mainGlobals mg->FnOk P w K mg base CX k fa fd [x] sp) (hbind:∀ (s:Shared) (u:Value),BindsTo s fd ⟨[u],[]⟩ [(x,u)])
  (hsp:∀ H:Hp,Only H->SqL K H a (ns.map V.int)->sp [.ref a] H (λv _=>v=.bl true) λ_ _ _=>False)
  (hCX:∀ H e s',CX [] H s₁ (λ_ _ _=>False) e s'->False) :
  codeAny (model P w) callerA (.call (.ref fa) ⟨[.ref a],[]⟩) (λr s'=>r=.ok (.ret (.bool true))/\OldK s₁.heap s'.heap/\s'.os=s₁.os/\AllBare s'.gens) s₁:=by
 have rv:=WN hi
 have lenV:=hi.length
 have core:∀ H:Hp,Only H->SqL K H a (ns.map V.int)->HOk P w H s₁.heap->(∀ b,H b≠none->b=a)->(H a≠none->K.lookup a=none) ->
   codeAny (model P w) callerA (.call (.ref fa) ⟨[.ref a],[]⟩) (λr s'=>r=.ok (.ret (.bool true))/\OldK s₁.heap s'.heap/\s'.os=s₁.os/\AllBare s'.gens) s₁:=by
  intro H hO hS hok hA hK
  have base_of:∀ {b:Addr} {o:Obj},s₁.heap.get? b=some o->H b=none->(hidT s₁.heap H).get? b=some o:=λe n=>zbN e n
  have noA:∀ {b:Addr} {o:Obj} {es:Array DictEntry} {ep:Nat},s₁.heap.get? b=some o->o.data=.dict es ep->H b=none:=λ{b o es ep} e d=>by
   cases q:H b with
   | none=>rfl
   | some u=>
    have e':b=a:=hA b (by rw [q];simp)
    subst e'
    rw [ha] at e;cases e
    have d':Data.seq vs.toArray _=Data.dict es ep:=d
    cases d'
  have nsK:∀ {b:Addr} {m:La},s₁.heap.Ns b m->(hidT s₁.heap H).Ns b m:=λ{b m} ⟨o,es,ep,e,d,r⟩=>⟨o,es,ep,base_of e (noA e d),d,r⟩
  have hKb:K.In (hidT s₁.heap H):=λb o e=>base_of (KX b o e) (by
   cases q:H b with
   | none=>rfl
   | some u=>
    have e':b=a:=hA b (by rw [q];simp)
    subst e'
    rw [hK (by rw [q];simp)] at e;cases e)
  have hM:Mod K mg (hidT s₁.heap H):=⟨hKb,nsK hns,⟨mb,nsK hb,hbb⟩,let ⟨mc,h1,h2⟩:=hlim;⟨mc,nsK h1,h2⟩⟩
  have e0:Env0 P w K mg (hidT s₁.heap H) callerA [] s₁ H:=⟨rfl,hM,λb o e=>zd1 e,Up (zaX _ _),trivial,λb hb=>absurd (show b∈([]:Ld) from hb) (by simp),hok,.of_eq hg⟩
  refine codeAny_mono ((F _ hKb (nsK hns)).run callerA [] s₁ H ⟨[.ref a],[]⟩ [.ref a] [.ref a] _ _ hr e0 (hbind s₁ (.ref a)) (.cons rfl .nil) (hsp H hO hS)) λr s' h=>?_
  cases r with
  | error e=>exact(hCX H e s' h).elim
  | ok fl=>
   cases fl with
   | next=>exact False.elim h
   | brk=>exact False.elim h
   | cont=>exact False.elim h
   | ret u=>
    obtain⟨v,H',os,bare,un,hok',r',q⟩:=h
    have q':v=.bl true:=q
    subst q'
    obtain rfl:u=Value.bool true:=r'
    refine⟨rfl,OldK.of_keep λb o e=>?_,os,bare⟩
    cases q:H b with
    | none=>exact un.keep b o e q (by intro z;exact absurd (show b∈([]:Ld) from z) (by simp)) (by simp)
    | some u=>
     rcases hO b with z | ⟨ob,xs,z⟩
     ·rw [q] at z;cases z
     ·have z2:=un.frzs b ob _ z
      obtain⟨e1,_⟩:=hok b _ z
      obtain⟨e2,_⟩:=hok' b _ z2
      rw [e] at e1;cases e1
      exact e2
 cases hk:K.lookup a with
 | some o=>
  have e:=KX a o hk
  rw [ha] at e
  cases e
  refine core (λ_=>none) (λ_=>.inl rfl) (.inr ⟨_,vs.toArray,_,hk,rfl,rfl,rfl,by rw [uj,lenV];exact hl,by simpa using rv⟩) (λb u z=>by have z':(none:Option HO)=some u:=z;cases z') (λb z=>absurd rfl z) λz=>absurd rfl z
 | none=>
  refine core (λb=>if b=a then some (.frz { cls:=.type "list",data:=.seq vs.toArray } (.lst (ns.map V.int))) else none) (λb=>?_) (.inl (.inr ⟨{ cls:=.type "list",data:=.seq vs.toArray },uw rfl⟩)) (λb u z=>?_) (λb z=>?_) λ_=>hk
  ·by_cases hb:b=a
   ·exact .inr ⟨_,_,uw hb⟩
   ·exact .inl (uv hb)
  ·by_cases hb:b=a
   ·have z':=(uw hb).symm.trans z
    cases z'
    subst hb
    exact⟨ha,by rw [ue];exact hl,vs,_,rv,ha⟩
   ·have z':=(uv hb).symm.trans z
    cases z'
  ·by_cases hb:b=a
   ·exact hb
   ·exact absurd (uv hb) z
theorem zeh {l:PySem.W.OpenLaw}{n k:Nat}{q:Program}{loose:Lh}{XP:(La)->Heap->Prop}{YP:World->Heap->Prop}{d:DefRec}{K:Params->Le}{CX:World->CXT}{sp:World->Sp}{x:Str}
  (hn:l.most=some n) (hn2:n<=sizeLine) (hdf:d.params.defaults=[]) (hr:Room k callerA)
  (hY:∀ (w:World) (h:Heap),YP w h->(K w.params).In h)
  (F:∀ (w:World) (mg:La) (fa:Addr) (h:Heap),(K w.params).In h->h.Ns mainGlobals mg->mg d.name=some (.ref fa) ->
   ∃ fd:FuncData,(∀ (s:Shared) (u:Value),BindsTo s fd ⟨[u],[]⟩ [(x,u)]) /\
    ∀ base:Heap,(K w.params).In base->base.Ns mainGlobals mg->FnOk l.prog w (K w.params) mg base (CX w) k fa fd [x] (sp w))
  (hsp:∀ (w:World) (H:Hp) (a:Addr) (ns:List Int),ns.length<=n->Only H->SqL (K w.params) H a (ns.map V.int)->sp w [.ref a] H (λv _=>v=.bl true) λ_ _ _=>False)
  (hCX:∀ (w:World) (H:Hp) (s:Shared) (e:Value) (s':Shared),CX w [] H s (λ_ _ _=>False) e s'->False) :
  PySem.W.WalkO q loose XP YP l.row.toRowW d [] (λf vs=>PySem.call f vs):=by
 refine Att.attach_call hn hdf λw s₀ s₁ mg mb fa o pm cd doc a vs ns G Y ho hd hcd hmg hobj hints hlen hg=>?_
 have KX:=hY w _ Y
 obtain⟨fd,hb,hF⟩:=F w mg fa _ KX G.T.g hmg
 exact zb8 KX G.T.g G.T.b G.T.builtins G.T.nolimit hg hobj hints (uJ hlen hn2) hr hF hb (λH hO hS=>hsp w H a ns hlen hO hS) λH e s'=>hCX w H s₁ e s'
noncomputable def jq (s:Stmt):Arguments:=match s with
 | .FunctionDef _ a _ _ _ _ _ _ _ _=>a
 | _=>{ posonlyargs:=[],args:=[],vararg:=none,kwonlyargs:=[],kw_defaults:=[],kwarg:=none,defaults:=[] }
noncomputable def ze (s:Stmt):List Stmt:=match s with
 | .FunctionDef _ _ b _ _ _ _ _ _ _=>b
 | _=>[]
noncomputable def zc (s:Stmt):Scope:=match s with
 | .FunctionDef _ _ _ _ _ _ sc _ _ _=>sc
 | _=>{ kind:=.function,names:=[],isGenerator:=false,isCoroutine:=false }
noncomputable abbrev CX0:CXT:=λ_ _ _ _ _ _=>False
structure Fun (K:Le)(x qual:Str)(st:Stmt)(f:Addr)(fd:FuncData):Prop where
 ex:∃ (oc:Value) (od:Option Addr) (kV doc pm:Value) (an:Option Addr) (cdv ct:Value) (osl:Array (Option Value)),
  fd=PySem.W.fnOf x qual (jq st) (ze st) (zc st) .none kV doc pm an cdv ct/\K.lookup f=some ⟨oc,od,.func fd,osl⟩/\PySem.W.codeIn K cdv qual=true
 kp:PySem.W.keepIn K (.ref f)=true
section
variable {P:Program} {w:World} {K:Le} {mg:La} {base:Heap}
theorem Fun.ok {x qual:Str}{st:Stmt}{f:Addr}{fd:FuncData}{N ps:Lh}{k:Nat}{sp:Sp}(F:Fun K x qual st f fd)(S:zg N ps (zc st))(len:∀ vs H Q E,sp vs H Q E->vs.length=ps.length)
  (hbody:∀ (cdv:Value) (A:Around) (outer:List Env) (s:Shared) (H:Hp) (vs:List V) (Q:VK) (E:XK),Room k (A.deeper (envOfC qual (zc st) s.heap.objs.size f cdv))->sp vs H Q E ->
   ∃ t,PSs (cxOf CX0 P w K mg base N qual (zc st) f cdv A outer s H E).nox (ze st) t/\t { nx:=λ_ H'=>Q .non H',rt:=Q } (start N vs) H):FnOk P w K mg base CX0 (k+1) f fd ps sp:=by
 obtain⟨oc,od,kV,doc,pm,an,cdv,ct,osl,rfl,lk,hcd⟩:=F.ex
 refine zb0 lk hcd S len λA outer s H vs Q E hr hsp=>?_
 obtain⟨t,h,q⟩:=hbody cdv A outer s H vs Q E hr hsp
 exact⟨t,h.nox,q⟩
theorem Fun.binds {x qual:Str}{st:Stmt}{f:Addr}{fd:FuncData}{ps:Lh}(F:Fun K x qual st f fd)
  (h:∀ (kV doc pm:Value) (an:Option Addr) (cdv ct:Value) (us:Lf),us.length=ps.length->bindArgs (PySem.W.fnOf x qual (jq st) (ze st) (zc st) .none kV doc pm an cdv ct) ⟨us,[]⟩=pure (ps.zip us)):Binds K fd ps []:=by
 obtain⟨oc,od,kV,doc,pm,an,cdv,ct,osl,rfl,lk,hcd⟩:=F.ex
 exact .all (h kV doc pm an cdv ct)
theorem ZX {x qual:Str}{st:Stmt}{f:Addr}{oc:Value}{od an:Option Addr}{osl:Array (Option Value)}{kV doc pm cdv ct:Value}(l:K.lookup f=some ⟨oc,od,.func (PySem.W.fnOf x qual (jq st) (ze st) (zc st) .none kV doc pm an cdv ct),osl⟩)
  (c:PySem.W.codeIn K cdv qual=true) (k:PySem.W.keepIn K (.ref f)=true):Fun K x qual st f (PySem.W.fnOf x qual (jq st) (ze st) (zc st) .none kV doc pm an cdv ct):=⟨⟨oc,od,kV,doc,pm,an,cdv,ct,osl,rfl,l,c⟩,k⟩
end
section
variable {X:Cx}
theorem pv (i:Nat){x:Str}{pos:Pos}(hN:X.N[i]? = some x:=by rfl) (hv:Vis X.env.scope x:=by first | exact Or.inl rfl | exact Or.inr (Or.inl rfl) | exact Or.inr (Or.inr rfl)) (hd:(x == ("__debug__":Str))=false:=by decide)
  (hcd:(x == ("__classdict__":Str))=false:=by decide):PE X (.Name x pos) (tVar i):=zge hN hv hd hcd
end
def Same (H H':Hp):Prop:=∀ b o,H b=some o->H' b=some o
noncomputable def Its (x:Str):It:=⟨λi _=>i<x.cps.size,λi H v H'=>H' = H/\∃ c,x.cps[i]? = some c/\v=.str ⟨#[c]⟩,λi _=>x.cps.size<=i⟩
section
variable {X:Cx} {tg:Expr}
theorem Qo {P:Program}{w:World}{K:Le}{tg:Expr}{x:Str}{t:Tok}{ty:String}{it:Addr}
  (hty:["enumerate","zip","dict_itemiterator","dict_reverseitemiterator","odict_iterator","itertools.zip_longest","itertools.pairwise"].contains ty=false)
  (W:∀ A':Around,A'.handled=none->Walks P w A' it [it] [it] x.cps.size (SignAt x) (λi h=>h.IsStrIter it ty x t i))
  (hend:∀ (A':Around) (s:Shared) (i:Nat) (E:Value->Shared->Prop) (Q:Option Value->Shared->Prop),A'.handled=none->s.heap.IsStrIter it ty x t i->x.cps[i]? = none ->
   (∀ h',(∀ b o,b≠it->s.heap.get? b=some o->h'.get? b=some o)->Q none { s with heap:=h' })->wpAny (model P w) A' (pyNext (.ref it)) Q E s)
  (hself:∀ (A':Around) (s:Shared) (i:Nat) (E:Value->Shared->Prop) (Q:Value->Shared->Prop),s.heap.IsStrIter it ty x t i->Q (.ref it) s->wpAny (model P w) A' (pyIter (.ref it)) Q E s) :
  Turn P w K tg (Its x) [it] it (λi h=>h.IsStrIter it ty x t i) where
 mem:=by simp
 obj:=λi h st b hb=>by
  have e:b=it:=by simpa using hb
  subst e
  obtain⟨o,e,c,d⟩:=st
  exact⟨o,e,λv z=>by rw [d] at z;cases z⟩
 keep:=λi h h' st k=>let ⟨o,ho,r⟩:=st;⟨o,k it (by simp) o ho,r⟩
 item:=by
  intro X hP hw hK hc i pins s σ H E I hf st hg
  subst hP hw hK
  obtain⟨f0,f1,f2,f3,f4,f5⟩:=hf it (by simp)
  refine(W X.A (I.ok.hd hc)).item i s _ _ hg st λv h' tk hv st' kk=>?_
  obtain⟨c,u,hcu,rfl⟩:=hv
  have I1:Inv X pins σ H { s with heap:=h',toks:=tk }:=I.turned (λb o hb e=>kk b o (by simpa using hb) e) f0 f1 f3 f4 f5
  obtain⟨o,e,hcl,d⟩:=id st'
  exact⟨_,rfl,KN (s:={ s with heap:=h',toks:=tk }) e hcl d hty ⟨.str ⟨#[c]⟩,H,I1,⟨u,rfl⟩,⟨rfl,c,hcu,rfl⟩,st',λb hb=>(hf b hb).1⟩⟩
 done:=by
  intro X hP hw hK hc i pins s σ H E I hf st hg
  subst hP hw hK
  obtain⟨f0,f1,f2,f3,f4,f5⟩:=hf it (by simp)
  have hg':x.cps.size<=i:=hg
  exact hend X.A s i E _ (I.ok.hd hc) st (by simp [hg']) λh' eb=>⟨rfl,I.turned (t':=s.toks) (λb o hb e=>eb b o hb e) f0 f1 f3 f4 f5⟩
 self:=λA i s Q E st h=>hself A s i E Q st h
end
theorem xr {env:Env}(y:Str):∀ (names:List (Str×NameKind)),
  (names.map λ(n,k)=>if (k == NameKind.free&&env.scope.kind == .function&&env.kindOf n == some .cell) then(n,NameKind.cell) else(n,k)).lookup y =
   (names.lookup y).map λk=>if (k == NameKind.free&&env.scope.kind == .function&&env.kindOf y == some .cell) then NameKind.cell else k
 | []=>rfl
 | (n,k)::r=>by
  have ih:=xr y r (env:=env)
  rw [uo]
  by_cases hy:y=n
  ·subst hy
   show List.lookup y ((if (k == NameKind.free&&env.scope.kind == .function&&env.kindOf y == some .cell)=true then(y,NameKind.cell) else(y,k))::_)=_
   by_cases hc:(k == NameKind.free&&env.scope.kind == .function&&env.kindOf y == some .cell)=true
   ·rw [uw hc]
    simp only [uY,uW,Uo,hc,U5]
   ·rw [uv hc]
    simp only [uY,uW,Uo,hc,U2]
    rfl
  ·have hb:(y == n)=false:=by simpa using hy
   show List.lookup y ((if (k == NameKind.free&&env.scope.kind == .function&&env.kindOf n == some .cell)=true then(n,NameKind.cell) else(n,k))::_)=_
   by_cases hc:(k == NameKind.free&&env.scope.kind == .function&&env.kindOf n == some .cell)=true
   ·rw [uw hc]
    simp only [uY,hb]
    exact ih
   ·rw [uv hc]
    simp only [uY,hb]
    exact ih
theorem kP {env:Env}:∀ (names:List (Str×NameKind)) (cs:List (Str×Addr)),(∀ y∈names,y.2=.free->∃ c,env.cells.lookup y.1=some c)->(∀ y c,cs.lookup y=some c->env.cells.lookup y=some c) ->
  ∃ cl,(forIn (m:=Sem) names cs λ(x:Str×NameKind) (r:List (Str×Addr))=>(if (x.2 == .free)=true then(do let c ← cellOf env x.1;pure (ForInStep.yield ((x.1,c)::r))) else pure (ForInStep.yield r)))=pure cl /\
   (∀ y c,cl.lookup y=some c->env.cells.lookup y=some c)/\(∀ y∈names,y.2=.free->∃ c,cl.lookup y.1=some c)/\∀ y,(∃ c,cs.lookup y=some c)->∃ c,cl.lookup y=some c
 | [],cs,_,hcs=>⟨cs,rfl,hcs,(λ_ h=>nomatch h),(λ_ h=>h)⟩
 | (n,k)::r,cs,h,hcs=>by
  by_cases hk:k=.free
  ·subst hk
   obtain⟨c,hc⟩:=h (n,.free) uf rfl
   have hc:env.cells.lookup n=some c:=hc
   have hcs':∀ y c',((n,c)::cs).lookup y=some c'->env.cells.lookup y=some c':=λy c' e=>by
    by_cases hy:y=n
    ·subst hy
     simp only [uY,uW] at e
     cases e
     exact hc
    ·have hb:(y == n)=false:=by simpa using hy
     simp only [uY,hb] at e
     exact hcs y c' e
   obtain⟨cl,e1,e2,e3,e4⟩:=kP r ((n,c)::cs) (λy hy=>h y (uh _ hy)) hcs'
   refine⟨cl,?_,e2,λy hy hf=>?_,λy hy=>e4 y ?_⟩
   ·rw [List.forIn_cons]
    simp only [uW,U5,cellOf,hc]
    exact e1
   ·rcases um.mp hy with rfl | hy
    ·exact e4 n ⟨c,by simp only [uY,uW]⟩
    ·exact e3 y hy hf
   ·obtain⟨c',hc'⟩:=hy
    by_cases hy:y=n
    ·subst hy
     exact⟨c,by simp only [uY,uW]⟩
    ·have hb:(y == n)=false:=by simpa using hy
     exact⟨c',by simp only [uY,hb];exact hc'⟩
  ·obtain⟨cl,e1,e2,e3,e4⟩:=kP r cs (λy hy=>h y (uh _ hy)) hcs
   refine⟨cl,?_,e2,λy hy hf=>?_,e4⟩
   ·have hb:(k == NameKind.free)=false:=by simpa using hk
    rw [List.forIn_cons]
    simp only [hb,gK,U2]
    exact e1
   ·rcases um.mp hy with rfl | hy
    ·exact absurd hf hk
    ·exact e3 y hy hf
theorem YZ {env:Env}{scope:Scope}(h:∀ y∈scope.names,y.2=.free->∃ c,env.cells.lookup y.1=some c) :
  ∃ cl,closureFor scope env=pure cl/\(∀ y c,cl.lookup y=some c->env.cells.lookup y=some c)/\(∀ y∈scope.names,y.2=.free->∃ c,cl.lookup y.1=some c):=by
 obtain⟨cl,e1,e2,e3,_⟩:=kP scope.names [] h (λy c e=>by simp at e)
 refine⟨cl,?_,e2,e3⟩
 have e:closureFor scope env=(forIn (m:=Sem) scope.names [] λ(x:Str×NameKind) (r:List (Str×Addr))=>(if (x.2 == .free)=true then(do let c ← cellOf env x.1;pure (ForInStep.yield ((x.1,c)::r))) else pure (ForInStep.yield r))) >>= λcs=>pure cs:=rfl
 rw [e,e1]
 rfl
theorem VL {prog:Program}{w:World}{A:Around}{R:Result->Shared->Prop}{s:Shared}{elt target iter:Expr}{ifs:Lg}{scope:Scope}{pos:Pos}{it acc:Value}{env:Env}(I:Nat->Shared->Prop)
  (turn:∀ n s,I n s->wpAny (model prog w) A (pyNext it) (λr s₁=>match r with
   | none=>R (.ok .next) s₁
   | some v=>wpAny (model prog w) A (letOwnedTupleGo target it v) (λ_ s₁=>wpAny (model prog w) A (assign target env v) (λ_ s₂=>
     wpAny (model prog w) A (forIn ifs true λc r=>if r=true then do let ok ← isTrue c env (eval c env);pure (ForInStep.yield ok) else pure (ForInStep.yield r)) (λok s₃=>
      if ok=true then wpAny (model prog w) A (eval elt env) (λx s₄=>
       wpAny (model prog w) A (call (.builtin "list.append") [acc,x]) (λ_ s₅=>∃ m,m<n/\I m s₅) (λ_ _=>False) s₄) (λ_ _=>False) s₃
      else ∃ m,m<n/\I m s₃) (λ_ _=>False) s₂) (λ_ _=>False) s₁) (λ_ _=>False) s₁) (λ_ _=>False) s)
  (n:Nat) (h:I n s) :
  codeAny (model prog w) A (.compLoop (.ListComp elt [⟨target,iter,ifs,0⟩] scope pos) 0 it acc env) R s:=by
 refine codeAny_loop rfl I (λn s hI=>?_) n h
 show wpAny _ A ((compTurn (.ListComp elt [⟨target,iter,ifs,0⟩] scope pos) 0 it acc env).onRaise (λx=>do noteFrame x env;theTreesLotGoes x)) _ _ s
 refine wpAny_noted ?_
 rw [compTurn_list]
 refine wpAny_bind (wpAny_standAt (wpAny_bind (wpAny_mono (turn n s hI) (λr s₁ h₁=>?_) λ_ _ h'=>h'.elim)))
 cases r with
 | none=>exact wpAny_pure h₁
 | some v=>
  refine wpAny_bind (wpAny_mono h₁ (λ_ s₁ h₁=>?_) λ_ _ h'=>h'.elim)
  refine wpAny_bind (wpAny_mono h₁ (λ_ s₂ h₂=>wpAny_bind (wpAny_mono h₂ (λok s₃ h₃=>?_) λ_ _ h'=>h'.elim)) λ_ _ h'=>h'.elim)
  cases ok with
  | false=>exact wpAny_pure ⟨rfl,h₃⟩
  | true=>
   exact wpAny_bind (wpAny_bind (wpAny_mono h₃ (λx s₄ h₄=>wpAny_bind (wpAny_mono h₄ (λ_ s₅ h₅=>wpAny_pure (wpAny_pure ⟨rfl,h₅⟩)) λ_ _ h'=>h'.elim)) λ_ _ h'=>h'.elim))
noncomputable def blk (X:Cx)(x:Str)(scope:Scope)(cl:List (Str×Addr))(C:Addr)(s3:Shared)(H3:Hp)(fp:Ld):Cx:=
 { X with N:=x::X.N,s₀:=s3,H₀:=H3,env:=compEnvC scope cl C X.env,outer:=X.stack,ex:=fp,fn:=λ_=>false,pn:=[],xe:=λ_ _=>False }
def PTs (X:Cx)(ifs:Lg)(t:TT):Prop:=
 ∀ (pins:List (Addr×Obj)) (s:Shared) (σ:St) (H:Hp) (Q:Bool->Hp->Prop),Inv X pins σ H s->t σ H Q ->
  wpAny (model X.prog X.w) X.A (forIn ifs true λc r=>if r=true then do let ok ← isTrue c X.env (eval c X.env);pure (ForInStep.yield ok) else pure (ForInStep.yield r)) (TP X pins σ Q) X.xe s
noncomputable def ziK:TT:=λ_ H Q=>Q true H
theorem zei {X:Cx}:PTs X [] ziK:=λ_ _ _ H _ I h=>wpAny_tests_nil ⟨H,I,h⟩
theorem zej {X:Cx}{c:Expr}{t:TT}(h:PT X c t):PTs X [c] t:=λpins s σ H Q I hw=>wpAny_tests_one (h pins s σ H Q I hw)
section
variable {X:Cx} {elt iter:Expr} {x:Str} {px pos:Pos} {ifs:Lg} {scope:Scope} {wi:TI} {tt:TT} {te:TE}
end
noncomputable def S (l:Lc):Str:=⟨l.toArray⟩
theorem zb9 (l:Lc):(S l).cps.toList=l:=rfl
theorem jw (l:Lc):(S l).length=l.length:=by simp [S,Str.length]
theorem S_of (x:Str):S x.cps.toList=x:=by simp [S]
theorem Ja {a b:Lc}:S a=S b↔a=b:=⟨λh=>by have:=congrArg (λx=>x.cps.toList) h;simpa [S] using this,λh=>by rw [h]⟩
theorem S_app (a b:Lc):S a++S b=S (a++b):=by
 show Str.append (S a) (S b)=_
 simp [S,Str.append]
section
variable {X:Cx} {a b e:Expr} {ta tb te:TE} {pos:Pos}
theorem pe_S {x:Str}{l:Lc}{j pos}(h:x=S l):PE X (.Constant (.str x) j pos) (tC (.str (S l))):=by
 subst h;exact zgh
theorem zek:OpR X (binaryOp .Add) (λx y H Q=>∃ i j,x=.str (S i)/\y=.str (S j)/\i.length+j.length<=sizeLine/\Q (.str (S (i++j))) H):=by
 intro pins s σ H x y v u Q I rx ry h
 obtain⟨i,j,rfl,rfl,hz,q⟩:=h
 exact YO pins s σ H _ _ v u Q I rx ry ⟨S i,S j,rfl,rfl,by rw [jw,jw];exact hz,by rw [S_app];exact q⟩
theorem zel:OpR X (binaryOp .Mult) (rI IntMulOk λi j=>.int (i * j)):=opI λ_ _ _ _ _ _ _ hc q=>mul_int q hc
noncomputable def zfA:R2:=λx y H Q=>∃ l i c,x=.str (S l)/\y=.int i/\l.length<=sizeLine/\atI l i=some c/\Q (.str (S [c])) H
theorem ix_S:IxR X zfA:=by
 intro value slice pins s σ H x y v u Q I rx ry h hs
 obtain⟨l,i,c,rfl,rfl,hz,he,q⟩:=h
 exact zgH value slice pins s σ H _ _ v u Q I rx ry ⟨S l,i,c,rfl,rfl,by rw [jw];exact hz,he,q⟩ hs
theorem zbc:jZ X (.builtin "len") (λxs H Q=>∃ l,xs=[.str (S l)]/\l.length<=sizeLine/\Q (.int l.length) H):=by
 intro pins s σ H xs us Q I r h
 obtain⟨l,rfl,hz,q⟩:=h
 exact Xu pins s σ H _ us Q I r ⟨S l,rfl,by rw [jw];exact hz,by rw [jw];exact q⟩
noncomputable def cutN (xs:Lc)(lo hi:Option Int):Lc:=(xs.drop (HT.sIx xs.length 0 lo)).take (HT.sIx xs.length xs.length hi - HT.sIx xs.length 0 lo)
end
section
variable {X:Cx} {a b e:Expr} {ta tb te:TE} {pos:Pos}
theorem zca (lo hi:Option Int)(n:Nat):Builtin.Str.strSliceIndices lo hi 1 n=(List.range (HT.sIx n n hi - HT.sIx n 0 lo)).map (HT.sIx n 0 lo + ·):=by
 have h1:(match lo with | none=>(0:Int) | some i=>max 0 (min (if i<0 then i+(n:Int) else i) (n:Int)))=((HT.sIx n 0 lo:Nat):Int):=by
  cases lo with
  | none=>simp [HT.sIx]
  | some i=>
   simp only [HT.sIx]
   by_cases h:i<0
   ·simp only [h,U5];lia
   ·simp only [h,U2];lia
 have h2:(match hi with | none=>(n:Int) | some i=>max 0 (min (if i<0 then i+(n:Int) else i) (n:Int)))=((HT.sIx n n hi:Nat):Int):=by
  cases hi with
  | none=>simp [HT.sIx]
  | some i=>
   simp only [HT.sIx]
   by_cases h:i<0
   ·simp only [h,U5];lia
   ·simp only [h,U2];lia
 rw [← sliceRange_one,← h1,← h2]
 cases lo<;>cases hi<;>rfl
theorem zbd (n:Nat)(hi:Option Int):HT.sIx n n hi<=n:=HT.sIx_le n n (ui _) hi
theorem sl_S:SlR X (λx lo hi H Q=>∃ l,x=.str (S l)/\l.length<=sizeLine/\Q (.str (S (cutN l lo hi))) H):=by
 intro pins s σ H x v vl vu lo hi sl Q I rx hs pl pu h
 obtain⟨l,rfl,hz,q⟩:=h
 obtain⟨t,rfl⟩:=rx
 refine⟨"str",_,F.slot_str_getitem.lookup,typeIs_str s _ t,?_⟩
 obtain⟨pl',el⟩:∃ p,vl=partValue p/\p.map (·.1)=lo:=by
  cases pl with
  | none=>exact⟨none,rfl,rfl⟩
  | int i t=>exact⟨some (i,t),rfl,rfl⟩
 obtain⟨pu',eu⟩:∃ p,vu=partValue p/\p.map (·.1)=hi:=by
  cases pu with
  | none=>exact⟨none,rfl,rfl⟩
  | int i t=>exact⟨some (i,t),rfl,rfl⟩
 have hsl:s.heap.IsSlice sl pl' pu' none:=by
  obtain⟨o,h1,h2,h3⟩:=hs
  exact⟨o,h1,h2,by rw [h3,el.1,eu.1];rfl⟩
 refine wpAny_getItem_str_slice hsl rfl ?_
 unfold sliceMade slicePicked
 refine post_val_or_made (λ_=>?_) λt' k=>?_
 ·rw [el.2,eu.2,Option.map_none,gi,zca,jw]
  have e:((List.range (HT.sIx l.length l.length hi - HT.sIx l.length 0 lo)).map (HT.sIx l.length 0 lo + ·)).filterMap ((S l).cps[·]?)=cutN l lo hi:=by
   rw [pick_run];rfl
  rw [e]
  show(S (cutN l lo hi)).length<=sizeLine
  rw [jw]
  unfold cutN
  rw [Uv,Ub]
  lia
 ·refine⟨.str _,H,I.tok _,⟨_,rfl⟩,?_⟩
  rw [el.2,eu.2,Option.map_none,gi,zca,jw]
  have e:((List.range (HT.sIx l.length l.length hi - HT.sIx l.length 0 lo)).map (HT.sIx l.length 0 lo + ·)).filterMap ((S l).cps[·]?)=cutN l lo hi:=by
   rw [pick_run];rfl
  rw [e]
  split
  ·rename_i hc
   have hc':HT.sIx l.length l.length hi - HT.sIx l.length 0 lo=l.length:=by
    simpa using hc
   have h2:=zbd l.length hi
   have e2:cutN l lo hi=l:=by
    unfold cutN
    have h3:HT.sIx l.length 0 lo=0:=by
     by_cases hl:l.length=0
     ·have:=HT.sIx_le l.length 0 (uE _) lo;lia
     ·lia
    rw [hc',h3,Gf,UD]
   rw [e2] at q
   exact q
  ·exact q
theorem Jb:∀ {ts:Lh} {us:Lf},Vals (ts.map V.str) us->StrsAre us ts
 | [],_,r=>by rw [Uw] at r;cases r;exact .nil
 | t::ts,_,r=>by
  rw [uo] at r
  cases r with
  | cons r1 r2=>
   obtain⟨k,e⟩:=r1
   subst e
   exact .cons t k (Jb r2)
theorem zcb:∀ ls:List (Lc),Str.join (S []) (ls.map S)=S ls.flatten
 | []=>rfl
 | [x]=>by simp [Str.join]
 | x::y::r=>by
  show S x++S []++Str.join (S []) ((y::r).map S)=_
  rw [zcb (y::r),S_app,S_app,uk]
  rfl
noncomputable def rJoin (K:Le):V->List V->Hp->VK->Prop:=λx vs H Q=>∃ (D:Addr) (ls:List (Lc)),x=.str (S [])/\vs=[.ref D]/\SqL K H D (ls.map λl=>V.str (S l))/\ls.flatten.length<=16777216/\Q (.str (S ls.flatten)) H
theorem zcc:MtR X "str.join" (rJoin X.K):=by
 intro pins s σ H x xs v us Q I rx rs h
 obtain⟨D,ls,rfl,rfl,hq,hz,q⟩:=h
 obtain⟨t,rfl⟩:=rx
 obtain⟨u,rfl,ru⟩:=vals1 rs
 cases ru
 obtain⟨its,rv,p,_⟩:=I.list hq
 have rv':Vals ((ls.map S).map V.str) its:=by rw [Uq];exact rv
 refine join_list p.isList (by simpa using Jb rv') ?_ λt' k=>⟨.str (S ls.flatten),H,I.tok _,⟨t',?_⟩,q⟩
 ·have e:((ls.map S).map (·.length)).sum=ls.flatten.length:=by
   rw [Uq,List.length_flatten]
   congr 1
   try (apply u4;intro l _;exact jw l)
  have e2:(S []).length=0:=rfl
  rw [e,e2]
  lia
 ·show Value.str (Builtin.Str.glued (S []) (ls.map S)) t' = _
  rw [StrLaws.glued_eq_join,zcb]
noncomputable def dg (n:Nat):Lc:=if n<10 then [48+n] else [48+n / 10,48+n % 10]
noncomputable def VM (c:Nat):Bool:=48<=c&&c<=57
theorem zbe:jZ X (.type "int") (λxs H Q=>∃ c d:Nat,xs=[.str (S [c,d])]/\VM c=true/\VM d=true/\Q (.int (((c - 48) * 10+(d - 48):Nat):Int)) H):=by
 intro pins s σ H xs us Q I r h
 obtain⟨c,d,rfl,hc,hd,q⟩:=h
 obtain⟨u,rfl,t,rfl⟩:=vals1 r
 unfold VM at hc hd
 simp only [uQ,decide_eq_true_eq] at hc hd
 have hn:PySem.intText? (S [c,d])=some (((c - 48) * 10+(d - 48):Nat):Int):=by
  rw [intText_digits (x:=S [c,d]) (λz hz=>?_) (by simp [S]) (by rw [jw];show 2<=4300;decide)]
  ·rw [zb9]
   simp [NumText.digitsVal]
  ·rw [zb9] at hz
   simp at hz
   rcases hz with rfl | rfl
   ·exact hc
   ·exact hd
 exact PySem.W.KIN.call_text hn (by rw [jw];show 2<=640;decide) ⟨.int _,H,I.tok _,⟨_,rfl⟩,q⟩
end
structure OkF (P:Program)(w:World)(K:Le)(mg:La)(base:Heap)(k:Nat)(x:Str)(ps:Lh)(sp:Sp):Prop where
 ex:∃ (f:Addr) (fd:FuncData),PySem.W.keepIn K (.ref f)=true/\Binds K fd ps []/\(mg x=some (.ref f)/\∃ oc od osl,K.lookup f=some ⟨oc,od,.func fd,osl⟩)/\FnOk P w K mg base CX0 k f fd ps sp
structure Df (K:Le)(mg:La)(x:Str)(st:Stmt)(ps:Lh):Prop where
 ex:∃ (f:Addr) (fd:FuncData),Fun K x x st f fd/\Binds K fd ps []/\mg x=some (.ref f)
section
variable {P:Program} {w:World} {K:Le} {mg:La} {base:Heap}
theorem Df.ok {x:Str}{st:Stmt}{ps N:Lh}{k:Nat}{sp:Sp}(D:Df K mg x st ps)(Sc:zg N ps (zc st))(len:∀ vs H Q E,sp vs H Q E->vs.length=ps.length)
  (hbody:∀ (f:Addr) (cdv:Value) (A:Around) (outer:List Env) (s:Shared) (H:Hp) (vs:List V) (Q:VK) (E:XK),Room k (A.deeper (envOfC x (zc st) s.heap.objs.size f cdv))->sp vs H Q E ->
   ∃ t,PSs (cxOf CX0 P w K mg base N x (zc st) f cdv A outer s H E).nox (ze st) t/\t { nx:=λ_ H'=>Q .non H',rt:=Q } (start N vs) H):OkF P w K mg base (k+1) x ps sp:=by
 obtain⟨f,fd,F,b,m⟩:=D.ex
 refine⟨f,fd,F.kp,b,⟨m,?_⟩,F.ok Sc len (λcdv A outer s H vs Q E hr h=>hbody f cdv A outer s H vs Q E hr h)⟩
 obtain⟨oc,od,kV,doc,pm,an,cdv,ct,osl,rfl,lk,hcd⟩:=F.ex
 exact⟨oc,od,osl,lk⟩
end
section
variable {P:Program} {w:World} {K:Le} {mg:La} {base:Heap}
theorem ziL {h:Heap}{x:Str}{st:Stmt}{ps:Lh}{f:Addr}{oc:Value}{od an:Option Addr}{osl:Array (Option Value)}{kV doc pm cdv ct:Value}(X:K.In h)(G:h.Ns mainGlobals mg)
  (b:∀ (kV doc pm:Value) (an:Option Addr) (cdv ct:Value) (us:Lf),us.length=ps.length->bindArgs (PySem.W.fnOf x x (jq st) (ze st) (zc st) .none kV doc pm an cdv ct) ⟨us,[]⟩=pure (ps.zip us))
  (a:PySem.W.nsIn K mainGlobals x=some (some (.ref f))) (l:K.lookup f=some ⟨oc,od,.func (PySem.W.fnOf x x (jq st) (ze st) (zc st) .none kV doc pm an cdv ct),osl⟩)
  (c:PySem.W.codeIn K cdv x=true) (k:PySem.W.keepIn K (.ref f)=true):Df K mg x st ps:=
 ⟨f,_,ZX l c k,(ZX l c k).binds b,Ug X G a⟩
theorem zgL {st:Stmt}{x:Str}{k:Nat}{fa:Addr}{sp:Sp}(D:Df K mg "law" st [x])(hfa:mg "law" = some (.ref fa))
  (hb:∀ (kV doc pm:Value) (an:Option Addr) (cdv ct:Value) (s:Shared) (u:Value),BindsTo s (PySem.W.fnOf "law" "law" (jq st) (ze st) (zc st) .none kV doc pm an cdv ct) ⟨[u],[]⟩ [(x,u)])
  (F:∀ base:Heap,OkF P w K mg base k "law" [x] sp) :
  ∃ fd:FuncData,(∀ (s:Shared) (v:Value),BindsTo s fd ⟨[v],[]⟩ [(x,v)])/\∀ base:Heap,K.In base->base.Ns mainGlobals mg->FnOk P w K mg base CX0 k fa fd [x] sp:=by
 obtain⟨f,fd,G,b,m⟩:=D.ex
 have e:f=fa:=by rw [hfa] at m;cases m;rfl
 subst e
 obtain⟨oc,od,kV,doc,pm,an,cdv,ct,osl,rfl,lk,hcd⟩:=G.ex
 refine⟨_,λs v=>hb kV doc pm an cdv ct s v,λbase _ _=>?_⟩
 obtain⟨f',fd',_,_,⟨m',oc',od',osl',lk'⟩,ok⟩:=(F base).ex
 have e:f' = f:=by rw [hfa] at m';cases m';rfl
 subst e
 rw [lk] at lk'
 cases lk'
 exact ok
end
section
variable {X:Cx} {k j:Nat} {x:Str} {ps:Lh} {sp:Sp} {p pos:Pos} {e:Expr} {es:Lg} {t:TA}
theorem ziM {v:V}{pos:Pos}(h:∃ u,X.mg x=some u/\RelV v u)(hg:Gl X x:=by rfl) (hd:(x == ("__debug__":Str))=false:=by decide):PE X (.Name x pos) (tC v):=by
 obtain⟨u,m,r⟩:=h
 exact zd3 hg m r hd
theorem ZY {v:V}{u:Value}{pos:Pos}(hm:X.mg x=none)(hv:bootBuiltins x=some u)(r:RelV v u)(hg:Gl X x:=by rfl) (hn:x≠"__name__":=by decide) (hd:(x == ("__debug__":Str))=false:=by decide):PE X (.Name x pos) (tC v):=
 zd4 hg hm hv r hn hd
theorem VN:jZ X (.builtin "isinstance") (λxs H Q=>∃ x n t b,xs=[x,.ty n]/\TyOf X.K H x t/\PySem.W.kitOne X.K t (.type n)=some b/\Q (.bl b) H):=by
 intro pins s σ H xs us Q I r h
 obtain⟨x,n,t,b,rfl,ty,e,q⟩:=h
 obtain⟨u,w',rfl,rx,ry⟩:=vals2 r
 cases ry
 exact za6 I rx ty e λtk=>⟨.bl b,H,I.tok _,rfl,q⟩
section
variable {K:Le} {o:Expr} {to:TE} {name:Str} {apos cpos:Pos} {T id:String} {r:V->List V->Hp->VK->Prop}
theorem ZZ (hK:X.K=K)(pa:PlainAttrs T)(slot:Slot T name id)(hty:typeOf (.builtin id)=pure (.type "method_descriptor"))(hm:MtR X id r)(ho:PE X o to)(ha:PA X (e::es) t)
  (hbase:attributeBase o name X.env (eval o X.env)=eval o X.env:=by rfl)
  (hfew:((backTo cpos (starEach (e::es) X.env)).all (λx=>!x.1)&&(backToKw cpos (keywordEach [] X.env)).all (λx=>x.1.isSome)
   && decide ((e::es).length+([]:List Keyword).length+(if ([]:List Keyword).isEmpty then 0 else 1)<30))=true:=by rfl)
  (hline:(apos.endLine == cpos.line)=true:=by rfl) (hs:starEach (e::es) X.env=(false,eval e X.env)::starEach es X.env:=by rfl) (hplain:(backTo cpos (starEach es X.env)).any (·.1)=false:=by rfl) :
  PE X (.Call (.Attribute o name apos) (e::es) [] cpos) (tBM K T r to t):=by
 subst hK
 exact ziJ pa slot hty hm ho ha hbase hfew hline hs hplain
theorem zbf (hK:X.K=K):MtR X "str.join" (rJoin K):=by subst hK;exact zcc
theorem zcd (hK:X.K=K):IxR X (rIxL K):=by subst hK;exact zef
theorem zem (hK:X.K=K):IxR X (rIxT K):=by subst hK;exact zgG
noncomputable def ziN (K:Le):List V->Hp->VK->Prop:=λxs H Q=>∃ p ys,xs=[.ref p]/\(SqL K H p ys\/SqT K H p ys)/\Q (.int ys.length) H
theorem Y0 (hK:X.K=K):jZ X (.builtin "len") (ziN K):=by subst hK;exact Xs
theorem zce (hK:X.K=K):SlR X (rSlL K):=by subst hK;exact zeg
end
end
theorem zgM:bootBuiltins "len" = some (.builtin "len"):=by decide +kernel
theorem zgN:bootBuiltins "str" = some (.type "str"):=by decide +kernel
theorem zcf:bootBuiltins "int" = some (.type "int"):=by decide +kernel
theorem zen:bootBuiltins "bool" = some (.type "bool"):=by decide +kernel
theorem kE:bootBuiltins "isinstance" = some (.builtin "isinstance"):=by decide +kernel
noncomputable def sg:Lc:=[32,33,34,35,36,38,39,40,41,42,43,44,45,46,47,48,49,50,51,52,53,54,55,56,57,58,59,60,61,62,63,64,65,66,67,68,69,70,71,72,73,74,75,76,77,78,79,80,81,82,83,84,85,86,87,88,89,90,91,92,93,94,95,96,97,98,99,100,101,102,103,104,105,106,107,108,109,110,111,112,113,114,115,116,117,118,119,120,121,122,123,124,125,126]
noncomputable def ix (c:Nat):Nat:=sg.idxOf c
theorem vp {H:Hp}{a:Addr}{o:HO}(h:H a=none):Same H (upd H a o):=λb u e=>by rw [zU (wt e h)];exact e
theorem QM {i j:Int}(h:-(2 ^ 64)<j/\j<2 ^ 64):IntMulOk i j:=CMul.ok (.inr h)
noncomputable def st1 (sh:Lc)(c:Nat):Lc:=if c=92\/c∈sh then [92,c] else [c]
noncomputable def ws:Lc:=[97,98,99,100,101,102,103,104,105,106,107,108,109,110,111,112,113,114,115,116,117,118,119,120,121,122,48,49,50,51,52,53,54,55,56,57,45]
def Fly (h:Heap)(e T:Addr)(cls:Value)(d:Option Addr)(fl:Value):Prop:=
 ∃ sl vs oT ts,h.get? e=some ⟨cls,d,.fields vs,sl⟩/\vs[1]? = some (.ref T)/\T≠e/\h.get? T=some oT/\oT.data=.fields ts/\ts[3]? = some fl
structure Kp (ch fs:Ld)(h h':Heap):Prop where
 keep:∀ b o,b∉ch->b∉fs->h.get? b=some o->h'.get? b=some o
 slot:∀ b o,b∉ch->h.get? b=some o->∃ sl,h'.get? b=some { o with slots:=sl }
section
variable {M:Model} {A:Around} {E:Value->Shared->Prop} {s:Shared}
theorem WO {base:Heap}{env:Env}{outer:List Env}{L e:Addr}{cls head:Value}{d:Option Addr}{vs:Array Value}{sl:Array (Option Value)}{nx:Bool}{Q:Unit->Shared->Prop}
  (hfr:A.frames=some (env::outer)) (hl:s.heap.FunFrames base (env::outer)) (hf:env.frame=some L) (he:s.heap.get? e=some ⟨cls,d,.fields vs,sl⟩) (hv:1<vs.size)
  (k:∀ h' T,s.heap.objs.size<=T->Fly h' e T cls d (rawInt L)->Kp [e] (frs (env::outer)) s.heap h'->Q () { s with heap:=h' }) :
  wpAny M A (do let a ← frameOf env;let pl ← entryPlaceOf L nx;let b ← EntryCells.newEntry head a .none (rawInt L) .none pl;setField (.ref e) 1 b) Q E s:=by
 have ne:e∉(env::outer).filterMap (·.frame):=λhm=>by
  obtain⟨_,o,ho,hn⟩:=hl.mem hm
  rw [he] at ho
  cases ho
  exact hn vs rfl
 refine wpAny_bind (wpAny_frameOf_fun hfr hl hf λg hg=>wpAny_bind (wpAny_entryPlaceOf λpl hpl=>?_))
 have e1:g.get? e=some ⟨cls,d,.fields vs,sl⟩:=(hg.2.1 e ne).trans he
 unfold EntryCells.newEntry newFields
 refine wpAny_bind (wpAny_newObj_type ?_ (hpl.sizeOk5 _ _ _ _ _))
 generalize hT:({ cls:=.type "traceback",dict:=none,data:=.fields ([head,.ref L,.none,rawInt L,.none]++(if pl.isEmpty then List.replicate 6 Value.none else pl)).toArray }:Obj)=tb
 have e2:=Heap.get?_push_of_some (h:=g) tb e1
 have tn:g.objs.size≠e:=gO (Heap.lt_size e1)
 refine wpAny_setField e2 rfl hv (k _ g.objs.size ?_ ?_ ?_)
 ·rw [hg.1];exact ui _
 ·refine⟨sl,_,tb,([head,.ref L,.none,rawInt L,.none]++(if pl.isEmpty then List.replicate 6 Value.none else pl)).toArray,Heap.get?_update_self _ e2 (by rfl),by simp [hv],tn,?_,by rw [← hT],by simp⟩
  rw [Heap.get?_update_other _ _ (Ne.symm tn)]
  exact Heap.get?_push_size g (by rw [← hT];rfl)
 ·refine⟨λb o hb hfs q=>?_,λb o hb q=>?_⟩
  ·have hbe:b≠e:=λz=>hb (by simp [z])
   rw [Heap.get?_update_other _ _ (Ne.symm hbe)]
   exact Heap.get?_push_of_some _ ((hg.2.1 b hfs).trans q)
  ·have hbe:b≠e:=λz=>hb (by simp [z])
   obtain⟨sl',q'⟩:=hg.2.2 b o q
   refine⟨sl',?_⟩
   rw [Heap.get?_update_other _ _ (Ne.symm hbe)]
   exact Heap.get?_push_of_some _ q'
theorem Y1 {base:Heap}{env:Env}{outer:List Env}{L e:Addr}{cls:Value}{d:Option Addr}{vs:Array Value}{sl:Array (Option Value)}{Q:Unit->Shared->Prop}
  (hfr:A.frames=some (env::outer)) (hl:s.heap.FunFrames base (env::outer)) (hf:env.frame=some L) (he:s.heap.get? e=some ⟨cls,d,.fields vs,sl⟩) (hv:vs[1]? = some .none)
  (k:∀ h' T,s.heap.objs.size<=T->Fly h' e T cls d (rawInt L)->Kp [e] (frs (env::outer)) s.heap h'->Q () { s with heap:=h' }):wpAny M A (noteFrame (.ref e) env) Q E s:=by
 unfold noteFrame
 simp only [hf]
 refine wpAny_bind (wpAny_field he rfl hv ?_)
 rw [uv (by decide)]
 exact WO hfr hl hf he (UC.mp hv).1 k
theorem zbg {base:Heap}{env:Env}{outer:List Env}{L e T:Addr}{cls:Value}{d:Option Addr}{Q:Unit->Shared->Prop}
  (hfr:A.frames=some (env::outer)) (hl:s.heap.FunFrames base (env::outer)) (hf:env.frame=some L) (F:Fly s.heap e T cls d .none)
  (k:∀ h' T',s.heap.objs.size<=T'->Fly h' e T' cls d (rawInt L)->Kp [T,e] (frs (env::outer)) s.heap h'->Q () { s with heap:=h' }):wpAny M A (noteFrame (.ref e) env) Q E s:=by
 obtain⟨sl,vs,oT,ts,he,hv,tn,hT,hd,h3⟩:=F
 unfold noteFrame
 simp only [hf]
 refine wpAny_bind (wpAny_field he rfl hv ?_)
 rw [uw (show(Value.ref T != Value.none)=true by simp)]
 refine wpAny_bind (wpAny_field hT hd h3 ?_)
 rw [uv (show ¬ (Value.none == rawInt L)=true by simp [rawInt])]
 refine wpAny_bind (wpAny_setField hT hd (UC.mp h3).1 ?_)
 have oth:∀ b,b≠T->(s.heap.update T (Obj.mapFields (·.setIfInBounds 3 Value.none))).get? b=s.heap.get? b:=λb hb=>Heap.get?_update_other _ _ (Ne.symm hb)
 have nT:∀ b o,s.heap.get? b=some o->(∀ ws,o.data≠.fields ws)->b≠T:=λb o q hn z=>by
  rw [z,hT] at q
  cases q
  exact hn ts hd
 have hsz:(s.heap.update T (Obj.mapFields (·.setIfInBounds 3 Value.none))).objs.size=s.heap.objs.size:=(Heap.SameBut.update s.heap T _).1
 refine WO (base:=base) hfr (hl.of_keeps λb o q hn=>⟨o,(oth b (nT b o q hn)).trans q,rfl⟩) hf ((oth e (Ne.symm tn)).trans he) (UC.mp hv).1 λh' T' g1 g2 g3=>?_
 refine k h' T' (by rw [← hsz];exact g1) g2 ⟨λb o hb hfs q=>?_,λb o hb q=>?_⟩
 ·exact g3.keep b o (λz=>hb (uh _ z)) hfs ((oth b λz=>hb (by simp [z])).trans q)
 ·exact g3.slot b o (λz=>hb (uh _ z)) ((oth b λz=>hb (by simp [z])).trans q)
theorem Jc {e T:Addr}{cls fl:Value}{d:Option Addr}{Q:Unit->Shared->Prop}(F:Fly s.heap e T cls d fl)(k:∀ h',Fly h' e T cls d .none->Kp [T] [] s.heap h'->h'.objs.size=s.heap.objs.size->Q () { s with heap:=h' }):wpAny M A (setFlight (.ref e) none) Q E s:=by
 obtain⟨sl,vs,oT,ts,he,hv,tn,hT,hd,h3⟩:=F
 have h3':=(UC.mp h3).1
 unfold setFlight
 refine wpAny_bind (wpAny_field he rfl hv ?_)
 rw [uw (show(Value.ref T != Value.none)=true by simp)]
 have oth:∀ b,b≠T->(s.heap.update T (Obj.mapFields (·.setIfInBounds 3 Value.none))).get? b=s.heap.get? b:=λb hb=>Heap.get?_update_other _ _ (Ne.symm hb)
 refine wpAny_setField hT hd h3' (k _ ⟨sl,vs,_,_,(oth e (Ne.symm tn)).trans he,hv,tn,Heap.get?_update_self _ hT (Obj.isFreed_of_fields (Obj.data_mapFields hd _)),Obj.data_mapFields hd _,by simp [h3']⟩ ?_ (Heap.SameBut.update s.heap T _).1)
 exact⟨λb o hb _ q=>(oth b λz=>hb (by simp [z])).trans q,λb o hb q=>⟨o.slots,(oth b λz=>hb (by simp [z])).trans q⟩⟩
theorem VO {base:Heap}{env:Env}{outer:List Env}{L e:Addr}{cls:Value}{d:Option Addr}{vs:Array Value}{sl:Array (Option Value)}{Q:Unit->Shared->Prop}
  (hfr:A.frames=some (env::outer)) (hl:s.heap.FunFrames base (env::outer)) (hf:env.frame=some L) (he:s.heap.get? e=some ⟨cls,d,.fields vs,sl⟩) (hv:vs[1]? = some .none)
  (k:∀ h' T,s.heap.objs.size<=T->Fly h' e T cls d .none->Kp [e] (frs (env::outer)) s.heap h'->Q () { s with heap:=h' }):wpAny M A (leaving env (.ref e)) Q E s:=by
 unfold leaving
 refine wpAny_bind (Y1 hfr hl hf he hv λh1 T g1 g2 g3=>Jc (s:={ s with heap:=h1 }) g2 λh2 f1 f2 f3=>k h2 T g1 f1 ⟨λb o hb hfs q=>?_,λb o hb q=>?_⟩)
 all_goals
  have hbT:b≠T:=λz=>absurd (Heap.lt_size q) (by rw [z];exact Nat.not_lt.mpr g1)
 ·exact f2.keep b o (by simpa using hbT) (by simp) (g3.keep b o hb hfs q)
 ·obtain⟨sl',q'⟩:=g3.slot b o hb q
  obtain⟨sl2,q2⟩:=f2.slot b _ (by simpa using hbT) q'
  exact⟨sl2,q2⟩
theorem Y2 {base:Heap}{env:Env}{outer:List Env}{L e T:Addr}{cls:Value}{d:Option Addr}{Q:Unit->Shared->Prop}
  (hfr:A.frames=some (env::outer)) (hl:s.heap.FunFrames base (env::outer)) (hf:env.frame=some L) (F:Fly s.heap e T cls d .none)
  (k:∀ h' T',s.heap.objs.size<=T'->Fly h' e T' cls d .none->Kp [T,e] (frs (env::outer)) s.heap h'->Q () { s with heap:=h' }):wpAny M A (leaving env (.ref e)) Q E s:=by
 unfold leaving
 refine wpAny_bind (zbg hfr hl hf F λh1 T' g1 g2 g3=>Jc (s:={ s with heap:=h1 }) g2 λh2 f1 f2 f3=>k h2 T' g1 f1 ⟨λb o hb hfs q=>?_,λb o hb q=>?_⟩)
 all_goals
  have hbT:b≠T':=λz=>absurd (Heap.lt_size q) (by rw [z];exact Nat.not_lt.mpr g1)
 ·exact f2.keep b o (by simpa using hbT) (by simp) (g3.keep b o hb hfs q)
 ·obtain⟨sl',q'⟩:=g3.slot b o hb q
  obtain⟨sl2,q2⟩:=f2.slot b _ (by simpa using hbT) q'
  exact⟨sl2,q2⟩
end
end L2
namespace L2
open PySem PySem.Spec PySem.Calls PyProof.Rows PySem.W
noncomputable abbrev vBM:Lf:=[.type "ValueError",.type "Exception",.type "BaseException",.type "object"]
noncomputable def zgO (K:Frag)(C:Addr):Bool:=match K.lookup C with
 | none=>false
 | some o=>o.cls == .type "type"&&match o.data with
  | .cls c=>(match c.mro,o.slots.toList with | .ref B::m,[_,_,_,_,some (.builtin n),_]=>B == C&&n == "ValueError.__new__"&&!c.hasDel&&tailIn K vBM m&&nsOkIn K c.ns | _,_=>false)
  | _=>false
section
variable {prog:Program} {w:World} {A:Around} {E:Value->Shared->Prop} {K:Frag} {C:Addr}
end
end L2
namespace L2
open PySem PySem.Spec PySem.Calls PyProof.Rows PySem.W Builtin Builtin.ObjectAttr
section
variable {prog:Program} {w:World} {A:Around} {E:Value->Shared->Prop} {K:Frag} {C x:Addr} {s:Shared}
end
structure XCl (K:Frag)(C:Addr):Prop where
 sh:zgO K C=true
 hd:hasDictIn K C=true
 ga:findIn K (.ref C) "__getattribute__" = some (some (.builtin "BaseException.__getattribute__"))
 gt:findIn K (.ref C) "__getattr__" = some none
 sa:findIn K (.ref C) "__setattr__" = some (some (.builtin "object.__setattr__"))
 ca:findIn K (.ref C) "__class__" = some (some (.builtin "object.__class__"))
 cg:specialIn K (.builtin "object.__class__") "__get__" = some (some (.builtin "getset_descriptor.__get__"))
 ct:takesIn K (.builtin "object.__class__")=some true
section
variable {prog:Program} {w:World} {A:Around} {E:Value->Shared->Prop} {K:Frag} {C x:Addr} {s:Shared} {ox:Obj} {od:Option Obj} {name:Str} {tk:Tok} {fill expr:Bool}
end
end L2
namespace L2
open PySem PySem.Spec PyProof.Rows
noncomputable abbrev XS:=Value->Option Addr->St->Hp->Prop
def Nw (h:Heap)(e:Addr)(c:Value)(d:Option Addr):Prop:=∃ sl vs,h.get? e=some ⟨c,d,.fields vs,sl⟩/\vs[1]? = some .none
def Fl (X:Cx)(E:XS)(e:Value)(s':Shared):Prop:=∃ (ea:Addr) (c:Value) (d:Option Addr) (H':Hp) (pins:List (Addr×Obj)) (σ:St),e=.ref ea/\Inv X pins σ H' s'/\X.s₀.heap.objs.size<=ea/\H' ea=none/\(∀ q∈X.pn,q.1≠ea) /\
 (Nw s'.heap ea c d\/∃ T,Fly s'.heap ea T c d .none/\X.s₀.heap.objs.size<=T/\H' T=none/\∀ q∈X.pn,q.1≠T)/\E c d σ H'
def Thr (X:Cx)(E:XS):Prop:=∀ e s',Fl X E e s'->X.xe e s'
noncomputable def CXE (P:Program)(w:World):CXT:=λouter H s E e s'=>∃ (ea T:Addr) (c:Value) (d:Option Addr) (H':Hp),e=.ref ea/\s.heap.objs.size<=ea/\s.heap.objs.size<=T/\Fly s'.heap ea T c d .none/\H' ea=none/\H' T=none /\
 s'.os=s.os/\AllBare s'.gens/\Un (frs outer) [] H H' s.heap s'.heap/\HOk P w H' s'.heap/\E c d H'
section
variable {X:Cx} {pins:List (Addr×Obj)} {σ:St} {H:Hp} {s s':Shared}
theorem Un.kp {fs fs' ch:Ld}{H H':Hp}{h h1 h2:Heap}(u:Un fs [] H H' h h1)(k:Kp ch fs' h1 h2)(hc:∀ b∈ch,h.objs.size<=b)(hf:∀ b∈fs',b∈fs\/h.objs.size<=b):Un fs [] H H' h h2:=by
 have nc:∀ b o,h.get? b=some o->b∉ch:=λb o q z=>absurd (uI (Heap.lt_size q) (hc b z)) (u9 _)
 refine⟨λb o q n hb _=>?_,λb o q n hb _=>?_,u.free,λb o q _=>?_,u.tups,u.frzs,u.tbls⟩
 ·refine k.keep b o (nc b o q) (λz=>?_) (u.keep b o q n hb (by simp))
  rcases hf b z with z | z
  ·exact hb z
  ·exact absurd (uI (Heap.lt_size q) z) (u9 _)
 ·obtain⟨sl,e1⟩:=u.slot b o q n hb (by simp)
  obtain⟨sl',e2⟩:=k.slot b _ (nc b o q) e1
  exact⟨sl',e2⟩
 ·obtain⟨o',e1⟩:=u.there b o q (by simp)
  obtain⟨sl',e2⟩:=k.slot b _ (nc b o q) e1
  exact⟨_,e2⟩
theorem HOk.kp {P:Program}{w:World}{fs ch:Ld}{h1 h2:Heap}(x:HOk P w H h1)(k:Kp ch fs h1 h2)(hc:∀ b∈ch,H b=none)(hf:∀ b∈fs,H b=none):HOk P w H h2:=λa o q=>
 (x a o q).stay (λb u hb z=>by
  have t:∃ v,H b=some v:=by
   rcases hb with rfl | hb
   ·exact⟨o,q⟩
   ·exact⟨_,hb⟩
  obtain⟨v,t⟩:=t
  exact k.keep b u (λy=>by rw [hc b y] at t;cases t) (λy=>by rw [hf b y] at t;cases t) z) (λ_ z=>z) λ_ _ z=>z
theorem zbh {P:Program}{w:World}{K:Le}{mg:La}{base:Heap}{N:Lh}{qual:Str}{scope:Scope}{f:Addr}{cd:Value}{A:Around}{outer:List Env}{s:Shared}{H:Hp}{E:XK} :
  Thr (cxOf (CXE P w) P w K mg base N qual scope f cd A outer s H E) (λc d _ H'=>E c d H'):=by
 intro e s' hF
 obtain⟨ea,c,d,H',pins,σ,rfl,I,hea,hHe,_,hv,hE⟩:=hF
 have hst:(cxOf (CXE P w) P w K mg base N qual scope f cd A outer s H E).stack=(cxOf (CXE P w) P w K mg base N qual scope f cd A outer s H E).env::outer:=rfl
 have hfr:=I.ok.frames
 have hl:=I.stack
 have hsub:=I.stkSub
 have hfree:=I.stkFree
 rw [hst] at hfr hl hsub hfree
 have fin:∀ (h':Heap) (T:Addr) (ch:Ld),s'.heap.objs.size<=T->Fly h' ea T c d .none->Kp ch (frs ((cxOf (CXE P w) P w K mg base N qual scope f cd A outer s H E).env::outer)) s'.heap h'->(∀ b∈ch,s.heap.objs.size<=b/\H' b=none) ->
   CXE P w outer H s E (.ref ea) { s' with heap:=h' }:=λh' T ch g1 g2 g3 g4=>by
  refine⟨ea,T,c,d,H',rfl,hea,uJ I.sz g1,g2,hHe,I.hok.fresh g1,I.os,I.bare,?_,I.hok.kp g3 (λb hb=>(g4 b hb).2) hfree,hE⟩
  refine Un.kp (fs:=frs outer) I.base g3 (λb hb=>(g4 b hb).1) λb hb=>?_
  rcases um.mp (hsub b hb) with z | z
  ·rw [z];exact .inr I.ok.above
  ·exact .inl z
 rcases hv with⟨sl,vs,he,h1⟩ | ⟨T0,hF,hT,hHT,_⟩
 ·exact VO hfr hl rfl he h1 λh' T g1 g2 g3=>fin h' T [ea] g1 g2 g3 λb hb=>by
   obtain rfl:b=ea:=by simpa using hb
   exact⟨hea,hHe⟩
 ·exact Y2 hfr hl rfl hF λh' T g1 g2 g3=>fin h' T [T0,ea] g1 g2 g3 λb hb=>by
   rcases um.mp hb with z | z
   ·subst z;exact⟨hT,hHT⟩
   ·obtain rfl:b=ea:=by simpa using z
    exact⟨hea,hHe⟩
theorem K3 {E:XS}{e:Value}(I:Inv X pins σ H s)(h:CXE X.prog X.w X.stack H s (λc d H'=>E c d σ H') e s'):Fl X E e s':=by
 obtain⟨ea,T,c,d,H',rfl,h1,h2,hF,n1,n2,ho,hg,hu,hk,hE⟩:=h
 have np:∀ a,s.heap.objs.size<=a->∀ q∈X.pn,q.1≠a:=λa z q hq y=>by
  have:=(I.pin q (uX _ hq)).1
  exact absurd (uI (Heap.lt_size this) (y ▸ z)) (u9 _)
 exact⟨ea,c,d,H',pins,σ,rfl,I.call' ho hu hk hg (λb z=>absurd z (by simp)),uJ I.sz h1,n1,np ea h1,.inr ⟨T,hF,uJ I.sz h2,n2,np T h2⟩,hE⟩
end
structure OkX (P:Program)(w:World)(K:Le)(mg:La)(base:Heap)(k:Nat)(x:Str)(ps:Lh)(sp:Sp):Prop where
 ex:∃ (f:Addr) (fd:FuncData),PySem.W.keepIn K (.ref f)=true/\Binds K fd ps []/\mg x=some (.ref f)/\FnOk P w K mg base (CXE P w) k f fd ps sp
section
variable {P:Program} {w:World} {K:Le} {mg:La} {base:Heap}
theorem Df.okX {x:Str}{st:Stmt}{ps N:Lh}{k:Nat}{sp:Sp}(D:Df K mg x st ps)(Sc:zg N ps (zc st))(len:∀ vs H Q E,sp vs H Q E->vs.length=ps.length)
  (hbody:∀ (f:Addr) (cdv:Value) (A:Around) (outer:List Env) (s:Shared) (H:Hp) (vs:List V) (Q:VK) (E:XK),Room k (A.deeper (envOfC x (zc st) s.heap.objs.size f cdv))->sp vs H Q E ->
   ∃ t,PSs (cxOf (CXE P w) P w K mg base N x (zc st) f cdv A outer s H E) (ze st) t/\t { nx:=λ_ H'=>Q .non H',rt:=Q } (start N vs) H):OkX P w K mg base (k+1) x ps sp:=by
 obtain⟨f,fd,F,b,m⟩:=D.ex
 refine⟨f,fd,F.kp,b,m,?_⟩
 obtain⟨oc,od,kV,doc,pm,an,cdv,ct,osl,rfl,lk,hcd⟩:=F.ex
 exact zb0 lk hcd Sc len λA outer s H vs Q E hr h=>hbody f cdv A outer s H vs Q E hr h
end
section
variable {X:Cx} {k j:Nat} {x:Str} {ps:Lh} {sp:Sp} {p pos:Pos} {e:Expr} {es:Lg} {t:TA} {E:XS}
noncomputable def Jd (sp:Sp)(E:XS)(t:TA):TE:=λσ H Q=>t σ H λvs H1=>sp vs H1 Q λc d H'=>E c d σ H'
theorem QN {f:Addr}{fd:FuncData}{pins:List (Addr×Obj)}{σ:St}{H:Hp}{s:Shared}{Q:VK}{us:Lf}{vs:List V}(F:FnOk X.prog X.w X.K X.mg X.base (CXE X.prog X.w) k f fd ps sp)(hr:Room k X.A)(hb:Binds X.K fd ps [])(hx:Thr X E)
  (I:Inv X pins σ H s) (r:Vals vs us) (h:sp vs H Q λc d H'=>E c d σ H'):wpAny (model X.prog X.w) X.A (call (.ref f) us) (EP X pins σ Q) X.xe s:=by
 have hl:(us++[]).length=ps.length:=by rw [uk,← r.length];exact F.len _ _ _ _ h
 have hb':=hb s us I.kIn hl
 rw [uk] at hb'
 refine wpAny_call (codeAny_mono (F.run X.A X.stack s H ⟨us,[]⟩ us vs Q (λc d H'=>E c d σ H') hr I.env0 hb' r h) λr s' hq=>?_)
 rcases r with e | (u | _ | _ | _)
 ·exact hx e s' (K3 I hq)
 all_goals first | exact I.after hq | exact False.elim hq
theorem zcg (hx:Thr X E)(F:OkX X.prog X.w X.K X.mg X.base k x ps sp)(hr:Room j X.A)(hk:k<=j)(ha:PA X (e::es) t)(hg:Gl X x:=by rfl) (hdb:(x == ("__debug__":Str))=false:=by decide)
  (he:starEach (e::es) X.env=(false,eval e X.env)::starEach es X.env:=by rfl) (hpl:(backTo pos (starEach es X.env)).any (·.1)=false:=by rfl):PE X (.Call (.Name x p) (e::es) [] pos) (Jd sp E t):=by
 intro pins s σ H Q I h
 obtain⟨f,fd,kp,b,m,G⟩:=F.ex
 refine wpAny_Call_Name_kw (Zj I hg m ?_ hdb)
 refine gM (h₀:=X.base) I.ok.mod.kin kp (thn (ha pos pins s σ H _ I h) λus s1 ⟨vs,H1,I1,r,q⟩=>⟨I1.kIn,?_⟩) he hpl
 exact QN G (hr.mono hk) b hx I1 r q
end
end L2
namespace L2
open PySem PySem.Spec PyProof.Rows PySem.W
section
variable {P:Program} {w:World} {H:Hp} {h:Heap} {C d a:Addr}
end
section
variable {X:Cx} {C B:Addr} {b self name:Str} {e a1:Expr} {es:Lg} {te:TE} {t:TA} {np p1 apos cpos pos pos':Pos} {i:Nat}
end
section
variable {X:Cx} {E:XS} {C:Addr} {x f:Str} {pay:V->Prop} {e:Expr} {es:Lg} {t:TA} {np cpos pos:Pos} {j:Nat}
end
section
variable {X:Cx} {pins:List (Addr×Obj)} {σ:St} {H:Hp} {s:Shared}
end
def Je (H:Hp)(a C:Addr)(d:Option Addr):Prop:=∃ o,H a=some (.frz o (.own a))/\o.cls=.ref C/\o.dict=d/\∃ vs,o.data=.fields vs
section
variable {X:Cx} {Dc:Addr} {x n:Str} {i:Nat} {tb:XS->TS} {th:TS} {body suite:List Stmt} {b₀:Stmt} {np hpos pos:Pos}
end
theorem Je.mono {H H':Hp}{a C:Addr}{d:Option Addr}(c:Je H a C d)(s:Same H H'):Je H' a C d:=by
 obtain⟨o,e,r⟩:=c
 exact⟨o,s _ _ e,r⟩
section
variable {X:Cx} {pins:List (Addr×Obj)} {σ:St} {H:Hp} {s:Shared} {a C:Addr} {fs:List (Str×V)}
end
section
variable {X:Cx}
end
section
variable {X:Cx} {k j:Nat} {x:Str} {ps:Lh} {sp:Sp} {p pos:Pos} {e:Expr} {es:Lg} {t:TA} {a:Addr}
end
end L2
namespace L2
open PySem PySem.Spec PySem.Calls PyProof.Rows PySem.W
section
variable {X:Cx}
end
end L2
namespace L2
open PySem PySem.W
end L2
namespace L2
open PySem PySem.Spec PySem.Calls PyProof.Rows PySem.W
section
variable {X:Cx} {pins:List (Addr×Obj)} {σ:St} {H:Hp} {s:Shared} {h':Heap}
theorem Inv.turned2 {t':Nat}{e it:Addr}(I:Inv X pins σ H s)(k:∀ b o,b≠e->b≠it->s.heap.get? b=some o->h'.get? b=some o)(fe:FpOk X pins H e)(fi:FpOk X pins H it) :
  Inv X pins σ H { s with heap:=h',toks:=t' }:=by
 obtain⟨e0,e1,_,e3,e4,e5⟩:=fe
 obtain⟨i0,i1,_,i3,i4,i5⟩:=fi
 have hk:∀ b o,b∉[e,it]->s.heap.get? b=some o->h'.get? b=some o:=λb o hb q=>k b o (λz=>hb (by simp [z])) (λz=>hb (by simp [z])) q
 have nn:∀ b u,H b=some u->b∉[e,it]:=λb u q z=>by
  rcases um.mp z with z | z
  ·rw [z,e0] at q;cases q
  ·rw [ug.mp z,i0] at q;cases q
 refine I.step (g':=s.gens) (d':=s.drawn) (ch:=[e,it]) ?_ (λb o _ _ hc q _=>hk b o hc q) (λb o _ _ hc q _=>⟨o.slots,hk b o hc q⟩) (λ_ _ _ _ n=>n) (λb o hc q=>⟨o,hk b o hc q⟩)
  (λ_ _ q=>q) (λ_ _ _ q=>q) (λb ps q=>⟨#[],by rw [q];simp⟩) ?_ ?_ I.bare
 ·intro b hb
  rcases um.mp hb with z | z
  ·rw [z];exact⟨e3,e1,e4,e5⟩
  ·rw [ug.mp z];exact⟨i3,i1,i4,i5⟩
 ·intro m hm
  obtain⟨o,es,ep,ho,r⟩:=hm
  exact⟨o,es,ep,k _ o (Ne.symm e1) (Ne.symm i1) ho,r⟩
 ·intro b u q
  refine(I.hok b u q).stay (λc v hc z=>hk c v ?_ z) (λ_ z=>z) λ_ _ z=>z
  rcases hc with z' | z'
  ·rw [z'];exact nn b u q
  ·exact nn c _ z'
end
noncomputable def Ite (go:Nat->Hp->Prop)(yv:Nat->Hp->V->Prop)(stop:Nat->Hp->Prop):It:=⟨go,λi H x H'=>∃ p v,H p=none/\yv i H v/\x=.ref p/\H' = upd H p (.tup [.int i,v]),stop⟩
theorem zbi {P:Program}{w:World}{K:Le}{elts:Lg}{ek:Nat}{epos:Pos}{e it:Addr}{go:Nat->Hp->Prop}{yv:Nat->Hp->V->Prop}{stop:Nat->Hp->Prop}{tn:Nat->Heap->Prop}(hne:e≠it)
  (hobj:∀ i h,tn i h->∃ o,h.get? it=some o/\∀ v,o.data≠.cell v)
  (hkeep:∀ i h h',tn i h->(∀ o,h.get? it=some o->h'.get? it=some o)->tn i h')
  (hitem:∀ (X:Cx),X.prog=P->X.w=w->X.K=K->X.calm=true->∀ (i:Nat) (pins:List (Addr×Obj)) (s:Shared) (σ:St) (H:Hp),Inv X pins σ H s->tn i s.heap->go i H->(∃ old,IsEnum s.heap e it i old) ->
   ∃ fp n Pd St,Draws P w X.A.in1 it fp n Pd St/\St i s.heap/\i<n/\e∉fp/\(∀ h,St (i+1) h->tn (i+1) h)/\∀ x,Pd i x->∃ v,RelV v x/\yv i H v)
  (hdone:∀ (X:Cx),X.prog=P->X.w=w->X.K=K->X.calm=true->∀ (i:Nat) (pins:List (Addr×Obj)) (s:Shared) (σ:St) (H:Hp),Inv X pins σ H s->tn i s.heap->stop i H ->
   ∃ fp n Pd St,Draws P w X.A.in1 it fp n Pd St/\St n s.heap) :
  Turn P w K (.Tuple elts ek epos) (Ite go yv stop) [e,it] e (λi h=>(∃ old,IsEnum h e it i old)/\tn i h) where
 mem:=by simp
 obj:=λi h st b hb=>by
  rcases um.mp hb with z | z
  ·obtain⟨⟨old,q⟩,_⟩:=st
   rw [z]
   exact⟨_,q,λv z=>nomatch z⟩
  ·rw [ug.mp z]
   exact hobj i h st.2
 keep:=λi h h' st k=>by
  obtain⟨⟨old,q⟩,st⟩:=st
  exact⟨⟨old,k e (by simp) _ q⟩,hkeep i h h' st (k it (by simp))⟩
 item:=by
  intro X hP hw hK hc i pins s σ H E I hf st hg
  obtain⟨⟨old,q⟩,st⟩:=st
  obtain⟨fp,n,Pd,St,D,hs,hlt,hef,hst,hv⟩:=hitem X hP hw hK hc i pins s σ H I st hg ⟨old,q⟩
  refine wpAny_pyNext_enum_itemD D q hs hlt hne hef λx h1 tk hx ho hs1 hT hsz hk=>⟨_,rfl,?_⟩
  obtain⟨v,rv,yv'⟩:=hv x hx
  have helt:e<s.heap.objs.size:=Heap.lt_size q
  refine wpAny_letOwnedTupleGo_enum ho λh2 he2 hs2=>?_
  have hTe:s.heap.objs.size≠e:=gO helt
  have hT2:h2.get? s.heap.objs.size=some { cls:=.type "tuple",data:=.seq #[.int i tk,x] }:=(hs2.2 _ hTe).trans hT
  have fe:=hf e (by simp)
  have fi:=hf it (by simp)
  have fresh:H s.heap.objs.size=none:=I.hok.fresh (ui _)
  have hit:s.heap.objs.size≠it:=by
   obtain⟨o,z⟩:=D.live _ _ hs
   exact gO (Heap.lt_size z)
  have I0:=I.laid (t':=s.toks) (a:=s.heap.objs.size) (o:=.tup [.int i,v]) (h':=s.heap.push { cls:=.type "tuple",data:=.seq #[.int i tk,x] }) (λb o z=>Heap.get?_push_of_some _ z) (ui _) (by
   refine⟨by show 2<=sizeLine;decide,[.int i tk,x],.cons ⟨tk,rfl⟩ (.cons rv .nil),?_⟩
   exact⟨_,Heap.get?_push_size _ rfl,rfl,_,rfl⟩)
  have fe0:FpOk X pins (upd H s.heap.objs.size (.tup [.int i,v])) e:=⟨by rw [zU (Ne.symm hTe)];exact fe.1,fe.2⟩
  have fi0:FpOk X pins (upd H s.heap.objs.size (.tup [.int i,v])) it:=⟨by rw [zU (Ne.symm hit)];exact fi.1,fi.2⟩
  have I2:=I0.turned2 (h':=h2) (t':=tk+1) (e:=e) (it:=it) (λb o hbe hbi z=>by
   by_cases hb:b=s.heap.objs.size
   ·rw [hb] at z ⊢
    have z':some ({ cls:=.type "tuple",data:=.seq #[.int i tk,x] }:Obj)=some o:=(Heap.get?_push_size _ rfl).symm.trans z
    rw [hT2];exact z'
   ·have z':s.heap.get? b=some o:=by
     have z2:=z
     rw [Heap.get?_push_ne _ _ _ hb] at z2
     exact z2
    exact(hs2.2 b hbe).trans (hk b o hbe hbi z')) fe0 fi0
  refine⟨.ref s.heap.objs.size,upd H s.heap.objs.size (.tup [.int i,v]),I2,rfl,⟨_,v,fresh,yv',rfl,rfl⟩,⟨⟨_,he2⟩,?_⟩,λb hb=>?_⟩
  ·refine hkeep _ _ _ (hst h1 hs1) λo z=>(hs2.2 it (Ne.symm hne)).trans z
  ·rcases um.mp hb with z | z
   ·rw [z];exact fe0.1
   ·rw [ug.mp z];exact fi0.1
 done:=by
  intro X hP hw hK hc i pins s σ H E I hf st hg
  obtain⟨⟨old,q⟩,st⟩:=st
  obtain⟨fp,n,Pd,St,D,hs⟩:=hdone X hP hw hK hc i pins s σ H I st hg
  have fi:=hf it (by simp)
  refine wpAny_pyNext_enum_endD D q hs λh1 hx=>⟨rfl,I.turned (t':=s.toks) (λb o hb z=>hx b o hb z) fi.1 fi.2.1 fi.2.2.2.1 fi.2.2.2.2.1 fi.2.2.2.2.2⟩
 self:=λA i s Q E st h=>by
  obtain⟨⟨old,q⟩,_⟩:=st
  exact wpAny_pyIter_enum q h
section
variable {X:Cx}
noncomputable def goS (x:Str):Nat->Hp->Prop:=λi _=>i<x.cps.size
noncomputable def yvS (x:Str):Nat->Hp->V->Prop:=λi _ v=>∃ c,x.cps[i]? = some c/\v=.str ⟨#[c]⟩
noncomputable def stS (x:Str):Nat->Hp->Prop:=λi _=>x.cps.size<=i
theorem Y3 {P:Program}{w:World}{K:Le}{elts:Lg}{ek:Nat}{epos:Pos}{e it:Addr}(hne:e≠it)(x:Str)(t:Tok) :
  Turn P w K (.Tuple elts ek epos) (Ite (goS x) (yvS x) (stS x)) [e,it] e (λi h=>(∃ old,IsEnum h e it i old)/\(h.IsStrIter it (strIterType x) x t i/\i<=x.cps.size)):=by
 have dr:∀ A:Around,A.handled=none->Draws P w A it [it] x.cps.size (λi v=>∃ c u,x.cps[i]? = some c/\v=.str ⟨#[c]⟩ u) (λi h=>h.IsStrIter it (strIterType x) x t i):=λA hA=>by
  unfold strIterType
  cases ha:x.cps.all (· < 128)
  ·exact Draws.strWide hA it x t
  ·exact Draws.strAscii hA it x t
 refine zbi hne ?_ ?_ ?_ ?_
 ·intro i h st
  obtain⟨o,ho,_,hd⟩:=st.1
  exact⟨o,ho,λv z=>by rw [hd] at z;cases z⟩
 ·intro i h h' st k
  obtain⟨⟨o,ho,r⟩,hl⟩:=st
  exact⟨⟨o,k o ho,r⟩,hl⟩
 ·intro X hP hw hK hc i pins s σ H I st hg he
  refine⟨[it],_,_,_,dr X.A.in1 (I.ok.hd hc),st.1,hg,by simp [hne],λh z=>⟨z,hg⟩,λv hv=>?_⟩
  obtain⟨c,u,hcu,rfl⟩:=hv
  exact⟨.str ⟨#[c]⟩,⟨u,rfl⟩,c,hcu,rfl⟩
 ·intro X hP hw hK hc i pins s σ H I st hg
  have hi:i=x.cps.size:=Nat.le_antisymm st.2 hg
  subst hi
  exact⟨[it],_,_,_,dr X.A.in1 (I.ok.hd hc),st.1⟩
noncomputable def zgP (ta:TA):TI:=λσ H R=>ta σ H λvs H1=>∃ z,vs=[.str z]/\R (Ite (goS z) (yvS z) (stS z)) H1
theorem zch {a:Expr}{ta:TA}{p pos:Pos}{elts:Lg}{ek:Nat}{epos:Pos}(hg:Gl X "enumerate")(hm:X.mg "enumerate" = none)(ha:PA X [a] ta)(hs:starEach [a] X.env=[(false,eval a X.env)]:=by rfl) :
  PI X (.Tuple elts ek epos) (.Call (.Name "enumerate" p) [a] [] pos) (zgP ta):=by
 intro pins s σ H R I h
 refine Call_ (ZT I hg hm boot_enumerate (PyProof.Rows.callWith_type1 (thn (ha pos pins s σ H _ I h) λus s1 ⟨vs,H1,I1,r1,q1⟩=>?_) hs rfl))
 obtain⟨z,e,q⟩:=q1
 subst e
 obtain⟨u,rfl,t,rfl⟩:=r1.one
 refine call_enumerate_str λh' he hit hsz hk=>wpAny_pyIter_enum he ?_
 have hlt:s1.heap.objs.size<=s1.heap.objs.size+1:=UT _
 refine⟨s1.heap.objs.size+1,[s1.heap.objs.size+1,s1.heap.objs.size],_,_,H1,rfl,I1.kept (t':=s1.toks) hk,Y3 (Nat.succ_ne_self _) z t,⟨⟨_,he⟩,hit,uE _⟩,λb hb=>?_,q⟩
 have hb':s1.heap.objs.size<=b:=by
  rcases um.mp hb with z | z
  ·rw [z];exact hlt
  ·rw [ug.mp z];exact ui _
 exact I1.fpOk hb' (I1.hok.fresh hb')
end
section
variable {P:Program} {w:World} {K:Le} {mg:La} {base:Heap}
end
section
variable {X:Cx} {k j:Nat} {x:Str} {ps:Lh} {sp:Sp} {p pos:Pos} {e:Expr} {es:Lg} {t:TA}
end
end L2
namespace L2
open PySem PySem.Spec PyProof.Rows
section
variable {X:Cx} {elt iter:Expr} {x x2:Str} {px py pt pos:Pos} {kt:Nat} {ifs:Lg} {scope:Scope} {wi:TI} {tt:TT} {te:TE}
end
end L2
namespace L2
open PySem PySem.Spec PySem.Calls PyProof.Rows PySem.W
section
variable {X:Cx}
end
theorem zeo:bootBuiltins "list" = some (.type "list"):=by decide +kernel
section
variable {X:Cx}
theorem zep {K:Frag}(hK:X.K=K):OpR X (compareOp .In) (rIn K false):=by subst hK;exact za8
theorem Y4 {K:Frag}(hK:X.K=K):OpR X (compareOp .NotIn) (rIn K true):=by subst hK;exact Xr
theorem Inv.big' {pins:List (Addr×Obj)}{σ:L2.St}{H:Hp}{s:Shared}(I:Inv X pins σ H s):sysModules<s.heap.objs.size:=by
 have h:mainGlobals<s.heap.objs.size:=(I.mod.glob.keeps I.bk).lt
 exact gP (by decide) h
noncomputable def tD0:TE:=λ_ H Q=>∀ p,H p=none->Q (.ref p) (upd H p (.dK []))
theorem ziO {pos:Pos}:PE X (.Dict [] [] pos) tD0:=λpins s σ H Q I h=>
 wpAny_Dict_empty ⟨.ref s.heap.objs.size,_,I.laid (a:=s.heap.objs.size) (o:=.dK []) (t':=s.toks) (λ_ _ q=>Heap.get?_push_of_some _ q) (ui _) ⟨uE _,u3.mpr (Ne.symm (uP I.big')),[],.nil,Heap.DictOf.new s.heap⟩,rfl,h _ (I.hok.fresh (ui _))⟩
end
inductive Dat where
 | fl (v:V)
 | tp (xs:List Dat)
 | ls (xs:List Dat)
mutual
noncomputable def IsDt (H:Hp):Dat->V->Prop
 | .fl x,v=>v=x/\zL x=true
 | .tp ds,v=>∃ a vs,v=.ref a/\H a=some (.tup vs)/\IsDs H ds vs
 | .ls ds,v=>∃ a vs,v=.ref a/\H a=some (.lst vs)/\IsDs H ds vs
noncomputable def IsDs (H:Hp):List Dat->List V->Prop
 | [],vs=>vs=[]
 | d::ds,vs=>∃ v r,vs=v::r/\IsDt H d v/\IsDs H ds r
end
mutual
noncomputable def eqD:Dat->Dat->Bool
 | .fl x,.fl y=>eqV x y
 | .tp xs,.tp ys=>eqDs xs ys
 | .ls xs,.ls ys=>eqDs xs ys
 | .fl _,.tp _=>false
 | .fl _,.ls _=>false
 | .tp _,.fl _=>false
 | .tp _,.ls _=>false
 | .ls _,.fl _=>false
 | .ls _,.tp _=>false
noncomputable def eqDs:List Dat->List Dat->Bool
 | [],[]=>true
 | x::xs,y::ys=>eqD x y&&eqDs xs ys
 | [],_::_=>false
 | _::_,[]=>false
end
mutual
noncomputable def depD:Dat->Nat
 | .fl _=>0
 | .tp xs=>wL xs+1
 | .ls xs=>wL xs+1
noncomputable def wL:List Dat->Nat
 | []=>0
 | d::ds=>max (depD d) (wL ds)
end
mutual
theorem IsDt.mono {H H':Hp}(g:Same H H'):∀ {d:Dat} {v:V},IsDt H d v->IsDt H' d v
 | .fl x,v,h=>by simp only [IsDt] at h ⊢;exact h
 | .tp ds,v,h=>by
  simp only [IsDt] at h ⊢
  obtain⟨a,vs,e,h1,h2⟩:=h
  exact⟨a,vs,e,g _ _ h1,IsDs.mono g h2⟩
 | .ls ds,v,h=>by
  simp only [IsDt] at h ⊢
  obtain⟨a,vs,e,h1,h2⟩:=h
  exact⟨a,vs,e,g _ _ h1,IsDs.mono g h2⟩
theorem IsDs.mono {H H':Hp}(g:Same H H'):∀ {ds:List Dat} {vs:List V},IsDs H ds vs->IsDs H' ds vs
 | [],vs,h=>by simp only [IsDs] at h ⊢;exact h
 | d::ds,vs,h=>by
  simp only [IsDs] at h ⊢
  obtain⟨v,r,e,h1,h2⟩:=h
  exact⟨v,r,e,IsDt.mono g h1,IsDs.mono g h2⟩
end
theorem IsDs.len {H:Hp}:∀ {ds:List Dat} {vs:List V},IsDs H ds vs->ds.length=vs.length
 | [],vs,h=>by simp only [IsDs] at h;subst h;rfl
 | d::ds,vs,h=>by
  simp only [IsDs] at h
  obtain⟨v,r,e,h1,h2⟩:=h
  rw [e,ub,ub,IsDs.len h2]
theorem VP {v:V}(h:zL v=true):eqV v v=true:=by
 cases v<;>simp [eqV,zL] at h ⊢
mutual
theorem Jf {H:Hp}:∀ {d e:Dat} {v:V},IsDt H d v->IsDt H e v->eqD d e=true
 | .fl x,.fl y,v,h,k=>by
  simp only [IsDt] at h k
  obtain⟨rfl,f⟩:=h
  obtain⟨rfl,_⟩:=k
  simp only [eqD]
  exact VP f
 | .tp xs,.tp ys,v,h,k=>by
  simp only [IsDt] at h k
  obtain⟨a,vs,rfl,h1,h2⟩:=h
  obtain⟨b,us,e,k1,k2⟩:=k
  cases e
  rw [h1] at k1
  cases k1
  simp only [eqD]
  exact Z0 h2 k2
 | .ls xs,.ls ys,v,h,k=>by
  simp only [IsDt] at h k
  obtain⟨a,vs,rfl,h1,h2⟩:=h
  obtain⟨b,us,e,k1,k2⟩:=k
  cases e
  rw [h1] at k1
  cases k1
  simp only [eqD]
  exact Z0 h2 k2
 | .fl x,.tp ys,v,h,k=>by
  simp only [IsDt] at h k
  obtain⟨rfl,f⟩:=h
  obtain⟨b,us,rfl,k1,k2⟩:=k
  simp [zL] at f
 | .fl x,.ls ys,v,h,k=>by
  simp only [IsDt] at h k
  obtain⟨rfl,f⟩:=h
  obtain⟨b,us,rfl,k1,k2⟩:=k
  simp [zL] at f
 | .tp xs,.fl y,v,h,k=>by
  simp only [IsDt] at h k
  obtain⟨rfl,f⟩:=k
  obtain⟨b,us,rfl,k1,k2⟩:=h
  simp [zL] at f
 | .ls xs,.fl y,v,h,k=>by
  simp only [IsDt] at h k
  obtain⟨rfl,f⟩:=k
  obtain⟨b,us,rfl,k1,k2⟩:=h
  simp [zL] at f
 | .tp xs,.ls ys,v,h,k=>by
  simp only [IsDt] at h k
  obtain⟨a,vs,rfl,h1,h2⟩:=h
  obtain⟨b,us,e,k1,k2⟩:=k
  cases e
  rw [h1] at k1
  cases k1
 | .ls xs,.tp ys,v,h,k=>by
  simp only [IsDt] at h k
  obtain⟨a,vs,rfl,h1,h2⟩:=h
  obtain⟨b,us,e,k1,k2⟩:=k
  cases e
  rw [h1] at k1
  cases k1
theorem Z0 {H:Hp}:∀ {ds es:List Dat} {vs:List V},IsDs H ds vs->IsDs H es vs->eqDs ds es=true
 | [],[],_,_,_=>rfl
 | d::ds,e::es,vs,h,k=>by
  simp only [IsDs] at h k
  obtain⟨v,r,rfl,h1,h2⟩:=h
  obtain⟨v',r',e',k1,k2⟩:=k
  cases e'
  simp only [eqDs,uQ]
  exact⟨Jf h1 k1,Z0 h2 k2⟩
 | [],e::es,vs,h,k=>by
  simp only [IsDs] at h k
  subst h
  obtain⟨v',r',e',k1,k2⟩:=k
  cases e'
 | d::ds,[],vs,h,k=>by
  simp only [IsDs] at h k
  subst k
  obtain⟨v',r',e',k1,k2⟩:=h
  cases e'
end
mutual
noncomputable def jC:Dat->Bool
 | .fl v=>zL v
 | .tp xs=>vI xs
 | .ls xs=>vI xs
noncomputable def vI:List Dat->Bool
 | []=>true
 | d::ds=>jC d&&vI ds
end
mutual
theorem Jg:∀ {d:Dat},jC d=true->eqD d d=true
 | .fl v,h=>by simp only [eqD];exact VP h
 | .tp xs,h=>by simp only [eqD];simp only [jC] at h;exact Z1 h
 | .ls xs,h=>by simp only [eqD];simp only [jC] at h;exact Z1 h
theorem Z1:∀ {ds:List Dat},vI ds=true->eqDs ds ds=true
 | [],_=>rfl
 | d::ds,h=>by
  simp only [vI,uQ] at h
  simp only [eqDs,uQ]
  exact⟨Jg h.1,Z1 h.2⟩
end
theorem yh:∀ {ds es:List Dat},ds.length≠es.length->eqDs ds es=false
 | [],[],h=>absurd rfl h
 | d::ds,e::es,h=>by
  simp only [eqDs]
  rw [yh (ds:=ds) (es:=es) (by simpa using h),gC]
 | [],_::_,_=>rfl
 | _::_,[],_=>rfl
noncomputable def dGet (ds:List Dat)(j:Nat):Dat:=ds.getD j (.fl .non)
theorem yi:∀ {ds es:List Dat},ds.length=es.length->(List.range ds.length).all (λj=>eqD (dGet ds j) (dGet es j))=eqDs ds es
 | [],[],_=>rfl
 | d::ds,e::es,h=>by
  rw [ub,List.range_succ_eq_map,Ur,List.all_map]
  simp only [eqDs]
  have:=yi (ds:=ds) (es:=es) (by simpa using h)
  rw [← this]
  rfl
 | [],_::_,h=>by simp at h
 | _::_,[],h=>by simp at h
theorem Jh {ds es:List Dat}{n m:Nat}(hn:n=ds.length)(hm:m=es.length):((List.range (min n m)).all (λj=>eqD (dGet ds j) (dGet es j))&&n == m)=eqDs ds es:=by
 subst hn hm
 by_cases h:ds.length=es.length
 ·rw [← h,Nat.min_self,uW,Bool.and_true]
  exact yi h
 ·rw [yh h,u3.mpr h,gC]
section
variable {X:Cx} {pins:List (Addr×Obj)} {σ:L2.St} {H:Hp} {s:Shared}
theorem j0 (I:Inv X pins σ H s){a:Addr}{vs:List V}(h:H a=some (.tup vs)):∃ its:Lf,Vals vs its/\s.heap.IsTuple a its.toArray:=by
 obtain⟨its,r,p,_⟩:=I.tuple (SqT.of h)
 exact⟨its,r,p⟩
theorem jQ (I:Inv X pins σ H s){a:Addr}{vs:List V}(h:H a=some (.lst vs)):∃ its:Lf,Vals vs its/\s.heap.IsList a its.toArray:=by
 obtain⟨its,r,p,_⟩:=I.list (SqL.of h)
 exact⟨its,r,p.isList⟩
mutual
theorem zci (I:Inv X pins σ H s):∀ (d e:Dat) (A:Around) (x y:V) (u w:Value),A.units+depD d<cLine->IsDt H d x->IsDt H e y->RelV x u->RelV y w->SeqAt.EqAt A s u w (eqD d e)
 | .fl x,.fl y,A,x',y',u,w,hu,h,k,ru,rw'=>by
  simp only [IsDt] at h k
  obtain⟨rfl,f⟩:=h
  obtain⟨rfl,g⟩:=k
  simp only [eqD]
  exact zb2 ru rw' f g
 | .tp ds,.tp es,A,x,y,u,w,hu,h,k,ru,rw'=>by
  have hh:=h
  have kk:=k
  simp only [IsDt] at h k
  obtain⟨a,vs,rfl,h1,h2⟩:=h
  obtain⟨b,us,rfl,k1,k2⟩:=k
  cases ru
  cases rw'
  by_cases hab:a=b
  ·subst hab
   rw [Jf hh kk]
   exact SeqAt.EqAt.same _
  obtain⟨i1,r1,p1⟩:=j0 I h1
  obtain⟨i2,r2,p2⟩:=j0 I k1
  simp only [depD] at hu
  refine SeqAt.EqAt.of_refs hab ?_
  have:=SeqAt.RcAt.tuples (A:=A) (e:=λj=>eqD (dGet ds j) (dGet es j)) p1 p2 (by lia) (vJ I ds es A.in1 vs us i1 i2 (by show A.units+1+_<_;lia) h2 k2 r1 r2)
  rw [Jh (by rw [uj,← r1.length,h2.len]) (by rw [uj,← r2.length,k2.len])] at this
  simp only [eqD]
  exact this
 | .ls ds,.ls es,A,x,y,u,w,hu,h,k,ru,rw'=>by
  have hh:=h
  have kk:=k
  simp only [IsDt] at h k
  obtain⟨a,vs,rfl,h1,h2⟩:=h
  obtain⟨b,us,rfl,k1,k2⟩:=k
  cases ru
  cases rw'
  by_cases hab:a=b
  ·subst hab
   rw [Jf hh kk]
   exact SeqAt.EqAt.same _
  obtain⟨i1,r1,p1⟩:=jQ I h1
  obtain⟨i2,r2,p2⟩:=jQ I k1
  have l1:=r1.length
  have l2:=r2.length
  have l3:=h2.len
  have l4:=k2.len
  simp only [depD] at hu
  refine SeqAt.EqAt.of_refs hab ?_
  simp only [eqD]
  by_cases hl:ds.length=es.length
  ·have:=SeqAt.RcAt.lists (A:=A) (e:=λj=>eqD (dGet ds j) (dGet es j)) p1 p2 (by simp;lia) (by lia) (vJ I ds es A.in1 vs us i1 i2 (by show A.units+1+_<_;lia) h2 k2 r1 r2)
   rw [uj,← l1,← l3,yi hl] at this
   exact this
  ·rw [yh hl]
   exact SeqAt.RcAt.lists_lengths p1 p2 (by simp;lia) (by lia)
 | .fl x,.tp es,A,x',y,u,w,hu,h,k,ru,rw'=>by
  simp only [IsDt] at h k
  obtain⟨rfl,f⟩:=h
  obtain⟨b,us,rfl,k1,k2⟩:=k
  cases rw'
  obtain⟨i2,r2,p2⟩:=j0 I k1
  simp only [eqD]
  have hu:A.units<cLine:=by lia
  cases x' with
  | non=>cases ru;exact SeqAt.EqAt.none_tuple p2 hu
  | bl z=>cases ru;exact SeqAt.EqAt.bool_tuple z p2 hu
  | int z=>obtain⟨t,rfl⟩:=ru;exact SeqAt.EqAt.int_tuple z t p2 hu
  | str z=>obtain⟨t,rfl⟩:=ru;exact SeqAt.EqAt.str_tuple z t p2 hu
  | byt z=>simp [zL] at f
  | flt z=>simp [zL] at f
  | ref z=>simp [zL] at f
  | ty z=>simp [zL] at f
 | .fl x,.ls es,A,x',y,u,w,hu,h,k,ru,rw'=>by
  simp only [IsDt] at h k
  obtain⟨rfl,f⟩:=h
  obtain⟨b,us,rfl,k1,k2⟩:=k
  cases rw'
  obtain⟨i2,r2,p2⟩:=jQ I k1
  simp only [eqD]
  have hu:A.units<cLine:=by lia
  cases x' with
  | non=>cases ru;exact SeqAt.EqAt.none_list p2 hu
  | bl z=>cases ru;exact SeqAt.EqAt.bool_list z p2 hu
  | int z=>obtain⟨t,rfl⟩:=ru;exact SeqAt.EqAt.int_list z t p2 hu
  | str z=>obtain⟨t,rfl⟩:=ru;exact SeqAt.EqAt.str_list z t p2 hu
  | byt z=>simp [zL] at f
  | flt z=>simp [zL] at f
  | ref z=>simp [zL] at f
  | ty z=>simp [zL] at f
 | .tp ds,.fl y,A,x,y',u,w,hu,h,k,ru,rw'=>by
  simp only [IsDt] at h k
  obtain⟨rfl,f⟩:=k
  obtain⟨b,us,rfl,k1,k2⟩:=h
  cases ru
  obtain⟨i2,r2,p2⟩:=j0 I k1
  simp only [eqD]
  have hu:A.units<cLine:=by lia
  cases y' with
  | non=>cases rw';exact SeqAt.EqAt.tuple_none p2 hu
  | bl z=>cases rw';exact SeqAt.EqAt.tuple_bool z p2 hu
  | int z=>obtain⟨t,rfl⟩:=rw';exact SeqAt.EqAt.tuple_int z t p2 hu
  | str z=>obtain⟨t,rfl⟩:=rw';exact SeqAt.EqAt.tuple_str z t p2 hu
  | byt z=>simp [zL] at f
  | flt z=>simp [zL] at f
  | ref z=>simp [zL] at f
  | ty z=>simp [zL] at f
 | .ls ds,.fl y,A,x,y',u,w,hu,h,k,ru,rw'=>by
  simp only [IsDt] at h k
  obtain⟨rfl,f⟩:=k
  obtain⟨b,us,rfl,k1,k2⟩:=h
  cases ru
  obtain⟨i2,r2,p2⟩:=jQ I k1
  simp only [eqD]
  have hu:A.units<cLine:=by lia
  cases y' with
  | non=>cases rw';exact SeqAt.EqAt.list_none p2 hu
  | bl z=>cases rw';exact SeqAt.EqAt.list_bool z p2 hu
  | int z=>obtain⟨t,rfl⟩:=rw';exact SeqAt.EqAt.list_int z t p2 hu
  | str z=>obtain⟨t,rfl⟩:=rw';exact SeqAt.EqAt.list_str z t p2 hu
  | byt z=>simp [zL] at f
  | flt z=>simp [zL] at f
  | ref z=>simp [zL] at f
  | ty z=>simp [zL] at f
 | .tp ds,.ls es,A,x,y,u,w,hu,h,k,ru,rw'=>by
  simp only [IsDt] at h k
  obtain⟨a,vs,rfl,h1,h2⟩:=h
  obtain⟨b,us,rfl,k1,k2⟩:=k
  cases ru
  cases rw'
  obtain⟨i1,r1,p1⟩:=j0 I h1
  obtain⟨i2,r2,p2⟩:=jQ I k1
  simp only [eqD]
  exact SeqAt.EqAt.tuple_list p1 p2 (by lia)
 | .ls ds,.tp es,A,x,y,u,w,hu,h,k,ru,rw'=>by
  simp only [IsDt] at h k
  obtain⟨a,vs,rfl,h1,h2⟩:=h
  obtain⟨b,us,rfl,k1,k2⟩:=k
  cases ru
  cases rw'
  obtain⟨i1,r1,p1⟩:=jQ I h1
  obtain⟨i2,r2,p2⟩:=j0 I k1
  simp only [eqD]
  exact SeqAt.EqAt.list_tuple p1 p2 (by lia)
theorem vJ (I:Inv X pins σ H s):∀ (ds es:List Dat) (A:Around) (xs ys:List V) (us ws:Lf),A.units+wL ds<cLine->IsDs H ds xs->IsDs H es ys->Vals xs us->Vals ys ws ->
  ∀ j (h1:j<us.toArray.size) (h2:j<ws.toArray.size),SeqAt.EqAt A s us.toArray[j] ws.toArray[j] (eqD (dGet ds j) (dGet es j))
 | [],es,A,xs,ys,us,ws,hu,h,k,ru,rw',j,h1,h2=>by
  simp only [IsDs] at h
  subst h
  have:=ru.length
  rw [uj] at h1
  simp at this
  lia
 | d::ds,[],A,xs,ys,us,ws,hu,h,k,ru,rw',j,h1,h2=>by
  simp only [IsDs] at k
  subst k
  have:=rw'.length
  rw [uj] at h2
  simp at this
  lia
 | d::ds,e::es,A,xs,ys,us,ws,hu,h,k,ru,rw',j,h1,h2=>by
  simp only [IsDs] at h k
  obtain⟨v,r,rfl,a1,a2⟩:=h
  obtain⟨v',r',rfl,b1,b2⟩:=k
  simp only [wL] at hu
  cases ru with
  | cons q1 q2=>
   cases rw' with
   | cons q3 q4=>
    cases j with
    | zero=>exact zci I d e A _ _ _ _ (by omega) a1 b1 q1 q3
    | succ j=>
     have:=vJ I ds es A _ _ _ _ (by lia) a2 b2 q2 q4 j (by simpa using h1) (by simpa using h2)
     simpa [dGet] using this
end
end
section
variable {X:Cx}
noncomputable def rEqD:R2:=λx y H Q=>∃ d e a b,x=.ref a/\y=.ref b/\IsDt H d (.ref a)/\IsDt H e (.ref b)/\depD d<=50/\Q (.bl (eqD d e)) H
noncomputable def rNeD:R2:=λx y H Q=>∃ d e a b,x=.ref a/\y=.ref b/\IsDt H d (.ref a)/\IsDt H e (.ref b)/\depD d<=50/\Q (.bl (!eqD d e)) H
theorem zgQ (hu:X.A.units+64<cLine):OpR X (compareOp .Eq) rEqD:=by
 intro pins s σ H x y v u Q I rx ry h
 obtain⟨d,e,a,b,rfl,rfl,h,k,hd,q⟩:=h
 cases rx
 cases ry
 match d,e,h,k,hd,q with
 | .tp ds,.tp es,h,k,hd,q=>
  simp only [IsDt] at h k
  obtain⟨_,vs,e1,h1,h2⟩:=h
  obtain⟨_,us,e2,k1,k2⟩:=k
  cases e1
  cases e2
  obtain⟨i1,r1,p1⟩:=j0 I h1
  obtain⟨i2,r2,p2⟩:=j0 I k1
  simp only [depD] at hd
  refine SeqAt.eq_tupleAt (e:=λj=>eqD (dGet ds j) (dGet es j)) p1 p2 (by lia) (vJ I ds es X.A.in1 vs us i1 i2 (by show X.A.units+1+_<_;lia) h2 k2 r1 r2) ⟨.bl _,H,I,rfl,?_⟩
  rw [Jh (by rw [uj,← r1.length,h2.len]) (by rw [uj,← r2.length,k2.len])]
  exact q
 | .ls ds,.ls es,h,k,hd,q=>
  simp only [IsDt] at h k
  obtain⟨_,vs,e1,h1,h2⟩:=h
  obtain⟨_,us,e2,k1,k2⟩:=k
  cases e1
  cases e2
  obtain⟨i1,r1,p1⟩:=jQ I h1
  obtain⟨i2,r2,p2⟩:=jQ I k1
  have l1:=r1.length
  have l2:=r2.length
  have l3:=h2.len
  have l4:=k2.len
  simp only [depD] at hd
  by_cases hl:ds.length=es.length
  ·refine SeqAt.eq_listAt (e:=λj=>eqD (dGet ds j) (dGet es j)) p1 p2 (by simp;lia) (by lia) (vJ I ds es X.A.in1 vs us i1 i2 (by show X.A.units+1+_<_;lia) h2 k2 r1 r2) ⟨.bl _,H,I,rfl,?_⟩
   rw [uj,← l1,← l3,yi hl]
   exact q
  ·refine SeqAt.eq_list_lengthsAt p1 p2 (by simp;lia) (by lia) ⟨.bl _,H,I,rfl,?_⟩
   simp only [eqD] at q
   rw [yh hl] at q
   exact q
 | .tp ds,.ls es,h,k,hd,q=>
  simp only [IsDt] at h k
  obtain⟨_,vs,e1,h1,h2⟩:=h
  obtain⟨_,us,e2,k1,k2⟩:=k
  cases e1
  cases e2
  obtain⟨i1,r1,p1⟩:=j0 I h1
  obtain⟨i2,r2,p2⟩:=jQ I k1
  exact SeqAt.RcAt.tuple_list p1 p2 (by lia) _ _ _ _ ⟨.bl _,H,I,rfl,q⟩
 | .ls ds,.tp es,h,k,hd,q=>
  simp only [IsDt] at h k
  obtain⟨_,vs,e1,h1,h2⟩:=h
  obtain⟨_,us,e2,k1,k2⟩:=k
  cases e1
  cases e2
  obtain⟨i1,r1,p1⟩:=jQ I h1
  obtain⟨i2,r2,p2⟩:=j0 I k1
  exact SeqAt.RcAt.list_tuple p1 p2 (by lia) _ _ _ _ ⟨.bl _,H,I,rfl,q⟩
 | .fl x,e,h,k,hd,q=>simp only [IsDt] at h;obtain⟨rfl,f⟩:=h;simp [zL] at f
 | .tp ds,.fl x,h,k,hd,q=>simp only [IsDt] at k;obtain⟨rfl,f⟩:=k;simp [zL] at f
 | .ls ds,.fl x,h,k,hd,q=>simp only [IsDt] at k;obtain⟨rfl,f⟩:=k;simp [zL] at f
theorem zgR (hu:X.A.units+64<cLine):OpR X (compareOp .NotEq) rNeD:=by
 intro pins s σ H x y v u Q I rx ry h
 obtain⟨d,e,a,b,rfl,rfl,h,k,hd,q⟩:=h
 cases rx
 cases ry
 match d,e,h,k,hd,q with
 | .tp ds,.tp es,h,k,hd,q=>
  simp only [IsDt] at h k
  obtain⟨_,vs,e1,h1,h2⟩:=h
  obtain⟨_,us,e2,k1,k2⟩:=k
  cases e1
  cases e2
  obtain⟨i1,r1,p1⟩:=j0 I h1
  obtain⟨i2,r2,p2⟩:=j0 I k1
  simp only [depD] at hd
  refine SeqAt.RcNeAt.tuples (e:=λj=>eqD (dGet ds j) (dGet es j)) p1 p2 (by lia) (vJ I ds es X.A.in1 vs us i1 i2 (by show X.A.units+1+_<_;lia) h2 k2 r1 r2) _ _ _ _ ⟨.bl _,H,I,rfl,?_⟩
  rw [Jh (by rw [uj,← r1.length,h2.len]) (by rw [uj,← r2.length,k2.len])]
  exact q
 | .ls ds,.ls es,h,k,hd,q=>
  simp only [IsDt] at h k
  obtain⟨_,vs,e1,h1,h2⟩:=h
  obtain⟨_,us,e2,k1,k2⟩:=k
  cases e1
  cases e2
  obtain⟨i1,r1,p1⟩:=jQ I h1
  obtain⟨i2,r2,p2⟩:=jQ I k1
  have l1:=r1.length
  have l2:=r2.length
  have l3:=h2.len
  have l4:=k2.len
  simp only [depD] at hd
  by_cases hl:ds.length=es.length
  ·refine SeqAt.RcNeAt.lists (e:=λj=>eqD (dGet ds j) (dGet es j)) p1 p2 (by simp;lia) (by lia) (vJ I ds es X.A.in1 vs us i1 i2 (by show X.A.units+1+_<_;lia) h2 k2 r1 r2) _ _ _ _ ⟨.bl _,H,I,rfl,?_⟩
   rw [uj,← l1,← l3,yi hl]
   exact q
  ·refine SeqAt.RcNeAt.lists_lengths p1 p2 (by simp;lia) (by lia) _ _ _ _ ⟨.bl _,H,I,rfl,?_⟩
   simp only [eqD] at q
   rw [yh hl] at q
   exact q
 | .tp ds,.ls es,h,k,hd,q=>
  simp only [IsDt] at h k
  obtain⟨_,vs,e1,h1,h2⟩:=h
  obtain⟨_,us,e2,k1,k2⟩:=k
  cases e1
  cases e2
  obtain⟨i1,r1,p1⟩:=j0 I h1
  obtain⟨i2,r2,p2⟩:=jQ I k1
  exact SeqAt.RcNeAt.tuple_list p1 p2 (by lia) _ _ _ _ ⟨.bl _,H,I,rfl,q⟩
 | .ls ds,.tp es,h,k,hd,q=>
  simp only [IsDt] at h k
  obtain⟨_,vs,e1,h1,h2⟩:=h
  obtain⟨_,us,e2,k1,k2⟩:=k
  cases e1
  cases e2
  obtain⟨i1,r1,p1⟩:=jQ I h1
  obtain⟨i2,r2,p2⟩:=j0 I k1
  exact SeqAt.RcNeAt.list_tuple p1 p2 (by lia) _ _ _ _ ⟨.bl _,H,I,rfl,q⟩
 | .fl x,e,h,k,hd,q=>simp only [IsDt] at h;obtain⟨rfl,f⟩:=h;simp [zL] at f
 | .tp ds,.fl x,h,k,hd,q=>simp only [IsDt] at k;obtain⟨rfl,f⟩:=k;simp [zL] at f
 | .ls ds,.fl x,h,k,hd,q=>simp only [IsDt] at k;obtain⟨rfl,f⟩:=k;simp [zL] at f
end
noncomputable abbrev Tx:=Lc
noncomputable def tx (x:Tx):V:=.str (S x)
noncomputable abbrev lt:Tx:=[97,98,99,100,101,102,103,104,105,106,107,108,109,110,111,112,113,114,115,116,117,118,119,120,121,122]
end L2
namespace L2
open PySem PySem.Spec PyProof.Rows
section
variable {κ:Type} [DecidableEq κ]
noncomputable def valV (kvs:List (κ×V))(k:κ):Option V:=(kvs.find? λkv=>decide (kv.1=k)).map (·.2)
noncomputable def putK (kvs:List (κ×V))(k:κ)(v:V):List (κ×V):=
 if (kvs.any λkv=>decide (kv.1=k))=true then kvs.map (λkv=>if kv.1=k then(kv.1,v) else kv) else kvs++[(k,v)]
theorem yj {p:κ×V}{r:List (κ×V)}{k:κ}(e:p.1=k):valV (p::r) k=some p.2:=by simp [valV,Uy,e]
theorem vq {p:κ×V}{r:List (κ×V)}{k:κ}(e:¬ p.1=k):valV (p::r) k=valV r k:=by simp [valV,Uy,e]
theorem VQ (k:κ):∀ kvs:List (κ×V),(kvs.any λkv=>decide (kv.1=k))=(valV kvs k).isSome
 | []=>rfl
 | p::r=>by
  rw [Us]
  by_cases e:p.1=k
  ·simp only [yj e,uS e,Bool.true_or,Option.isSome_some]
  ·rw [vq e,uq e,U9];exact VQ k r
theorem yk (kvs:List (κ×V))(k:κ)(v:V):(putK kvs k v).length<=kvs.length+1:=by
 unfold putK
 split
 ·rw [ue];lia
 ·rw [ua,ub,uc];lia
theorem RelO.isSome_eq {o:Option V}{u:Option Value}(r:RelO o u):o.isSome=u.isSome:=by
 cases o with
 | none=>cases u with
  | none=>rfl
  | some _=>exact(show False from r).elim
 | some _=>cases u with
  | none=>exact(show False from r).elim
  | some _=>rfl
theorem RelO.getD {o:Option V}{u:Option Value}{d:V}{d':Value}(r:RelO o u)(rd:RelV d d'):RelV (o.getD d) (u.getD d'):=by
 cases o with
 | none=>cases u with
  | none=>exact rd
  | some _=>exact(show False from r).elim
 | some _=>cases u with
  | none=>exact(show False from r).elim
  | some _=>exact r
theorem KV.val {kvs:List (κ×V)}{vs:List (κ×Value)}(r:KV kvs vs)(k:κ):RelO (valV kvs k) (valueAt vs k):=by
 unfold KV at r
 induction r with
 | nil=>exact True.intro
 | @cons p q ps qs h t ih=>
  obtain⟨h1,h2⟩:=h
  by_cases e:p.1=k
  ·have e':q.1=k:=h1.symm.trans e
   have b:valueAt (q::qs) k=some q.2:=by simp [valueAt,Uy,e']
   rw [yj e,b];exact h2
  ·have e':¬ q.1=k:=λz=>e (h1.trans z)
   have b:valueAt (q::qs) k=valueAt qs k:=by simp [valueAt,Uy,e']
   rw [vq e,b];exact ih
theorem KV.any {kvs:List (κ×V)}{vs:List (κ×Value)}(r:KV kvs vs)(k:κ):(kvs.any λkv=>decide (kv.1=k))=vs.any λkv=>decide (kv.1=k):=by
 unfold KV at r
 induction r with
 | nil=>rfl
 | cons h t ih=>rw [Us,Us,ih,h.1]
theorem KV.repl {kvs:List (κ×V)}{vs:List (κ×Value)}(r:KV kvs vs)(k:κ){y:V}{u:Value}(ry:RelV y u) :
  KV (kvs.map λkv=>if kv.1=k then(kv.1,y) else kv) (vs.map λkv=>if kv.1=k then(kv.1,u) else kv):=by
 unfold KV at r ⊢
 induction r with
 | nil=>exact .nil
 | @cons p q ps qs h t ih=>
  rw [uo,uo]
  refine .cons ?_ ih
  obtain⟨h1,h2⟩:=h
  by_cases e:p.1=k
  ·rw [uw e,uw (h1.symm.trans e)];exact⟨h1,ry⟩
  ·rw [uv e,uv (λz=>e (h1.trans z))];exact⟨h1,h2⟩
theorem KV.put {kvs:List (κ×V)}{vs:List (κ×Value)}(r:KV kvs vs)(k:κ){y:V}{u:Value}(ry:RelV y u):KV (putK kvs k y) (stored vs k u):=by
 unfold putK stored
 rw [r.any k]
 by_cases e:(vs.any λkv=>decide (kv.1=k))=true
 ·rw [uw e,uw e];exact r.repl k ry
 ·rw [uv e,uv e];exact Paired.snoc r ⟨rfl,ry⟩
theorem KV.length {kvs:List (κ×V)}{vs:List (κ×Value)}(r:KV kvs vs):kvs.length=vs.length:=Paired.length r
end
theorem Zo {P:Program}{w:World}{k:Key}{u:Value}(r:RelV (kV k) u):(zE P w).is k u=true:=by
 cases k with
 | inl i=>obtain⟨t,e⟩:=(show ∃ t,u=Value.int i t from r);subst e;exact VB P w i t
 | inr x=>obtain⟨t,e⟩:=(show ∃ t,u=Value.str x t from r);subst e;exact VC P w x t
theorem WQ {P:Program}{w:World}:∀ {ks:List Key} {us:Lf},Vals (ks.map kV) us->ItemsAre (zE P w) ks us
 | [],_,r=>by rw [Uw] at r;cases r;exact .nil
 | k::ks,_,r=>by
  rw [uo] at r
  cases r with
  | cons h t=>exact .cons (Zo h) (WQ t)
noncomputable abbrev KT (H:Hp):List (List Key×V)->List (List Key×Addr×Value)->Prop:=Paired λp q=>p.1=q.1/\H q.2.1=some (.tup (p.1.map kV))/\RelV p.2 q.2.2
theorem KT.val {H:Hp}{kvs:List (List Key×V)}{xs:List (List Key×Addr×Value)}(r:KT H kvs xs)(k:List Key):RelO (valV kvs k) ((atKey xs k).map (·.2)):=by
 induction r with
 | nil=>exact True.intro
 | @cons p q ps qs h t ih=>
  obtain⟨h1,_,h2⟩:=h
  by_cases e:p.1=k
  ·have e':q.1=k:=h1.symm.trans e
   have b:atKey (q::qs) k=some q.2:=by simp [atKey,Uy,e']
   rw [yj e,b];exact h2
  ·have e':¬ q.1=k:=λz=>e (h1.trans z)
   have b:atKey (q::qs) k=atKey qs k:=by simp [atKey,Uy,e']
   rw [vq e,b];exact ih
theorem KT.repl {H:Hp}{kvs:List (List Key×V)}{xs:List (List Key×Addr×Value)}(r:KT H kvs xs)(k:List Key){y:V}{u:Value}(ry:RelV y u) :
  KT H (kvs.map λkv=>if kv.1=k then(kv.1,y) else kv) (xs.map (putAt k u)):=by
 induction r with
 | nil=>exact .nil
 | @cons p q ps qs h t ih=>
  rw [uo,uo]
  refine .cons ?_ ih
  obtain⟨h1,h2,h3⟩:=h
  unfold putAt
  by_cases e:p.1=k
  ·rw [uw e,uw (h1.symm.trans e)];exact⟨h1,h2,ry⟩
  ·rw [uv e,uv (λz=>e (h1.trans z))];exact⟨h1,h2,h3⟩
theorem KT.put {H:Hp}{kvs:List (List Key×V)}{xs:List (List Key×Addr×Value)}(r:KT H kvs xs)(k:List Key){b:Addr}{y:V}{u:Value}(hb:H b=some (.tup (k.map kV)))(ry:RelV y u) :
  KT H (putK kvs k y) (storedH xs k b u):=by
 have e:(kvs.any λkv=>decide (kv.1=k))=(atKey xs k).isSome:=by
  rw [VQ,(r.val k).isSome_eq,gQ]
 unfold putK storedH
 rw [e]
 by_cases q:(atKey xs k).isSome=true
 ·rw [uw q,uw q];exact r.repl k ry
 ·rw [uv q,uv q];exact Paired.snoc r ⟨rfl,hb,ry⟩
theorem KT.keeps {H H':Hp}{kvs:List (List Key×V)}{xs:List (List Key×Addr×Value)}(r:KT H kvs xs)(ht:∀ b ys,H b=some (.tup ys)->H' b=some (.tup ys)):KT H' kvs xs:=
 Paired.mapP r λ_ _ z=>⟨z.1,ht _ _ z.2.1,z.2.2⟩
section
variable {P:Program} {w:World} {H:Hp} {h:Heap} {a:Addr}
theorem zfB {u:HO}(ok:HOk P w H h)(e:Rd H a u):zZ P w H h a u:=e.ok ok
theorem Ji {kvs:List (Key×V)}(ok:HOk P w H h)(e:Rd H a (.dK kvs)):kvs.length<=sizeLine/\(a == sysModules)=false/\∃ vs,KV kvs vs/\h.DictOf (zE P w) a vs:=
 show zZ P w H h a (.dK kvs) from zfB ok e
theorem WR {kvs:List (Key×V)}(ok:HOk P w H h)(e:H a=some (.dK kvs)):kvs.length<=sizeLine/\(a == sysModules)=false/\∃ vs,KV kvs vs/\h.DictOf (zE P w) a vs:=Ji ok (.inl e)
theorem Z2 {ks:List Key}(ok:HOk P w H h)(e:H a=some (.tup (ks.map kV))):(tupleKind (zE P w)).is h ks a:=by
 obtain⟨_,its,r,o,h1,h2,n,h3⟩:=(show zZ P w H h a (.tup (ks.map kV)) from ok a _ e)
 exact⟨o,its.toArray,n,h1,h2,h3,by simpa using WQ r⟩
theorem Jj {kvs:List (List Key×V)}(ok:HOk P w H h)(e:Rd H a (.dT kvs)):kvs.length<=sizeLine/\(a == sysModules)=false /\
  ∃ xs,KT H kvs xs/\h.DictOfH (tupleKind (zE P w)) a xs:=by
 obtain⟨z,y,xs,r,o,es,ep,h1,h2,h3,h4,h5⟩:=(show zZ P w H h a (.dT kvs) from zfB ok e)
 refine⟨z,y,xs,r,o,es,ep,h1,h2,h3,h4,λx hx=>?_,h5⟩
 have all:∀ {l:List (List Key×V)} {m:List (List Key×Addr×Value)},KT H l m->∀ x∈m,(tupleKind (zE P w)).is h x.1 x.2.1:=by
  intro l m q
  induction q with
  | nil=>intro x hx;exact nomatch hx
  | @cons p q ps qs hq t ih=>
   intro x hx
   rcases um.mp hx with e | hx
   ·subst e
    exact Z2 ok (by rw [← hq.1];exact hq.2.1)
   ·exact ih x hx
 exact all r x hx
theorem ziP {kvs:List (List Key×V)}(ok:HOk P w H h)(e:H a=some (.dT kvs)):kvs.length<=sizeLine/\(a == sysModules)=false /\
  ∃ xs,KT H kvs xs/\h.DictOfH (tupleKind (zE P w)) a xs:=Jj ok (.inl e)
end
def DGet (H:Hp)(a:Addr)(y:V)(r:Option V):Prop:=
 (∃ kvs k,Rd H a (.dK kvs)/\y=kV k/\r=valV kvs k)\/∃ kvs k b,Rd H a (.dT kvs)/\y=.ref b/\H b=some (.tup (k.map kV))/\r=valV kvs k
def DPut (H:Hp)(a:Addr)(y v:V)(H':Hp):Prop:=
 (∃ kvs k,H a=some (.dK kvs)/\y=kV k/\kvs.length<sizeLine/\H' = upd H a (.dK (putK kvs k v))) \/
 ∃ kvs k b,H a=some (.dT kvs)/\y=.ref b/\H b=some (.tup (k.map kV))/\kvs.length<sizeLine/\H' = upd H a (.dT (putK kvs k v))
theorem DGet.k {H:Hp}{a:Addr}{kvs:List (Key×V)}{k:Key}(e:H a=some (.dK kvs)):DGet H a (kV k) (valV kvs k):=.inl ⟨kvs,k,.inl e,rfl,rfl⟩
theorem DGet.t {H:Hp}{a b:Addr}{kvs:List (List Key×V)}{k:List Key}(e:H a=some (.dT kvs))(eb:H b=some (.tup (k.map kV))):DGet H a (.ref b) (valV kvs k):=.inr ⟨kvs,k,b,.inl e,rfl,eb,rfl⟩
theorem DPut.k {H:Hp}{a:Addr}{kvs:List (Key×V)}{k:Key}{v:V}(e:H a=some (.dK kvs))(hl:kvs.length<sizeLine):DPut H a (kV k) v (upd H a (.dK (putK kvs k v))):=.inl ⟨kvs,k,e,rfl,hl,rfl⟩
theorem DPut.t {H:Hp}{a b:Addr}{kvs:List (List Key×V)}{k:List Key}{v:V}(e:H a=some (.dT kvs))(eb:H b=some (.tup (k.map kV)))(hl:kvs.length<sizeLine) :
  DPut H a (.ref b) v (upd H a (.dT (putK kvs k v))):=.inr ⟨kvs,k,b,e,rfl,eb,hl,rfl⟩
section
variable {X:Cx} {pins:List (Addr×Obj)} {σ:St} {H:Hp} {s:Shared} {a:Addr} {y v:V} {u r:Value} {o:Option V} {A:Around} {E:Value->Shared->Prop}
theorem Inv.big (I:Inv X pins σ H s):sysModules<s.heap.objs.size:=by
 have h:mainGlobals<s.heap.objs.size:=(I.mod.glob.keeps I.bk).lt
 exact gP (by decide) h
theorem zbj {Q:Value->Shared->Prop}(hu:A.units+1<cLine)(I:Inv X pins σ H s)(g:DGet H a y (some v))(ry:RelV y u)(h:∀ w' s',Inv X pins σ H s'->RelV v w'->Q w' s') :
  wpAny (model X.prog X.w) A (getItem (.ref a) u) Q E s:=by
 rcases g with⟨kvs,k,e,ey,l⟩ | ⟨kvs,k,b,e,ey,eb,l⟩
 ·subst ey
  obtain⟨z,hd,vs,rel,dd⟩:=Ji I.hok e
  obtain⟨w',hw,rw'⟩:=RelO.some_of (v:=v) (o:=valueAt vs k) (by rw [l];exact rel.val k)
  exact wpAny_getItem_of (Zo ry) dd.mapOf hw (h w' _ (I.tok _) rw')
 ·subst ey
  cases (show u=Value.ref b from ry)
  obtain⟨z,hd,xs,rel,dd⟩:=Jj I.hok e
  obtain⟨w',hw,rw'⟩:=RelO.some_of (v:=v) (o:=(atKey xs k).map (·.2)) (by rw [l];exact rel.val k)
  obtain⟨p,hp,hp2⟩:=uz.mp hw
  refine wpAny_getItem_heap (tupleKind_room_in1 hu) (Z2 I.hok eb) dd hp ?_
  rw [hp2]
  exact h w' _ (I.tok _) rw'
theorem d_in {Q:Value->Shared->Prop}(hu:A.units+1<cLine)(I:Inv X pins σ H s)(g:DGet H a y o)(ry:RelV y u)(h:∀ s',Inv X pins σ H s'->Q (.bool o.isSome) s') :
  wpAny (model X.prog X.w) A (compareOp .In u (.ref a)) Q E s:=by
 rcases g with⟨kvs,k,e,ey,l⟩ | ⟨kvs,k,b,e,ey,eb,l⟩
 ·subst ey
  obtain⟨z,hd,vs,rel,dd⟩:=Ji I.hok e
  refine wpAny_in_of (Zo ry) hd dd.mapOf ?_
  rw [← (rel.val k).isSome_eq,← l]
  exact h _ (I.tok _)
 ·subst ey
  cases (show u=Value.ref b from ry)
  obtain⟨z,hd,xs,rel,dd⟩:=Jj I.hok e
  refine wpAny_in_heap (tupleKind_room_in1 hu) (Z2 I.hok eb) hd dd ?_
  have q:=(rel.val k).isSome_eq
  rw [gQ] at q
  rw [← q,← l]
  exact h _ (I.tok _)
theorem zeq {Q:Value->Shared->Prop}(hu:A.units+1<cLine)(I:Inv X pins σ H s)(g:DGet H a y o)(ry:RelV y u)(h:∀ s',Inv X pins σ H s'->Q (.bool (!o.isSome)) s') :
  wpAny (model X.prog X.w) A (compareOp .NotIn u (.ref a)) Q E s:=by
 rcases g with⟨kvs,k,e,ey,l⟩ | ⟨kvs,k,b,e,ey,eb,l⟩
 ·subst ey
  obtain⟨z,hd,vs,rel,dd⟩:=Ji I.hok e
  refine wpAny_notIn_of (Zo ry) hd dd.mapOf ?_
  rw [← (rel.val k).isSome_eq,← l]
  exact h _ (I.tok _)
 ·subst ey
  cases (show u=Value.ref b from ry)
  obtain⟨z,hd,xs,rel,dd⟩:=Jj I.hok e
  refine wpAny_notIn_heap (tupleKind_room_in1 hu) (Z2 I.hok eb) hd dd ?_
  have q:=(rel.val k).isSome_eq
  rw [gQ] at q
  rw [← q,← l]
  exact h _ (I.tok _)
theorem Xv {h':Heap}{t':Nat}{ob:HO}(I:Inv X pins σ H s)(mu:Mut (H a))(hs:Heap.SameBut a s.heap h')(he:∃ q,h'.get? a=some q)(new:zZ X.prog X.w (upd H a ob) h' a ob) :
  Inv X pins σ (upd H a ob) { s with heap:=h',toks:=t' }:=
 I.write (x:=a) (e:=a) mu (.inl rfl) (λb q hb z=>(hs.2 b hb).trans z) he new
theorem Y5 {P:Program}{w:World}{H':Hp}{h':Heap}{kvs:List (Key×V)}{vs:List (Key×Value)}(z:kvs.length<=sizeLine)(hd:(a == sysModules)=false)(rel:KV kvs vs)(dd:h'.DictOf (zE P w) a vs) :
  zZ P w H' h' a (.dK kvs):=⟨z,hd,vs,rel,dd⟩
theorem zbk {H':Hp}{Q:Unit->Shared->Prop}(hu:A.units+1<cLine)(I:Inv X pins σ H s)(g:DPut H a y v H')(ry:RelV y u)(rv:RelV v r)(h:∀ s',Inv X pins σ H' s'->Q () s') :
  wpAny (model X.prog X.w) A (setItem (.ref a) u r) Q E s:=by
 rcases g with⟨kvs,k,e,ey,l,eH⟩ | ⟨kvs,k,b,e,ey,eb,l,eH⟩
 ·subst ey eH
  obtain⟨z,hd,vs,rel,dd⟩:=WR I.hok e
  have hz:vs.length<=sizeLine:=by rw [← rel.length];exact z
  have hl:(putK kvs k v).length<=sizeLine:=by have:=yk kvs k v;lia
  refine wpAny_setItem_pairs (hsz:=hz) (Zo ry) dd λh' dd' hs=>h _ ?_
  have he:∃ q,h'.get? a=some q:=let ⟨q,_,_,hq,_⟩:=dd';⟨q,hq⟩
  exact Xv I (by rw [e];exact True.intro) hs he (Y5 hl hd (rel.put k rv) dd')
 ·subst ey eH
  cases (show u=Value.ref b from ry)
  obtain⟨z,hd,xs,rel,dd⟩:=ziP I.hok e
  have hz:xs.length<=sizeLine:=by rw [← Paired.length rel];exact z
  have hl:(putK kvs k v).length<=sizeLine:=by have:=yk kvs k v;lia
  refine wpAny_setItem_heap (hsz:=hz) (tupleKind_room_in1 hu) (Z2 I.hok eb) dd λh' dd' hs=>h _ ?_
  obtain⟨q,es,ep,hq,h2,h3,h4,_,h5⟩:=dd'
  refine Xv I (by rw [e];exact True.intro) hs ⟨q,hq⟩ ⟨hl,hd,_,(rel.put k eb rv).keeps λc ys ec=>?_,q,es,ep,hq,h2,h3,h4,h5⟩
  rw [zU (zis ec e (λz=>nomatch z))]
  exact ec
end
section
variable {X:Cx} {pins:List (Addr×Obj)} {σ:St} {H:Hp} {s:Shared} {a:Addr} {kvs:List (Key×V)} {k:Key} {u:Value} {A:Around} {E:Value->Shared->Prop}
end
theorem VR {X:Cx}{pins:List (Addr×Obj)}{σ:St}{H:Hp}{s:Shared}{a:Addr}{y:V}{o:Option V}(I:Inv X pins σ H s)(g:DGet H a y o):s.TypeIs (.ref a) "dict":=by
 rcases g with⟨kvs,k,e,_,_⟩ | ⟨kvs,k,b,e,_,_,_⟩
 ·obtain⟨_,_,vs,_,dd⟩:=Ji I.hok e
  exact dd.typeIs
 ·obtain⟨_,_,xs,_,dd⟩:=Jj I.hok e
  exact dd.typeIs
section
variable {X:Cx} {o i e value:Expr} {pos pos' tpos:Pos} {td ty tv:TE}
end
theorem zcj {P:Program}{w:World}{H:Hp}(h:Heap)(hb:sysModules<h.objs.size):zZ P w H (h.push { cls:=.type "dict",data:=.dict #[] }) h.objs.size (.dK []):=
 ⟨uE _,u3.mpr (Ne.symm (uP hb)),[],.nil,Heap.DictOf.new h⟩
section
variable {X:Cx} {pos:Pos}
end
noncomputable def Xw:List (TE×TE)->St->Hp->(List (V×V)->Hp->Prop)->Prop
 | [],_,H,Q=>Q [] H
 | (tk,tv)::r,σ,H,Q=>tk σ H λx H1=>tv σ H1 λy H2=>Xw r σ H2 λps H3=>Q ((x,y)::ps) H3
noncomputable abbrev VV:List (V×V)->List (Value×Value)->Prop:=Paired λp q=>RelV p.1 q.1/\RelV p.2 q.2
def PPs (X:Cx)(pos:Pos)(keys:List (Option Expr))(values:Lg)(trs:List (TE×TE)):Prop:=
 ∀ (pins:List (Addr×Obj)) (s:Shared) (σ:St) (H:Hp) (Q:List (V×V)->Hp->Prop),Inv X pins σ H s->Xw trs σ H Q ->
  wpAny (model X.prog X.w) X.A (evalPairs (pairTrees keys values X.env pos)) (λvs s'=>∃ ps H',Inv X pins σ H' s'/\VV ps vs/\Q ps H') X.xe s
theorem zer {X:Cx}{pos:Pos}:PPs X pos [] [] []:=λpins s σ H Q I h=>pairTrees_nil_walk ⟨[],H,I,.nil,h⟩
theorem zck {X:Cx}{pos:Pos}{k v:Expr}{ks:List (Option Expr)}{vs:Lg}{tk tv:TE}{trs:List (TE×TE)}(hk:PE X k tk)(hv:PE X v tv)(hr:PPs X pos ks vs trs) :
  PPs X pos (some k::ks) (v::vs) ((tk,tv)::trs):=λpins s σ H Q I h=>
 pairTrees_cons_walk (thn (hk pins s σ H _ I h) λu s1 ⟨x,H1,I1,rx,q1⟩=>thn (hv pins s1 σ H1 _ I1 q1) λw2 s2 ⟨y,H2,I2,ry,q2⟩=>
  thn (hr pins s2 σ H2 _ I2 q2) λws s3 ⟨ps,H3,I3,rel,q3⟩=>⟨(x,y)::ps,H3,I3,.cons ⟨rx,ry⟩ rel,q3⟩)
noncomputable def wW (kvs more:List (Key×V)):List (Key×V):=more.foldl (λacc kv=>putK acc kv.1 kv.2) kvs
theorem KV.merge:∀ {more:List (Key×V)} {rs:List (Key×Value)} {kvs:List (Key×V)} {vs:List (Key×Value)},KV more rs->KV kvs vs->KV (wW kvs more) (merged vs rs):=by
 intro more rs kvs vs r
 unfold KV at r
 induction r generalizing kvs vs with
 | nil=>intro q;exact q
 | @cons p q ps qs h t ih=>
  intro r0
  have e:KV (putK kvs p.1 p.2) (stored vs q.1 q.2):=by
   have:=r0.put p.1 h.2
   rw [← h.1];exact this
  exact ih e
theorem vc:∀ (more kvs:List (Key×V)),(wW kvs more).length<=kvs.length+more.length
 | [],kvs=>by show kvs.length<=kvs.length+0;omega
 | p::r,kvs=>by
  have h1:=vc r (putK kvs p.1 p.2)
  have h2:=yk kvs p.1 p.2
  show(wW (putK kvs p.1 p.2) r).length<=_
  rw [ub];lia
theorem Jk {P:Program}{w:World}:∀ {kvs:List (Key×V)} {ws:List (Value×Value)},VV (kvs.map λkv=>(kV kv.1,kv.2)) ws->∃ rs,Carries (zE P w) ws rs/\KV kvs rs
 | [],_,r=>by rw [Uw] at r;cases r;exact⟨[],True.intro,.nil⟩
 | p::kvs,_,r=>by
  rw [uo] at r
  cases r with
  | @cons a b as bs h t=>
   obtain⟨rs,c,q⟩:=Jk (P:=P) (w:=w) t
   obtain⟨b1,b2⟩:=b
   exact⟨(p.1,b2)::rs,⟨Zo h.1,rfl,c⟩,.cons ⟨rfl,h.2⟩ q⟩
noncomputable def zfC (trs:List (TE×TE)):TE:=λσ H Q=>∀ p,H p=none->Xw trs σ (upd H p (.dK [])) λps H2=>H2 p=some (.dK [])/\∃ kvs:List (Key×V),ps=kvs.map (λkv=>(kV kv.1,kv.2))/\kvs.length<=15/\Q (.ref p) (upd H2 p (.dK (wW [] kvs)))
theorem zes {X:Cx}{pos:Pos}{keys:List (Option Expr)}{values:Lg}{trs:List (TE×TE)}(h:PPs X pos keys values trs)(hall:keys.all (·.isSome)=true)(hl:keys.length=values.length)(h0:keys≠[])
  (h15:keys.length<=15):PE X (.Dict keys values pos) (zfC trs):=by
 intro pins s σ H Q I q
 have hn:=I.hok.fresh (ui s.heap.objs.size)
 have I1:=I.laid (a:=s.heap.objs.size) (o:=.dK []) (h':=s.heap.push { cls:=.type "dict",data:=.dict #[] }) (t':=s.toks) (λ_ _ q=>Heap.get?_push_of_some _ q) (ui _) (zcj s.heap I.big)
 refine wpAny_Dict_walk (knd:=zE X.prog X.w) hall hl h0 h15 (thn (h pins _ σ _ _ I1 (q _ hn)) λws s2 ⟨ps,H2,I2,rel,e,kvs,ep,lk,q2⟩=>?_)
 subst ep
 obtain⟨rs,c,rk⟩:=Jk (P:=X.prog) (w:=X.w) rel
 obtain⟨z,hd,vs0,r0,dd⟩:=WR I2.hok e
 cases r0
 refine⟨rs,c,dd,λh' dd' hs=>⟨.ref s.heap.objs.size,_,?_,rfl,q2⟩⟩
 have hz:(wW [] kvs).length<=sizeLine:=by
  have h1:=vc kvs []
  rw [uc] at h1
  rw [sizeLine_eq];lia
 have he:∃ q,h'.get? s.heap.objs.size=some q:=let ⟨q,_,_,hq,_⟩:=dd';⟨q,hq⟩
 exact Xv I2 (by rw [e];exact True.intro) hs he (Y5 hz hd (rk.merge .nil) dd')
structure M1 (X:Cx)(o:Expr)(m:Str)(apos:Pos)(e:Expr)(cpos:Pos):Prop where
 base:attributeBase o m X.env (eval o X.env)=eval o X.env
 few:((backTo cpos (starEach [e] X.env)).all (λx=>!x.1)&&(backToKw cpos (keywordEach [] X.env)).all (λx=>x.1.isSome)
  && decide (([e]:Lg).length+([]:List Keyword).length+(if ([]:List Keyword).isEmpty then 0 else 1)<30))=true
 line:(apos.endLine == cpos.line)=true
 trees:backTo cpos (starEach [e] X.env)=[(false,eval e X.env)]
structure M2 (X:Cx)(o:Expr)(m:Str)(apos:Pos)(e f:Expr)(cpos:Pos):Prop where
 base:attributeBase o m X.env (eval o X.env)=eval o X.env
 few:((backTo cpos (starEach [e,f] X.env)).all (λx=>!x.1)&&(backToKw cpos (keywordEach [] X.env)).all (λx=>x.1.isSome)
  && decide (([e,f]:Lg).length+([]:List Keyword).length+(if ([]:List Keyword).isEmpty then 0 else 1)<30))=true
 line:(apos.endLine == cpos.line)=true
 trees:backTo cpos (starEach [e,f] X.env)=[(false,eval e X.env),(false,eval f X.env)]
def IsD (H:Hp)(a:Addr):Prop:=(∃ kvs,Rd H a (.dK kvs))\/∃ kvs,Rd H a (.dT kvs)
theorem zgS {X:Cx}{pins:List (Addr×Obj)}{σ:St}{H:Hp}{s:Shared}{a:Addr}(I:Inv X pins σ H s)(d:IsD H a) :
  s.TypeIs (.ref a) "dict"/\(∀ b,Value.ref a=.ref b->∃ ob,s.heap.get? b=some ob/\ob.dict=none)/\(a == sysModules)=false:=by
 rcases d with⟨kvs,e⟩ | ⟨kvs,e⟩
 ·obtain⟨_,hd,vs,_,dd⟩:=Ji I.hok e
  refine⟨dd.typeIs,λb q=>?_,hd⟩
  cases q
  obtain⟨ob,_,_,h1,h2,_⟩:=dd
  exact⟨ob,h1,h2.2.1⟩
 ·obtain⟨_,hd,xs,_,dd⟩:=Jj I.hok e
  refine⟨dd.typeIs,λb q=>?_,hd⟩
  cases q
  obtain⟨ob,_,_,h1,h2,_⟩:=dd
  exact⟨ob,h1,h2.2.1⟩
section
variable {X:Cx} {pins:List (Addr×Obj)} {σ:St} {H:Hp} {s:Shared} {a:Addr} {y d:V} {u r:Value} {o:Option V} {A:Around} {E:Value->Shared->Prop}
theorem zgT {Q:Value->Shared->Prop}(hu:A.units+1<cLine)(I:Inv X pins σ H s)(g:DGet H a y o)(ry:RelV y u)(rd:RelV d r)(h:∀ w' s',Inv X pins σ H s'->RelV (o.getD d) w'->Q w' s') :
  wpAny (model X.prog X.w) A (call (.builtin "dict.get") [.ref a,u,r]) Q E s:=by
 rcases g with⟨kvs,k,e,ey,l⟩ | ⟨kvs,k,b,e,ey,eb,l⟩
 ·subst ey
  obtain⟨z,hd,vs,rel,dd⟩:=Ji I.hok e
  refine call_meetsIn Uz dd.typeIs gv (gj _ _ _) (meets_dict_get_default (zE X.prog X.w) a (Zo ry) hd r) ⟨_,dd.mapOf,h _ _ (I.tok _) ?_⟩
  rw [l]
  exact(rel.val k).getD rd
 ·subst ey
  cases (show u=Value.ref b from ry)
  obtain⟨z,hd,xs,rel,dd⟩:=Jj I.hok e
  refine call_meetsIn Uz dd.typeIs gv (gj _ _ _) (meetsH_dict_get_default (tupleKind (zE X.prog X.w)) a b hd r) ⟨tupleKind_room_in1 hu,k,xs,Z2 I.hok eb,dd,h _ _ (I.tok _) ?_⟩
  rw [l]
  exact(rel.val k).getD rd
end
noncomputable def zcl (td ty tx:TE):TE:=λσ H Q=>td σ H λx H1=>∃ a,x=.ref a/\IsD H1 a/\ty σ H1 λy H2=>tx σ H2 λz H3=>∃ o,DGet H3 a y o/\Q (o.getD z) H3
section
variable {X:Cx} {o e f:Expr} {apos cpos:Pos} {td ty tx:TE}
theorem zcm (hu:X.A.units+1<cLine)(ho:PE X o td)(he:PE X e ty)(hf:PE X f tx)(m:M2 X o "get" apos e f cpos):PE X (.Call (.Attribute o "get" apos) [e,f] [] cpos) (zcl td ty tx):=by
 intro pins s σ H Q I h
 refine wpAny_Call_method m.base m.few m.line Gk Uz PySem.F.type_dict_get (thn (ho pins s σ H _ I h) λu s1 ⟨x,H1,I1,rx,a,ex,d,q1⟩=>?_)
 subst ex
 obtain rfl:u=Value.ref a:=rx
 obtain⟨t1,t2,_⟩:=zgS I1 d
 refine⟨t1,t2,?_⟩
 rw [m.trees]
 refine Calls.callWith_builtin rfl (Calls.evalArgs_plain (Calls.spliced_cons (thn (he pins s1 σ H1 _ I1 q1) λiv s2 ⟨y,H2,I2,ry,q2⟩=>
  Calls.spliced_cons (thn (hf pins s2 σ H2 _ I2 q2) λfv s3 ⟨z,H3,I3,rz,ov,g,q3⟩=>Calls.spliced_nil ?_))))
 exact zgT hu I3 g ry rz λw' s4 I4 rw'=>⟨_,H3,I4,rw',q3⟩
end
section
variable {X:Cx} {pins:List (Addr×Obj)} {σ:St} {H:Hp} {s:Shared} {a:Addr} {kvs:List (Key×V)} {A:Around} {E:Value->Shared->Prop}
end
section
variable {X:Cx} {pins:List (Addr×Obj)} {σ:St} {H:Hp} {s:Shared} {a:Addr} {y:V} {u:Value} {A:Around} {E:Value->Shared->Prop}
end
end L2
namespace L2
open PySem PySem.Spec PySem.Calls PyProof.Rows PySem.W
theorem Jl:bootBuiltins "tuple" = some (.type "tuple"):=by decide +kernel
section
variable {X:Cx} {k j:Nat} {x:Str} {p pos:Pos} {e:Expr} {es:Lg} {tf:TE} {t:TA}
end
inductive EntK (w:World):List DictEntry->List (Key×V)->Prop
 | nil:EntK w [] []
 | cons {e:DictEntry} {k:Key} {v:V} {es:List DictEntry} {kvs:List (Key×V)}:e.hash=keyH w k->Q5 k e.key=true->RelV v e.val->EntK w es kvs->EntK w (e::es) ((k,v)::kvs)
theorem EntK.keys {P:Program}{w:World}{es:List DictEntry}{kvs:List (Key×V)}(h:EntK w es kvs):∀ e∈es,∃ k,(zE P w).is k e.key=true/\e.hash=(zE P w).hash k:=by
 induction h with
 | nil=>intro e he;cases he
 | cons h1 h2 h3 h4 ih=>
  intro e he
  rcases um.mp he with rfl | he
  ·exact⟨_,h2,h1⟩
  ·exact ih e he
theorem EntK.pairs {P:Program}{w:World}{es:List DictEntry}{kvs:List (Key×V)}(h:EntK w es kvs):∃ vs:List (Key×Value),PySem.Pairs (zE P w) es vs/\KV kvs vs/\vs.map (·.1)=kvs.map (·.1):=by
 induction h with
 | nil=>exact⟨[],.nil,.nil,rfl⟩
 | @cons e k v es kvs h1 h2 h3 h4 ih=>
  obtain⟨vs,i1,i2,i3⟩:=ih
  exact⟨(k,e.val)::vs,.cons h2 rfl i1,.cons ⟨rfl,h3⟩ i2,by rw [uo,uo,i3]⟩
def K6 (w:World)(K:Frag)(a:Addr)(kvs:List (Key×V)):Prop:=(a == sysModules)=false/\∃ o es ep,K.lookup a=some o/\o.ExactDict/\o.data=.dict es ep/\EntK w es.toList kvs/\(kvs.map (·.1)).Nodup
section
variable {X:Cx} {pins:List (Addr×Obj)} {σ:L2.St} {H:Hp} {s:Shared} {a:Addr} {kvs:List (Key×V)}
theorem K6.at (I:Inv X pins σ H s)(h:K6 X.w X.K a kvs):(a == sysModules)=false/\∃ vs,KV kvs vs/\s.heap.DictOf (zE X.prog X.w) a vs:=by
 obtain⟨h0,o,es,ep,h1,h2,h3,h4,h5⟩:=h
 obtain⟨vs,i1,i2,i3⟩:=h4.pairs (P:=X.prog)
 exact⟨h0,vs,i2,o,es,ep,I.kIn a o h1,h2,h3,λe he=>h4.keys (P:=X.prog) e (by simpa using he),i1,by rw [i3];exact h5⟩
end
section
variable {X:Cx} {x:Str} {p apos cpos:Pos} {e f:Expr} {ty tx':TE} {kvs:List (Key×V)}
end
section
variable {X:Cx} {a:Expr} {ta:TE}
noncomputable def zfD (K:Frag)(ta:TE):TT:=λσ H Q=>ta σ H λx H'=>∃ k,TruV K x H' k/\Q k H'
theorem zbl {K:Frag}(hK:X.K=K)(ha:PE X a ta)(he:∀ whole,isTrue a X.env whole=(do let v ← whole;standAt a.pos;holding [v] (truthy v)):=by intro _;rfl):PT X a (zfD K ta):=by
 subst hK
 exact zbW ha he
end
section
variable {X:Cx}
noncomputable def rIsA (K:Frag)(n:String):List V->Hp->VK->Prop:=λxs H Q=>∃ x t b,xs=[x,.ty n]/\TyOf K H x t/\PySem.W.kitOne K t (.type n)=some b/\Q (.bl b) H
theorem zbm {K:Frag}{n:String}(hK:X.K=K):jZ X (.builtin "isinstance") (rIsA K n):=by
 subst hK
 intro pins s σ H xs us Q I r h
 obtain⟨x,t,b,rfl,ty,e,q⟩:=h
 exact VN pins s σ H _ us Q I r ⟨x,n,t,b,rfl,ty,e,q⟩
end
section
variable {X:Cx} {pins:List (Addr×Obj)} {σ:L2.St} {H:Hp} {s:Shared} {h':Heap}
end
section
variable {X:Cx}
end
section
variable {X:Cx}
end
section
variable {X:Cx} {K:Frag} {o:Expr} {to:TE} {name:Str} {apos cpos:Pos} {T id:String} {r:V->List V->Hp->VK->Prop}
theorem zet (hK:X.K=K)(pa:PlainAttrs T)(slot:Slot T name id)(hty:typeOf (.builtin id)=pure (.type "method_descriptor"))(hm:MtR X id r)(ho:PE X o to)
  (hbase:attributeBase o name X.env (eval o X.env)=eval o X.env:=by rfl) (hline:(apos.endLine == cpos.line)=true:=by rfl):PE X (.Call (.Attribute o name apos) [] [] cpos) (tBM0 K T r to):=by
 subst hK
 exact zgI pa slot hty hm ho hbase hline
end
end L2
namespace HT
open PySem PySem.Spec PySem.Calls PyProof.Rows PySem.W
section
variable {prog:Program} {w:World} {A:Around} {E:Value->Shared->Prop} {s:Shared}
theorem ku {t sl:Addr}{items:Array Value}{vl vu:Value}{lo hi:Option Int}{Q:Value->Shared->Prop}(ht:IsTup s.heap t items)(hs:s.heap.IsSliceOf sl vl vu .none)(pl:IsPart vl lo)(pu:IsPart vu hi)
  (hw:sIx items.size 0 lo=0/\sIx items.size items.size hi=items.size) (h:Q (.ref t) s):wpAny (model prog w) A (getItem (.ref t) (.ref sl)) Q E s:=by
 obtain⟨os,hos,hcs,hds⟩:=id hs
 have hTs:s.TypeIs (.ref sl) "slice":=⟨os,hos,hcs⟩
 unfold getItem
 try with_reducible refine wpAny_holding ?_
 first | refine wpAny_bind (wpAny_pure ?_) | skip
 refine wpAny_bind (wpAny_sequenceKey ht.typeIs (by decide) ?_)
 refine wpAny_bind (wpAny_callSpecial?_slot (name:=Str.ofString "__getitem__") ht.typeIs PyProof.Rows.slot_tuple_getitem
  (wpAny_call_entry PyProof.Rows.slot_tuple_getitem ht.typeIs entry_tuple_getitem ?_ (args_tuple_getitem _ _)))
 show wpAny _ _ (Builtin.Tuple.tupleItemsOf (.ref t) >>= _) _ _ s
 refine wpAny_bind (tupleItemsOf_ ht ?_)
 refine wpAny_bind (wpAny_typeOf hTs ?_)
 rw [uw (by decide)]
 refine wpAny_bind (vo hs pl pu ?_)
 have hyes:(((sIx items.size 0 lo:Nat):Int) == 0&&(1:Int) == 1&&(sIx items.size items.size hi - sIx items.size 0 lo) == items.size)=true:=by
  rw [hw.1,hw.2]
  simp
 show wpAny _ _ (if (((sIx items.size 0 lo:Nat):Int) == 0&&(1:Int) == 1&&(sIx items.size items.size hi - sIx items.size 0 lo) == items.size)=true then _ else _) _ _ s
 rw [uw hyes]
 unfold Builtin.Tuple.tupleIsExact
 refine wpAny_bind (wpAny_bind (wpAny_typeOf ht.typeIs (wpAny_pure ?_)))
 rw [uw (by decide)]
 exact wpAny_bind (wpAny_rule (wpAny_pure ⟨_,rfl,wpAny_pure h⟩))
end
end HT
namespace L2
open PySem PySem.Spec PySem.Calls PyProof.Rows PySem.W
section
variable {X:Cx}
end
structure QE (X:Cx)(e:Expr)(t:TE):Prop where
 h:PE X e t
section
set_option autoImplicit true
set_option relaxedAutoImplicit true
theorem qv {X:Cx}(i:Nat){x:Str}{pos:Pos}(hN:X.N[i]? = some x:=by rfl) (hv:Vis X.env.scope x:=by first | exact Or.inl rfl | exact Or.inr (Or.inl rfl) | exact Or.inr (Or.inr rfl)) (hd:(x == ("__debug__":Str))=false:=by decide)
  (hcd:(x == ("__classdict__":Str))=false:=by decide):QE X (.Name x pos) (tVar i):=⟨pv (i:=i) (hN:=hN) (hv:=hv) (hd:=hd) (hcd:=hcd)⟩
end
set_option autoImplicit false
section
variable {X:Cx} {pins:List (Addr×Obj)} {σ:St} {H:Hp} {s:Shared} {a b:Addr} {kvs more:List (Key×V)} {A:Around} {E:Value->Shared->Prop}
end
section
variable {X:Cx} {o e:Expr} {apos cpos:Pos} {td ty:TE}
end
end L2
namespace L2
open PySem PySem.Spec PyProof.Rows
section
variable {X:Cx} {tg:Expr}
end
section
variable {X:Cx} {elt iter:Expr} {x:Str} {px pos:Pos} {ifs:Lg} {scope:Scope} {wi:TI} {tt:TT} {te:TE}
end
section
variable {X:Cx}
noncomputable def rIsB:R2:=λx y H Q=>∃ c,y=.bl c/\((∃ b,x=.bl b/\Q (.bl (b == c)) H))
noncomputable def zeu:R2:=λx y H Q=>∃ c,y=.bl c/\((∃ b,x=.bl b/\Q (.bl (!(b == c))) H))
theorem WU (b c:Bool):isSame (.bool b) (.bool c)=pure (b == c):=by cases b<;>cases c<;>rfl
theorem zgU:OpR X (compareOp .Is) rIsB:=by
 intro pins s σ H x y v u Q I rx ry h
 obtain⟨c,rfl,b,rfl,q⟩:=h
 cases rx
 cases ry
 show wpAny _ _ (do let r ← isSame (.bool b) (.bool c);pure (Value.bool r)) _ _ s
 rw [WU]
 exact wpAny_bind (wpAny_pure (wpAny_pure (fin_bl I q rfl)))
theorem zbn:OpR X (compareOp .IsNot) zeu:=by
 intro pins s σ H x y v u Q I rx ry h
 obtain⟨c,rfl,b,rfl,q⟩:=h
 cases rx
 cases ry
 show wpAny _ _ (do let r ← isSame (.bool b) (.bool c);pure (Value.bool !r)) _ _ s
 rw [WU]
 exact wpAny_bind (wpAny_pure (wpAny_pure (fin_bl I q rfl)))
noncomputable def ziQ:List V->Hp->VK->Prop:=λxs H Q=>∃ (p:Addr) (bs:List Bool),xs=[.ref p]/\H p=some (.lst (bs.map V.bl))/\Q (.bl (bs.all id)) H
theorem K7:∀ {bs:List Bool} {us:Lf},Vals (bs.map V.bl) us->us=bs.map Value.bool
 | [],_,h=>by cases h;rfl
 | b::bs,_,h=>by
  cases h with
  | cons a r=>
   cases a
   rw [K7 r]
   rfl
theorem zbo (hc:X.calm=true):jZ X (.builtin "all") ziQ:=by
 intro pins s σ H xs us Q I r h
 obtain⟨p,bs,rfl,hp,q⟩:=h
 obtain⟨u,rfl,hu⟩:=vals1 r
 cases hu
 obtain⟨its,rv,hl⟩:=jQ I hp
 have e:=K7 rv
 subst e
 have hlt:p<s.heap.objs.size:=by
  obtain⟨o,ho,_⟩:=hl
  exact Heap.lt_size ho
 refine call_all_walk (wpAny_pyIter_list hl ?_)
 refine⟨s.heap.objs.size,_,_,_,_,_,λi=>bs.getD i false,rfl,Walks.list (A:=X.A.in1) (I.ok.hd hc) _ p (uP hlt) (bs.map Value.bool).toArray,⟨⟨_,Heap.get?_push_size _ rfl,rfl,rfl⟩,?_⟩,?_,λh' tk kp=>?_⟩
 ·obtain⟨o,ho,h1⟩:=hl
  exact⟨o,Heap.get?_push_of_some _ ho,h1⟩
 ·intro i v s' R E' hv hR
  have hv:(bs.map Value.bool)[i]? = some v:=by simpa using hv
  rw [ux] at hv
  cases hb:bs[i]? with
  | none=>rw [hb] at hv;cases hv
  | some b=>
   rw [hb] at hv
   cases hv
   have hR:R (bs.getD i false) s':=hR
   rw [uO,hb] at hR
   exact wpAny_truthy_bool hR
 ·have I1:Inv X pins σ H { s with heap:=h',toks:=tk }:=I.kept λb o e=>kp b o (by
   have:=Heap.lt_size e
   intro z
   rw [ug.mp z] at this
   exact u9 _ this) (Heap.get?_push_of_some _ e)
  refine⟨.bl (bs.all id),H,I1,?_,q⟩
  show Value.bool _=Value.bool _
  congr 1
  rw [show(bs.map Value.bool).toArray.size=bs.length by simp]
  rw [UX,gk,gk]
  constructor
  ·intro h x hx
   obtain⟨n,hn,rfl⟩:=List.mem_iff_getElem.mp hx
   have:=h n (Gb.mpr hn)
   rw [uO,uu hn] at this
   exact this
  ·intro h n hn
   have hn:=Gb.mp hn
   rw [uO,uu hn]
   exact h _ (UR hn)
end
section
variable {X:Cx}
end
theorem zgV:bootBuiltins "all" = some (.builtin "all"):=by decide +kernel
section
variable {X:Cx} {a b c:Expr} {ta tb tc:TE} {pos:Pos}
end
section
variable {X:Cx}
end
section
variable {prog:Program} {w:World} {A:Around} {E:Value->Shared->Prop} {s:Shared}
end
section
variable {X:Cx} {tg:Expr}
end
section
variable {X:Cx}
variable {st:Stmt} {rest:List Stmt} {t u:TS}
end
section
variable {X:Cx} {pos:Pos}
end
section
variable {X:Cx} {e:Expr} {te:TE} {pos p2:Pos} {K:Le}
end
variable {X:Cx}
noncomputable def zgW:V->List V->Hp->VK->Prop:=λx vs H Q=>∃ (l y:Lc) (i:Int),x=.str (S l)/\vs=[.str (S y),.int i]/\Q (.int (Txt.find3 (S l) (S y) i)) H
theorem zcn:MtR X "str.find" zgW:=by
 intro pins s σ H x xs v us Q I rx rs h
 obtain⟨l,y,i,rfl,rfl,q⟩:=h
 obtain⟨t,rfl⟩:=rx
 cases rs with
 | cons r1 rs=>
  obtain⟨t1,rfl⟩:=r1
  cases rs with
  | cons r2 rs=>
   obtain⟨t2,rfl⟩:=r2
   cases rs
   exact SC.find3 ⟨.int _,H,I.tok _,⟨_,rfl⟩,q⟩
noncomputable def zgX:V->List V->Hp->VK->Prop:=λx vs H Q=>∃ (l y:Lc),x=.str (S l)/\vs=[.str (S y)]/\y≠[]/\l.length<=1000000/\∀ p,H p=none->Q (.ref p) (upd H p (.lst ((Txt.split (S l) (S y)).map V.str)))
theorem Jm (sep:Str)(h:0<sep.length):∀ xs:Lh,xs.length<=(sep.join xs).length+1/\∀ x∈xs,x.length<=(sep.join xs).length
 | []=>⟨uE _,λ_ h=>by cases h⟩
 | [x]=>by
  have e:sep.join [x]=x:=by simp [Str.join]
  rw [e]
  exact⟨by simp,λy hy=>by rw [ug.mp hy];exact ui _⟩
 | x::y::xs=>by
  obtain⟨h1,h2⟩:=Jm sep h (y::xs)
  have e:(sep.join (x::y::xs)).length=x.length+sep.length+(sep.join (y::xs)).length:=by
   simp only [Str.join]
   have al:∀ a b:Str,(a++b).length=a.length+b.length:=λa b=>by
    show(Str.append a b).length=_
    simp [Str.append,Str.length]
   rw [al,al]
  rw [e]
  refine⟨by simp only [ub] at h1 ⊢;lia,λz hz=>?_⟩
  rcases um.mp hz with rfl | hz
  ·lia
  ·have:=h2 z hz;lia
theorem WV:∀ (xs:Lh) (k:Nat),Vals (xs.map V.str) (strsFrom k xs)
 | [],k=>.nil
 | x::xs,k=>.cons ⟨k,rfl⟩ (WV xs (k+1))
theorem zbp:MtR X "str.split" zgX:=by
 intro pins s σ H x xs v us Q I rx rs h
 obtain⟨l,y,rfl,rfl,hy,hl,q⟩:=h
 obtain⟨t,rfl⟩:=rx
 obtain⟨u,rfl,t',rfl⟩:=vals1 rs
 have y0:((S y).length == 0)=false:=by
  rw [jw]
  cases y with
  | nil=>exact absurd rfl hy
  | cons _ _=>rfl
 have yp:0<(S y).length:=by
  rw [jw]
  cases y with
  | nil=>exact absurd rfl hy
  | cons _ _=>simp
 have hj:=Jm (S y) yp (Txt.split (S l) (S y))
 rw [StrLaws.join_split,jw] at hj
 have fin:∀ (its:Lf) (n tk:Nat),Vals ((Txt.split (S l) (S y)).map V.str) its->EP X pins σ Q (Value.ref s.heap.objs.size) { heap:=s.heap.push { cls:=.type "list",data:=.seq its.toArray n },gens:=s.gens,drawn:=s.drawn,toks:=tk,os:=s.os }:=λits n tk hv=>
  ⟨.ref s.heap.objs.size,_,I.laid (t':=tk) (o:=.lst ((Txt.split (S l) (S y)).map V.str)) (λb ob q=>Heap.get?_push_of_some _ q) (ui _) ⟨by rw [ue,sizeLine_eq];lia,its,n,hv,Heap.get?_push_size _ rfl⟩,rfl,q _ (I.hok.fresh (ui _))⟩
 cases c1:(decide ((S l).length<(S y).length)||decide (Builtin.Str.strKind (S l)<Builtin.Str.strKind (S y))) with
 | true=>
  have e:Txt.split (S l) (S y)=[S l]:=by unfold Txt.split;rw [uw c1]
  refine call_meets UL (typeIs_str s (S l) t) gm (gc _ _) (meets_str_split_cannot_occur _ _ _ _ c1) ?_
  exact fin [.str (S l) t] 0 s.toks (by rw [e];exact .cons ⟨t,rfl⟩ .nil)
 | false=>
  cases c2:(Builtin.Str.occurrences (S l) (S y) 0 (S l).length ((S l).length+1)).isEmpty with
  | true=>
   have e:Txt.split (S l) (S y)=[S l]:=by unfold Txt.split;rw [uv (by rw [c1];decide),uw c2]
   refine call_meets UL (typeIs_str s (S l) t) gm (gc _ _) (meets_str_split_not_found _ _ _ _ c1 y0 c2) ?_
   exact fin [.str (S l) t] 0 s.toks (by rw [e];exact .cons ⟨t,rfl⟩ .nil)
  | false=>
   have e:Txt.split (S l) (S y)=Builtin.Str.partsBetween (S l) (Builtin.Str.occurrences (S l) (S y) 0 (S l).length ((S l).length+1)) (S y).length:=by unfold Txt.split;rw [uv (by rw [c1];decide),uv (by rw [c2];decide)]
   refine call_meets UL (typeIs_str s (S l) t) gm (gc _ _) (meets_str_split_sep _ _ _ _ c1 y0 c2 (by rw [jw,sizeLine_eq];lia) (by rw [← e,sizeLine_eq];lia)) ?_
   rw [← e]
   exact fin _ 0 _ (WV _ _)
end L2
namespace L2
open PySem PySem.Spec PySem.Calls PyProof.Rows PySem.W Builtin Builtin.ObjectAttr
section
variable {prog:Program} {w:World} {A:Around} {E:Value->Shared->Prop} {K:Frag} {C:Addr}
end
section
variable {X:Cx} {E:XS} {C:Addr} {x:Str} {e:Expr} {es:Lg} {t:TA} {np cpos pos:Pos} {j:Nat}
end
structure GotX (K:Frag)(H:Hp)(a C:Addr)(fs:List (Str×V)):Prop where
 cl:XCl K C
 ex:(∃ d,Je H a C (some d)/\H d=some (.xd fs))\/(fs=[]/\Je H a C none)
theorem GotX.mono {K:Frag}{H H':Hp}{a C:Addr}{fs:List (Str×V)}(g:GotX K H a C fs)(s:Same H H'):GotX K H' a C fs:=
 ⟨g.cl,g.ex.imp (λ⟨d,c,e⟩=>⟨d,c.mono s,s _ _ e⟩) λ⟨e,c⟩=>⟨e,c.mono s⟩⟩
section
variable {X:Cx} {pins:List (Addr×Obj)} {σ:St} {H:Hp} {s:Shared} {a C:Addr} {fs:List (Str×V)}
end
end L2
namespace L2
open PySem PySem.Spec PySem.Calls PyProof.Rows PySem.W
theorem Xx:typeLookup (.type "list") "keys" = pure none:=by rw [typeLookup_type,builtinLookup_eq_fast];kernel_rfl
theorem zbq {prog:Program}{w:World}{A:Around}{E:Value->Shared->Prop}{s:Shared}{a:Addr}{o:Obj}{xs:Array Value}{k:Nat}{Q:Option Value->Shared->Prop}
  (hx:s.heap.get? a=some o) (hc:o.cls=.type "list") (hdat:o.data=.seq xs k) (hd:o.dict=none) (hA:A.handled=none)
  (h:∀ h' tk,(∀ b ob,s.heap.get? b=some ob->h'.get? b=some ob)->Q none { s with heap:=h',toks:=tk }) :
  wpAny (model prog w) A (getAttr? (.ref a) "keys") Q E s:=by
 obtain⟨c,dct,dat,sl⟩:=o
 simp only at hc hdat hd
 subst hc hdat hd
 obtain⟨hp,g,d,tk,os⟩:=s
 have hT:∀ tk',(⟨hp,g,d,tk',os⟩:Shared).TypeIs (.ref a) "list":=λ_=>⟨_,hx,rfl⟩
 have f1:=sub_AttributeError
 have f3:=US.lookup
 have f4:=US.bind (.ref a)
 have f5:=am_list_getattr_none
 unfold getAttr? getAttrBy? getAttrBy
 repeat (any_goals (first | assumption | exact hT _ | ((with_reducible show wpAny _ _ (call (Value.builtin "list.__getattribute__") _ _) _ _ _);refine call_meets US (hT _) am_entry_list_getattribute (PySem.F.args_list_getattribute_2 _ _) (meets_getattribute_miss_list a xs k sl "keys" _ Xx (by decide) (by decide)) ⟨hx,hA,λh' tk' e hx'=>?_⟩) | wp_step))
 obtain⟨t',u',he⟩:=hx'.there
 show wpAny _ _ (getattributeRaised _ _ _ _ _ _ _) _ _ _
 unfold getattributeRaised
 repeat (any_goals (first | assumption | wp_step))
 exact h _ _ hx'.keeps
theorem j5:plainId "dict.update.loop" = true:=by decide +kernel
theorem yl:entryFor table "dict.update.loop" = some Builtin.«dict.update.loop»:=entryFor_of_fast (by kernel_rfl)
section
variable {prog:Program} {w:World} {A:Around} {R:Result->Shared->Prop} {I d:Addr} {fp wr:Ld} {n:Nat} {P:Nat->Value->Prop} {St:Nat->Heap->Prop} {K:Type} [DecidableEq K] {knd:KeyKind prog w K}
def zew (knd:KeyKind prog w K)(wr:Ld)(d:Addr)(P:Nat->Value->Prop)(ps:List (K×Value))(h:Heap):Prop:=
 ∀ i v,P i v->∃ a k key x,v=.ref a/\a∉wr/\a≠d/\h.IsTuple a #[key,x]/\ps[i]? = some (k,x)/\knd.is k key=true
theorem Wj (W:Walks prog w A.in1 I fp wr n P St)(hdf:d∉fp){h0:Heap}{ps:List (K×Value)}(hn:ps.length=n)(hp:zew knd wr d P ps h0){res:Value}:∀ (k i:Nat) (s:Shared) (kvs:List (K×Value)) (j:Int) (t:Tok),n - i=k->i<=n->St i s.heap ->
  s.heap.DictOf knd d kvs->kvs.length+k<=sizeLine->(∀ b o,b∉wr->b≠d->h0.get? b=some o->s.heap.get? b=some o) ->
  (∀ h' tk,h'.DictOf knd d (merged kvs (ps.drop i))->(∀ b o,b∉wr->b≠d->h0.get? b=some o->h'.get? b=some o)->R (.ok (.ret res)) { s with heap:=h',toks:=tk }) ->
  codeAny (model prog w) A (.builtin "dict.update.loop" ⟨[.ref d,.ref I,.int j t,res],[]⟩) R s:=by
 intro k
 have hdw:d∉wr:=λz=>hdf (W.sub _ z)
 have stay:∀ {h h':Heap} {kvs:List (K×Value)},(∀ b o,b∉wr->h.get? b=some o->h'.get? b=some o)->h.DictOf knd d kvs->h'.DictOf knd d kvs:=λhk ⟨o,es,ep,ho,r⟩=>⟨o,es,ep,hk d o hdw ho,r⟩
 induction k with
 | zero=>
  intro i s kvs j t hk hi hst dd hsz keep hR
  have hin:i=n:=by lia
  subst hin
  refine codeAny_builtin yl ?_
  rw [Around.under_plainId j5 _]
  show wpAny _ A.in1 (pyNext (.ref I) >>= _) _ _ s
  refine wpAny_bind (W.done s _ _ hst λh' tk hk'=>?_)
  have:=hR h' tk (by rw [gw (by lia)];exact stay hk' dd) λb o h1 h2 e=>hk' b o h1 (keep b o h1 h2 e)
  exact wpAny_bind (wpAny_pure (wpAny_pure this))
 | succ k ih=>
  intro i s kvs j t hk hi hst dd hsz keep hR
  have hlt:i<n:=by lia
  refine codeAny_builtin yl ?_
  rw [Around.under_plainId j5 _]
  show wpAny _ A.in1 (pyNext (.ref I) >>= _) _ _ s
  refine wpAny_bind (W.item i s _ _ hlt hst λv h1 tk1 hP hst1 hk1=>?_)
  obtain⟨a,kk,key,x,rfl,ha1,ha2,ht,e,hkey⟩:=hp i v hP
  obtain⟨o,ho,h2⟩:=ht
  have ho1:=hk1 a o ha1 (keep a o ha1 ha2 ho)
  have dd1:=stay hk1 dd
  show wpAny _ A.in1 (holding _ _ >>= _) _ _ _
  refine wpAny_bind (wpAny_holding ?_)
  refine wpAny_bind (wpAny_tryCatch ?_)
  unfold Builtin.Dict.pairItems
  refine wpAny_bind (wpAny_typeOf (T:="tuple") ⟨o,ho1,h2.1⟩ ?_)
  rw [uw (by decide)]
  obtain⟨m,h3⟩:=h2.2
  refine wpAny_bind (wpAny_seqItems ho1 h3 (wpAny_pure ?_))
  show wpAny _ A.in1 (holding _ (dictSet d key x)) _ _ _
  refine wpAny_holding (wpAny_dictSet_pairs (hsz:=by lia) hkey dd1 λh4 dd4 hs=>?_)
  have hk4:∀ b q,b≠d->h1.get? b=some q->h4.get? b=some q:=λb q hb z=>(hs.2 b hb).trans z
  have hdr:ps.drop i=(kk,x)::ps.drop (i+1):=by
   obtain⟨hl,e⟩:=uN.mp e
   rw [Um hl,e]
  refine wpAny_pure ⟨plainId_quiet j5 _,ih (i+1) _ (stored kvs kk x) _ _ (by lia) hlt (W.frame _ _ _ hst1 λb hb q z=>hk4 b q (λz=>hdf (z ▸ hb)) z) dd4 ?_ (λb q z1 z2 z3=>hk4 b q z2 (hk1 b q z1 (keep b q z1 z2 z3))) λh' tk dd' kp=>hR h' tk ?_ kp⟩
  ·have:=stored_length_le kvs kk x
   lia
  ·rw [hdr];exact dd'
end
noncomputable def zgY (K:Frag):List V->Hp->VK->Prop:=λxs H Q=>∃ (p:Addr) (as:Ld) (kvs:List (Key×V)),xs=[.ref p]/\SqL K H p (as.map V.ref)/\as.length=kvs.length /\
 (∀ (i:Nat) (a:Addr),as[i]? = some a->∃ kv:Key×V,kvs[i]? = some kv/\SqT K H a [kV kv.1,kv.2])/\kvs.length<=sizeLine/\∀ q,H q=none->Q (.ref q) (upd H q (.dK (wW [] kvs)))
theorem WW:∀ {as:Ld} {us:Lf},Vals (as.map V.ref) us->us=as.map Value.ref
 | [],_,h=>by cases h;rfl
 | a::as,_,h=>by
  cases h with
  | cons z r=>
   cases z
   rw [WW r]
   rfl
section
variable {X:Cx} {pins:List (Addr×Obj)} {σ:L2.St} {H:Hp} {s:Shared}
theorem VS (I:Inv X pins σ H s):∀ (as:Ld) (kvs:List (Key×V)),as.length=kvs.length->(∀ (i:Nat) (a:Addr),as[i]? = some a->∃ kv:Key×V,kvs[i]? = some kv/\SqT X.K H a [kV kv.1,kv.2]) ->
  ∃ ps:List (Key×Value),KV kvs ps/\∀ (i:Nat) (a:Addr),as[i]? = some a->∃ k key x,ps[i]? = some (k,x)/\s.heap.IsTuple a #[key,x]/\(zE X.prog X.w).is k key=true
 | [],[],_,_=>⟨[],.nil,λi a h=>by simp at h⟩
 | a::as,kv::kvs,hl,h=>by
  obtain⟨ps,r,g⟩:=VS I as kvs (by simpa using hl) λi b e=>h (i+1) b (by simpa using e)
  obtain⟨kv',e1,t1⟩:=h 0 a rfl
  cases uG e1
  obtain⟨its,rv,tp,_⟩:=I.tuple t1
  cases rv with
  | cons z1 rv=>
   cases rv with
   | cons z2 rv=>
    cases rv
    refine⟨(kv.1,_)::ps,.cons ⟨rfl,z2⟩ r,λi b e=>?_⟩
    cases i with
    | zero=>
     cases e
     exact⟨_,_,_,rfl,tp,Zo z1⟩
    | succ i=>exact g i b (by simpa using e)
theorem Y6 (hc:X.calm=true):jZ X (.type "dict") (zgY X.K):=by
 intro pins s σ H xs us Q I r h
 obtain⟨p,as,kvs,rfl,hp,hl,ht,hz,q⟩:=h
 obtain⟨u,rfl,hu⟩:=vals1 r
 cases hu
 obtain⟨its,rv,pl,_⟩:=I.list hp
 cases WW rv
 obtain⟨ps,rel,hps⟩:=VS I as kvs hl ht
 obtain⟨o,n,ho,hcl,hdn,hdat⟩:=pl
 have hlen:ps.length=as.length:=by rw [← rel.length];exact hl.symm
 refine callType_codes (Q₁:=λobj s₁=>obj=.ref s.heap.objs.size/\s₁={ s with heap:=s.heap.push { cls:=.type "dict",data:=.dict #[] } }) PySem.F.kt_called_dict (PySem.F.kt_typeCall_dict_1 _) PySem.F.entry_dict_init (kt_code_dict_new _ ⟨rfl,rfl⟩) ?_
 rintro obj s₁ ⟨rfl,rfl⟩
 have hnew:(s.heap.push { cls:=.type "dict",data:=.dict #[] }).DictOf (zE X.prog X.w) s.heap.objs.size []:=Heap.DictOf.new s.heap
 have ho':(s.heap.push { cls:=.type "dict",data:=.dict #[] }).get? p=some o:=Heap.get?_push_of_some _ ho
 refine⟨hnew.typeIs,PySem.F.args_dict_init_2 _ _,?_⟩
 unfold Builtin.«dict.__init__»
 refine wpAny_bind ?_
 unfold Builtin.Dict.selfAndRest
 refine wpAny_bind (wpAny_notOrdered_dict hnew.typeIs ?_)
 show wpAny _ _ (pure (s.heap.objs.size,[Value.ref p])) _ _ _
 refine wpAny_pure ?_
 show wpAny _ _ (Builtin.Dict.updateFrom "dict.__init__" s.heap.objs.size (.ref p) [] .none) _ _ _
 unfold Builtin.Dict.updateFrom
 refine wpAny_bind (wpAny_typeOf (T:="list") ⟨o,ho',hcl⟩ ?_)
 rw [uw (by decide)]
 refine wpAny_bind (zbq ho' hcl hdat hdn (I.ok.hd hc) λh1 tk1 kp1=>?_)
 have olds:∀ {b:Addr} {ob:Obj},s.heap.get? b=some ob->h1.get? b=some ob:=λe=>kp1 _ _ (Heap.get?_push_of_some _ e)
 have hlist:h1.IsList p (as.map Value.ref).toArray:=⟨o,olds ho,hcl,n,hdat⟩
 have hd1:h1.DictOf (zE X.prog X.w) s.heap.objs.size []:=let ⟨q,es,ep,hq,r⟩:=hnew;⟨q,es,ep,kp1 _ _ hq,r⟩
 have ltd:s.heap.objs.size<h1.objs.size:=by
  obtain⟨q,_,_,hq,_⟩:=hd1
  exact Heap.lt_size hq
 rw [uw (by decide)]
 refine wpAny_bind (wpAny_rule ?_)
 refine wpAny_bind (wpAny_pyIter_list hlist ?_)
 refine wpAny_pure ⟨plainId_quiet j5 _,Wj (A:=X.A.in1) (knd:=zE X.prog X.w) (h0:=h1.push { cls:=.type "list_iterator",data:=.fields #[.ref p,.int 0 0] }) (ps:=ps)
  (Walks.list (A:=X.A.in1.in1) (I.ok.hd hc) h1.objs.size p (uP (Heap.lt_size (olds ho))) (as.map Value.ref).toArray) ?_ (by simpa using hlen) ?_ _ 0 _ [] 0 _ rfl (uE _) ⟨⟨_,Heap.get?_push_size _ rfl,rfl,rfl⟩,?_⟩ ?_ ?_ (λ_ _ _ _ e=>e) λh' tk dd' kp=>?_⟩
 ·intro z
  rcases um.mp z with z | z
  ·exact uP ltd z
  ·exact uP (Heap.lt_size ho) (ug.mp z).symm
 ·intro i v hv
  have hv:(as.map Value.ref)[i]? = some v:=by simpa using hv
  rw [ux] at hv
  obtain⟨a,ha,rfl⟩:=uz.mp hv
  obtain⟨k,key,x,e1,⟨ob,e2,e3⟩,e4⟩:=hps i a ha
  have:=Heap.lt_size e2
  exact⟨a,k,key,x,rfl,λz=>uP (gP (Heap.lt_size e2) ltd) (ug.mp z),uP (Heap.lt_size e2),⟨ob,Heap.get?_push_of_some _ (olds e2),e3⟩,e1,e4⟩
 ·exact⟨o,Heap.get?_push_of_some _ (olds ho),hcl,n,hdat⟩
 ·obtain⟨q,es,ep,hq,r⟩:=hd1
  exact⟨q,es,ep,Heap.get?_push_of_some _ hq,r⟩
 ·have e:(as.map Value.ref).toArray.size=as.length:=by simp
  show 0+((as.map Value.ref).toArray.size - 0)<=sizeLine
  rw [e,hl];lia
 ·have hm:(wW [] kvs).length<=sizeLine:=by
   have:=vc kvs []
   simp only [uc] at this
   lia
  have I':Inv X pins σ (upd H s.heap.objs.size (.dK (wW [] kvs))) { s with heap:=h',toks:=tk }:=
   I.laid (a:=s.heap.objs.size) (λb ob e=>kp b ob (λz=>uP (gP (Heap.lt_size e) ltd) (ug.mp z)) (uP (Heap.lt_size e)) (Heap.get?_push_of_some _ (olds e))) (ui _) (Y5 hm (u3.mpr (Ne.symm (uP I.big'))) (rel.merge .nil) dd')
  exact⟨rfl,.ref s.heap.objs.size,_,I',rfl,q _ (I.hok.fresh (ui _))⟩
end
noncomputable def DtV (H:Hp):List (Key×V)->List Dat->Prop
 | [],ds=>ds=[]
 | kv::r,ds=>∃ d es,ds=d::es/\depD d<=50/\IsDt H d kv.2/\DtV H r es
noncomputable def datV:List Key->List Dat->Key->Option Dat
 | k'::r,e::es,k=>if k' = k then some e else datV r es k
 | _,_,_=>none
noncomputable def hitV (kb:List Key)(es:List Dat):List Key->List Dat->Bool
 | k::r,d::ds=>(match datV kb es k with
  | some e=>eqD d e&&hitV kb es r ds
  | none=>false)
 | _,_=>true
noncomputable def eqDc (ka:List Key)(ds:List Dat)(kb:List Key)(es:List Dat):Bool:=ka.length == kb.length&&hitV kb es ka ds
section
variable {X:Cx} {pins:List (Addr×Obj)} {σ:L2.St} {H:Hp} {s:Shared}
theorem zco {k:Key}:∀ {kb:List (Key×V)} {vs:List (Key×Value)} {es:List Dat},KV kb vs->DtV H kb es ->
  (datV (kb.map (·.1)) es k=none->valueAt vs k=none)/\∀ e,datV (kb.map (·.1)) es k=some e->∃ v y,valueAt vs k=some y/\RelV v y/\IsDt H e v
 | [],_,_,h,g=>by
  cases h
  rw [show _=[] from g]
  exact⟨λ_=>rfl,λe z=>by cases z⟩
 | kv::kb,_,_,h,⟨d,es,e,g1,g2,g3⟩=>by
  subst e
  cases h with
  | @cons _ q _ vs z r=>
   obtain⟨i1,i2⟩:=zco r g3
   obtain⟨k',y⟩:=q
   obtain⟨z1,z2⟩:=z
   have z1:kv.1=k':=z1
   have z2:RelV kv.2 y:=z2
   by_cases hk:kv.1=k
   ·refine⟨λz=>?_,λe z=>?_⟩
    ·rw [uo,datV,uw hk] at z;cases z
    ·rw [uo,datV,uw hk] at z
     cases z
     refine⟨kv.2,y,?_,z2,g2⟩
     unfold valueAt
     rw [List.find?_cons_of_pos (by simpa using z1.symm.trans hk)];rfl
   ·have hv:valueAt ((k',y)::vs) k=valueAt vs k:=by
     unfold valueAt
     rw [List.find?_cons_of_neg (by simpa using λz:k' = k=>hk (z1.trans z))]
    rw [uo,datV,uv hk,hv]
    exact⟨i1,i2⟩
theorem Xy (I:Inv X pins σ H s){A:Around}(hu:A.units+50<cLine){kb:List (Key×V)}{vb:List (Key×Value)}{es:List Dat}(rb:KV kb vb)(gb:DtV H kb es):∀ {ka:List (Key×V)} {va:List (Key×Value)} {ds:List Dat},KV ka va->DtV H ka ds ->
  KeqHits A s vb va (hitV (kb.map (·.1)) es (ka.map (·.1)) ds)
 | [],_,_,h,g=>by
  cases h
  rw [show _=[] from g]
  exact .nil
 | kv::ka,_,_,h,⟨d,ds,e,g1,g2,g3⟩=>by
  subst e
  cases h with
  | @cons _ q _ va z r=>
   obtain⟨k',y⟩:=q
   obtain⟨z1,z2⟩:=z
   have z1:kv.1=k':=z1
   subst z1
   have ih:=Xy I hu rb gb r g3
   obtain⟨i1,i2⟩:=zco (k:=kv.1) rb gb
   rw [uo,hitV]
   cases c:datV (kb.map (·.1)) es kv.1 with
   | none=>exact .miss (i1 c)
   | some e=>
    obtain⟨v,u,e1,e2,e3⟩:=i2 e c
    exact .hit e1 (zci I d e A kv.2 v y u (by lia) g2 e3 z2 e2) ih
noncomputable def ziR:R2:=λx y H Q=>∃ a b ka kb ds es,x=.ref a/\y=.ref b/\H a=some (.dK ka)/\H b=some (.dK kb)/\DtV H ka ds/\DtV H kb es/\Q (.bl (eqDc (ka.map (·.1)) ds (kb.map (·.1)) es)) H
noncomputable def ziS:R2:=λx y H Q=>∃ a b ka kb ds es,x=.ref a/\y=.ref b/\H a=some (.dK ka)/\H b=some (.dK kb)/\DtV H ka ds/\DtV H kb es/\Q (.bl (!eqDc (ka.map (·.1)) ds (kb.map (·.1)) es)) H
theorem zjB (hu:X.A.units+64<cLine):OpR X (compareOp .Eq) ziR:=by
 intro pins s σ H x y v u Q I rx ry h
 obtain⟨a,b,ka,kb,ds,es,rfl,rfl,ha,hb,ga,gb,q⟩:=h
 cases rx
 cases ry
 obtain⟨_,na,va,ra,da⟩:=WR I.hok ha
 obtain⟨_,nb,vb,rb,db⟩:=WR I.hok hb
 refine keq_eq na nb da db (by lia) (λ_=>Xy I (A:=X.A.in1) (by show X.A.units+1+50<cLine;lia) rb gb ra ga) ⟨.bl _,H,I,rfl,?_⟩
 rw [← ra.length,← rb.length]
 unfold eqDc at q
 rw [ue,ue] at q
 exact q
theorem zex (hu:X.A.units+64<cLine):OpR X (compareOp .NotEq) ziS:=by
 intro pins s σ H x y v u Q I rx ry h
 obtain⟨a,b,ka,kb,ds,es,rfl,rfl,ha,hb,ga,gb,q⟩:=h
 cases rx
 cases ry
 obtain⟨_,na,va,ra,da⟩:=WR I.hok ha
 obtain⟨_,nb,vb,rb,db⟩:=WR I.hok hb
 refine keq_ne na nb da db (by lia) (λ_=>Xy I (A:=X.A.in1) (by show X.A.units+1+50<cLine;lia) rb gb ra ga) ⟨.bl _,H,I,rfl,?_⟩
 rw [← ra.length,← rb.length]
 unfold eqDc at q
 rw [ue,ue] at q
 exact q
end
end L2
namespace L5
open PySem L2 PySem.Spec PyProof.Rows
noncomputable def ziT:R2:=λx y H Q=>∃ a b xs ys,x=.ref a/\y=.ref b/\H a=some (.tup xs)/\H b=some (.tup ys)/\xs.length+ys.length<=1000000 /\
 (ys=[]->Q (.ref a) H)/\(xs=[]->Q (.ref b) H)/\∀ p,H p=none->Q (.ref p) (upd H p (.tup (xs++ys)))
theorem zey {X:Cx}:OpR X (binaryOp .Add) ziT:=by
 intro pins s σ H x y v u Q I rx ry h
 obtain⟨a,b,xs,ys,rfl,rfl,ha,hb,hz,q1,q2,q3⟩:=h
 by_cases hx:xs=[]
 ·subst hx
  cases rx
  cases ry
  obtain⟨its,r1,p1,_⟩:=I.tuple (SqT.of ha)
  obtain⟨its2,r2,p2,_⟩:=I.tuple (SqT.of hb)
  obtain⟨⟨cls,dd,data,sl⟩,ho,hc,n,hd⟩:=id p1
  obtain⟨⟨cls2,dd2,data2,sl2⟩,ho2,hc2,n2,hd2⟩:=id p2
  simp only at hc hd hc2 hd2
  subst hc hd hc2 hd2
  have e0:its=[]:=r1.nil_iff.mpr rfl
  exact concat_meets ⟨_,ho,rfl⟩ ⟨_,ho2,rfl⟩ noFill_tuple_add seq_tuple_add gu gh (U8 _ _)
   (tuple_addW0 a b its.toArray its2.toArray n n2 dd dd2 sl sl2 (by simp [e0])) ⟨ho,ho2,.ref b,H,I,rfl,q2 rfl⟩
 ·exact zee pins s σ H _ _ v u Q I rx ry ⟨a,b,xs,ys,rfl,rfl,SqT.of ha,SqT.of hb,hx,by rw [sizeLine_eq];lia,λe=>q1 e,λ_ p hp=>q3 p hp⟩
noncomputable def rSlW:V->Option Int->Option Int->Hp->VK->Prop:=λx lo hi H Q=>∃ a xs,x=.ref a/\H a=some (.tup xs)/\(cutV xs lo hi=xs->Q (.ref a) H)/\∀ p,H p=none->Q (.ref p) (upd H p (.tup (cutV xs lo hi)))
theorem zez {X:Cx}:SlR X rSlW:=by
 intro pins s σ H x v vl vu lo hi sl Q I rx hs pl pu h
 obtain⟨a,xs,rfl,hx,q1,q2⟩:=h
 by_cases hw:HT.sIx xs.length 0 lo=0/\HT.sIx xs.length xs.length hi=xs.length
 ·cases rx
  obtain⟨its,r,ht,hz⟩:=I.tuple (SqT.of hx)
  have hlen:its.toArray.size=xs.length:=by rw [uj];exact r.length.symm
  refine⟨"tuple",_,PyProof.Rows.slot_tuple_getitem.lookup,ht.typeIs,?_⟩
  refine HT.ku ht hs pl pu (by rw [hlen];exact hw) ⟨.ref a,H,I,rfl,q1 ?_⟩
  unfold cutV
  rw [hw.1,hw.2,Gf,Nat.sub_zero,UD]
 ·exact zgF pins s σ H _ v vl vu lo hi sl Q I rx hs pl pu ⟨a,xs,rfl,SqT.of hx,hw,q2⟩
theorem xt {X:Cx}{f:Value->Value->Sem Value}{r r':R2}(h:OpR X f r)(k:OpR X f r'):OpR X f (λx y H Q=>r x y H Q\/r' x y H Q):=by
 intro pins s σ H x y v u Q I rx ry z
 rcases z with z | z
 ·exact h pins s σ H x y v u Q I rx ry z
 ·exact k pins s σ H x y v u Q I rx ry z
noncomputable def rIxD:R2:=λx y H Q=>∃ a v,x=.ref a/\DGet H a y (some v)/\Q v H
theorem zeA {X:Cx}(hu:X.A.units+1<cLine):IxR X rIxD:=by
 intro value slice pins s σ H x y v u Q I rx ry h hs
 obtain⟨a,z,rfl,g,q⟩:=h
 obtain rfl:v=Value.ref a:=rx
 have hT:=VR I g
 unfold subscriptTail
 refine wpAny_bind ?_
 rw [getitemInPython_of_ne hT.not_modules]
 refine wpAny_bind (wpAny_specialOf hT PySem.F.slot_dict_getitem.lookup ?_)
 have fin:wpAny (model X.prog X.w) X.A (subscripted slice false (.ref a) u) (λr s₃=>wpAny (model X.prog X.w) X.A (letTemporaryGo value (.ref a) r >>= λ_=>pure r) (EP X pins σ Q) X.xe s₃) X.xe s:=by
  rw [hs]
  exact wpAny_operating (wpAny_mono (zbj (Q:=EP X pins σ Q) hu I g ry λw' s3 I3 rw'=>⟨z,H,I3,rw',q⟩) (λr s₃ h₃=>wpAny_bind (wpAny_letTemporaryGo (wpAny_pure h₃))) λ_ _ x=>x)
 first
  | exact wpAny_pure (wpAny_bind fin)
  | exact wpAny_bind (wpAny_pure (wpAny_bind fin))
  | exact wpAny_bind fin
theorem Y7 {X:Cx}{r r':R2}(h:IxR X r)(k:IxR X r'):IxR X (λx y H Q=>r x y H Q\/r' x y H Q):=by
 intro value slice pins s σ H x y v u Q I rx ry z hs
 rcases z with z | z
 ·exact h value slice pins s σ H x y v u Q I rx ry z hs
 ·exact k value slice pins s σ H x y v u Q I rx ry z hs
theorem zcp {X:Cx}{r r':V->Option Int->Option Int->Hp->VK->Prop}(h:SlR X r)(k:SlR X r'):SlR X (λx lo hi H Q=>r x lo hi H Q\/r' x lo hi H Q):=by
 intro pins s σ H x v vl vu lo hi sl Q I rx hs pl pu z
 rcases z with z | z
 ·exact h pins s σ H x v vl vu lo hi sl Q I rx hs pl pu z
 ·exact k pins s σ H x v vl vu lo hi sl Q I rx hs pl pu z
theorem VT {X:Cx}{f:Value}{r r':List V->Hp->VK->Prop}(h:jZ X f r)(k:jZ X f r'):jZ X f (λxs H Q=>r xs H Q\/r' xs H Q):=by
 intro pins s σ H xs us Q I rx z
 rcases z with z | z
 ·exact h pins s σ H xs us Q I rx z
 ·exact k pins s σ H xs us Q I rx z
noncomputable def rInD (n:Bool):R2:=λx y H Q=>∃ a o,y=.ref a/\DGet H a x o/\Q (.bl (if n=true then !o.isSome else o.isSome)) H
theorem zgZ {X:Cx}(hu:X.A.units+1<cLine):OpR X (compareOp .In) (rInD false):=by
 intro pins s σ H x y v u Q I rx ry h
 obtain⟨a,o,rfl,g,q⟩:=h
 cases ry
 exact d_in hu I g rx λs' I'=>⟨.bl o.isSome,H,I',rfl,q⟩
theorem zbr {X:Cx}(hu:X.A.units+1<cLine):OpR X (compareOp .NotIn) (rInD true):=by
 intro pins s σ H x y v u Q I rx ry h
 obtain⟨a,o,rfl,g,q⟩:=h
 cases ry
 exact zeq hu I g rx λs' I'=>⟨.bl !o.isSome,H,I',rfl,q⟩
theorem zg0 {X:Cx}{pins:List (Addr×Obj)}{σ:L2.St}{H:Hp}{s:Shared}{x:V}{u t:Value}(I:Inv X pins σ H s)(rx:RelV x u)(ty:TyOf X.K H x t):∃ P,PySem.W.KitX X.K u t P/\P s.heap/\u≠Value.builtin "__main__.__loader__#opaque":=by
 cases ty with
 | non=>cases (show u=Value.none from rx);exact⟨_,PySem.W.kitx_none,True.intro,λz=>nomatch z⟩
 | bl y=>cases (show u=Value.bool y from rx);exact⟨_,PySem.W.kitx_bool,True.intro,λz=>nomatch z⟩
 | int i=>obtain⟨t,q⟩:=(show ∃ t,u=Value.int i t from rx);cases q;exact⟨_,PySem.W.kitx_int,True.intro,λz=>nomatch z⟩
 | str y=>obtain⟨t,q⟩:=(show ∃ t,u=Value.str y t from rx);cases q;exact⟨_,PySem.W.kitx_str,True.intro,λz=>nomatch z⟩
 | flt y=>obtain⟨t,q⟩:=(show ∃ t,u=Value.float y t from rx);cases q;exact⟨_,PySem.W.kitx_float,True.intro,λz=>nomatch z⟩
 | @lst a xs ea=>
  cases (show u=Value.ref a from rx)
  obtain⟨_,_,n,_,h1⟩:=(show zZ X.prog X.w H s.heap a (.lst xs) from I.hok a _ ea)
  exact⟨_,U3,⟨_,h1,rfl⟩,λz=>nomatch z⟩
 | @frz a ob xs ea=>
  cases (show u=Value.ref a from rx)
  obtain⟨_,_,_,n,_,h1⟩:=(show zZ X.prog X.w H s.heap a (.frz ob (.lst xs)) from I.hok a _ ea)
  exact⟨_,U3,⟨_,h1,rfl⟩,λz=>nomatch z⟩
 | @tup a xs ea=>
  cases (show u=Value.ref a from rx)
  obtain⟨_,_,_,p⟩:=(show zZ X.prog X.w H s.heap a (.tup xs) from I.hok a _ ea)
  obtain⟨o,h1,h2,_⟩:=p
  exact⟨_,PySem.W.kitx_tuple,⟨o,h1,h2⟩,λz=>nomatch z⟩
 | @dK a kvs ea=>
  cases (show u=Value.ref a from rx)
  obtain⟨_,_,vs,_,p⟩:=(show zZ X.prog X.w H s.heap a (.dK kvs) from I.hok a _ ea)
  obtain⟨o,es,ep,h1,h2,_⟩:=p
  exact⟨_,U4,⟨o,h1,h2.1⟩,λz=>nomatch z⟩
 | @dT a kvs ea=>
  cases (show u=Value.ref a from rx)
  obtain⟨_,_,xs,_,o,es,ep,h1,h2,_⟩:=(show zZ X.prog X.w H s.heap a (.dT kvs) from I.hok a _ ea)
  exact⟨_,U4,⟨o,h1,h2.1⟩,λz=>nomatch z⟩
 | @ins a C dx fs ea cl ha hn htk hm=>
  cases (show u=Value.ref a from rx)
  obtain⟨mA,O,_⟩:=Zk I.hok ea
  obtain⟨od,J,_⟩:=O.look
  exact⟨_,PySem.W.kitx_own (cl.get _) cl.hd ha hn htk hm,J,λz=>nomatch z⟩
noncomputable def rIsT (K:Le)(ns:List String):List V->Hp->VK->Prop:=λxs H Q=>∃ x p t b,xs=[x,.ref p]/\H p=some (.tup (ns.map V.ty))/\TyOf K H x t/\PySem.W.kitAny K t (ns.map Value.type)=some b/\Q (.bl b) H
theorem K8:∀ {ns:List String} {us:Lf},Vals (ns.map V.ty) us->us=ns.map Value.type
 | [],_,h=>by cases h;rfl
 | _::ns,_,h=>by
  cases h with
  | cons h t=>
   cases h
   rw [K8 t]
   rfl
theorem zcq {X:Cx}{K:Le}{ns:List String}(hK:X.K=K):jZ X (.builtin "isinstance") (rIsT K ns):=by
 subst hK
 intro pins s σ H xs us Q I r h
 obtain⟨x,p,t,b,rfl,hp,ty,e,q⟩:=h
 obtain⟨u1,u2,rfl,r1,r2⟩:=vals2 r
 obtain rfl:u2=Value.ref p:=r2
 obtain⟨P,k1,k2,k3⟩:=zg0 I r1 ty
 obtain⟨_,its,rv,o,ho,hoc,n,hod⟩:=(show zZ X.prog X.w H s.heap p (.tup (ns.map V.ty)) from I.hok p _ hp)
 obtain rfl:=K8 rv
 obtain⟨oc,odi,oda,osl⟩:=o
 dsimp only at hoc hod
 subst hoc hod
 exact PySem.W.kia_tup k1 I.kIn k2 ho e k3 λtk=>⟨.bl b,H,I.tok _,rfl,q⟩
theorem TyOf.mono {K:Le}{H H':Hp}(g:Same H H'){x:V}{t:Value}(h:TyOf K H x t):TyOf K H' x t:=by
 cases h with
 | non=>exact .non
 | bl y=>exact .bl y
 | int i=>exact .int i
 | str y=>exact .str y
 | flt y=>exact .flt y
 | lst e=>exact .lst (g _ _ e)
 | frz e=>exact .frz (g _ _ e)
 | tup e=>exact .tup (g _ _ e)
 | dK e=>exact .dK (g _ _ e)
 | dT e=>exact .dT (g _ _ e)
 | ins e cl ha hn htk hm=>exact .ins (g _ _ e) cl ha hn htk hm
noncomputable def tTys (ns:List String):TA:=λσ H Q=>Q (ns.map V.ty) H
noncomputable def star:Expr->Bool
 | .Starred _ _=>true
 | _=>false
noncomputable def noSt (es:Lg):Bool:=es.all λe=>!star e
theorem zj {e:Expr}{es:Lg}{env:Env}(h:star e=false):starEach (e::es) env=(false,eval e env)::starEach es env:=by
 cases e<;>first | rfl | cases h
theorem qQ:∀ {es:Lg} {env:Env} {pos:Pos},noSt es=true->(backTo pos (starEach es env)).any (·.1)=false
 | [],env,pos,_=>rfl
 | e::es,env,pos,h=>by
  unfold noSt at h
  rw [Ur,uQ] at h
  rw [zj (by simpa using h.1)]
  have:=qQ (es:=es) (env:=env) (pos:=pos) h.2
  simp only [backTo,uo,Us,U9] at this ⊢
  exact this
theorem VU:∀ {es:Lg} {env:Env} {pos:Pos},noSt es=true->(backTo pos (starEach es env)).all (λx=>!x.1)=true
 | [],env,pos,_=>rfl
 | e::es,env,pos,h=>by
  unfold noSt at h
  rw [Ur,uQ] at h
  rw [zj (by simpa using h.1)]
  have:=VU (es:=es) (env:=env) (pos:=pos) h.2
  simp only [backTo,uo,Ur,Bool.not_false,gf] at this ⊢
  exact this
theorem vK {es:Lg}{env:Env}{pos:Pos}(h:noSt es=true)(hl:es.length<30):((backTo pos (starEach es env)).all (λx=>!x.1)&&(backToKw pos (keywordEach [] env)).all (λx=>x.1.isSome)
   && decide (es.length+([]:List Keyword).length+(if ([]:List Keyword).isEmpty then 0 else 1)<30))=true:=by
 rw [VU h]
 simp only [gf,uQ,decide_eq_true_eq]
 exact⟨rfl,by simpa using hl⟩
noncomputable def QO:Expr->Bool
 | .Slice _ _ _ _=>false
 | _=>true
theorem zcr {e:Expr}(h:QO e=true):KZ e:=by
 intro o i
 cases e<;>first | rfl | cases h
theorem zM {e:Expr}{es:Lg}(h:noSt (e::es)=true):star e=false/\noSt es=true:=by
 unfold noSt at h
 rw [Ur,uQ] at h
 exact⟨by simpa using h.1,h.2⟩
noncomputable def qS:Expr->Bool
 | .Call (.Name _ _) [] [] _=>false
 | _=>true
theorem z5 {o:Expr}{nm:Str}{env:Env}{wh:Sem Value}(h:qS o=true):attributeBase o nm env wh=wh:=by
 unfold attributeBase
 split
 ·cases h
 ·rfl
noncomputable def plainT:Expr->Bool
 | .Name _ _=>true
 | .Call _ _ _ _=>true
 | .Subscript _ _ _=>true
 | .Attribute _ _ _=>true
 | .ListComp _ _ _ _=>true
 | .BinOp _ _ _ _=>true
 | _=>false
theorem zeB {e:Expr}{env:Env}(h:plainT e=true):∀ whole,isTrue e env whole=(do let v ← whole;standAt e.pos;holding [v] (truthy v)):=by
 intro wh
 cases e<;>first | rfl | cases h
noncomputable def zcs:Expr->Bool
 | .Set _ _ _=>false
 | _=>true
theorem Y8 {e:Expr}{env:Env}(h:zcs e=true):∀ x,foldedSetIterable e env x=pure x:=by
 intro x
 cases e<;>first | rfl | cases h
noncomputable def Xz:Expr->Bool
 | .ListComp _ _ _ _=>false
 | .SetComp _ _ _ _=>false
 | .DictComp _ _ _ _ _=>false
 | _=>true
theorem XA {e:Expr}{tg:Option Expr}{l:Nat}{env:Env}(h:Xz e=true):swapsWith e tg l env=pure false:=by
 cases e<;>first | rfl | cases h
noncomputable def zfE:Expr->Bool
 | .Tuple _ _ _=>false
 | _=>true
noncomputable def noTL:Expr->Bool
 | .Tuple _ _ _=>false
 | .List _ _=>false
 | _=>true
theorem zH {P:Prop}(h:false=true):P:=nomatch h
theorem zJ {α:Type}{x:α}{P:Prop}(h:none=some x):P:=nomatch h
theorem zbs {tg e:Expr}{env:Env}(h:(noTL tg||zfE e)=true):swappedStores [tg] e env=pure none:=by
 cases tg<;>first | exact rfl | (cases e<;>first | exact rfl | cases h)
theorem Y9 {tg:Expr}{env:Env}(h:star tg=false):(assignEach [tg] env).map (·.2)=[assign tg env]:=by
 cases tg<;>first | rfl | cases h
noncomputable def okN (x:Str):Bool:=!(x == ("__debug__":Str))&&!(x == ("__classdict__":Str))
noncomputable def vis (sc:Scope)(x:Str):Bool:=decide (sc.names.lookup x=some .local)||decide (sc.names.lookup x=some .cell)||decide (sc.names.lookup x=some .free)
noncomputable def glb (sc:Scope)(x:Str):Bool:=decide (sc.names.lookup x=some .globalImplicit)&&okN x
noncomputable def relS (scope sc:Scope):Scope:={ kind:=scope.kind,names:=scope.names.map λx=>match x with
 | (n,k)=>if (k == NameKind.free&&sc.kind == ScopeKind.function&&sc.names.lookup n == some NameKind.cell)=true then(n,NameKind.cell) else(n,k),isGenerator:=scope.isGenerator,isCoroutine:=scope.isCoroutine,more:=scope.more }
noncomputable def zg1 (kvs:List (Key×V))(t:TA):TE:=λσ H Q=>t σ H λvs H1=>∃ k z,vs=[kV k,z]/\Q ((valV kvs k).getD z) H1
theorem zct {X:Cx}{x:Str}{p apos cpos:Pos}{e f:Expr}{t:TA}{kvs:List (Key×V)}(hm:∃ a,X.mg x=some (.ref a)/\K6 X.w X.K a kvs)(ha:PA X [e,f] t)(hg:Gl X x)(hd:(x == ("__debug__":Str))=false)(hs:noSt [e,f]=true)
  (hl:(apos.endLine == cpos.line)=true):PE X (.Call (.Attribute (.Name x p) "get" apos) [e,f] [] cpos) (zg1 kvs t):=by
 intro pins s σ H Q I h
 obtain⟨a,hm,D⟩:=hm
 refine wpAny_Call_method (z5 rfl) (vK hs (by simp)) hl Gk Uz PySem.F.type_dict_get (Zj I hg hm ?_ hd)
 obtain⟨h0,vs,rel,dd⟩:=D.at I
 refine⟨dd.typeIs,λb q=>?_,?_⟩
 ·cases q
  obtain⟨ob,_,_,h1,h2,_⟩:=dd
  exact⟨ob,h1,h2.2.1⟩
 have hA:=ha cpos pins s σ H _ I h
 obtain⟨s1,s2⟩:=zM hs
 rw [zj s1] at hA ⊢
 refine Calls.callWith_builtin (by show(false||(backTo cpos (starEach [f] X.env)).any (·.1))=false;rw [qQ s2]<;>rfl) (Calls.evalArgs_plain ?_)
 refine thn hA λus s2 ⟨xs,H2,I2,r,k,z,ex,q2⟩=>?_
 subst ex
 obtain⟨u1,u2,rfl,r1,r2⟩:=vals2 r
 obtain⟨_,vs2,rel2,dd2⟩:=D.at I2
 refine call_meetsIn Uz dd2.typeIs gv (gj _ _ _) (meets_dict_get_default (zE X.prog X.w) a (Zo r1) h0 u2) ⟨_,dd2.mapOf,_,H2,I2.tok _,?_,q2⟩
 exact(rel2.val k).getD r2
theorem zfF {l m:Lc}(h:S l=S m):l=m:=by
 have:(S l).cps.toList=(S m).cps.toList:=by rw [h]
 simpa [S] using this
noncomputable def iAny (K:Le)(tl:TE):TI:=λσ H R=>tl σ H λx H1=>(∃ a,x=.ref a/\(∃ xs,SqL K H1 a xs)/\R (Itl K a) H1)\/(∃ z,x=.str z/\R (Its z) H1)\/∃ a,x=.ref a/\(∃ xs,SqT K H1 a xs)/\R (Itt K a) H1
theorem zg2 {X:Cx}{K:Le}{tg l:Expr}{tl:TE}(hK:X.K=K)(hl:PE X l tl):PI X tg l (iAny K tl):=by
 subst hK
 intro pins s σ H R I h
 refine thn (hl pins s σ H _ I h) λv s1 ⟨x,H1,I1,r1,q1⟩=>?_
 rcases q1 with⟨a,e,⟨xs,hq⟩,q⟩ | ⟨z,rfl,q⟩ | ⟨a,e,⟨xs,hq⟩,q⟩
 ·subst e
  cases r1
  obtain⟨its,rv,p,hz⟩:=I1.list hq
  refine wpAny_pyIter_list p.isList ?_
  refine⟨s1.heap.objs.size,[s1.heap.objs.size],_,_,H1,rfl,I1.kept (t':=s1.toks) λb o e=>Heap.get?_push_of_some _ e,zaY a _,⟨_,Heap.get?_push_size _ rfl,rfl,rfl⟩,λb hb=>?_,q⟩
  have e:b=s1.heap.objs.size:=by simpa using hb
  subst e
  exact I1.fpOk (ui _) (I1.hok.fresh (ui _))
 ·obtain⟨t,rfl⟩:=r1
  have fin:∀ (ty:String) (o:Obj),Turn X.prog X.w X.K tg (Its z) [s1.heap.objs.size] s1.heap.objs.size (λi h=>h.IsStrIter s1.heap.objs.size ty z t i)->(s1.heap.push o).IsStrIter s1.heap.objs.size ty z t 0 ->
    PIE X pins σ tg R (.ref s1.heap.objs.size) { s1 with heap:=s1.heap.push o }:=λty o T st=>by
   refine⟨s1.heap.objs.size,[s1.heap.objs.size],_,_,H1,rfl,I1.kept (t':=s1.toks) λb o e=>Heap.get?_push_of_some _ e,T,st,λb hb=>?_,q⟩
   have e:b=s1.heap.objs.size:=by simpa using hb
   subst e
   exact I1.fpOk (ui _) (I1.hok.fresh (ui _))
  cases ha:z.cps.all (· < 128)
  ·refine wpAny_pyIter_wide ha (fin "str_iterator" _ (Qo (by decide) (λA' hA=>Walks.strWide hA _ z t) ?_ ?_) ⟨_,Heap.get?_push_size _ rfl,rfl,rfl⟩)
   ·intro A' s i E Q hA st hx hq
    exact wpAny_pyNext_wide_end hA st hx hq
   ·intro A' s i E Q st h
    exact wpAny_pyIter_striter_wide st h
  ·refine wpAny_pyIter_ascii ha (fin "str_ascii_iterator" _ (Qo (by decide) (λA' hA=>Walks.strAscii hA _ z t) ?_ ?_) ⟨_,Heap.get?_push_size _ rfl,rfl,rfl⟩)
   ·intro A' s i E Q hA st hx hq
    exact wpAny_pyNext_ascii_end hA st hx hq
   ·intro A' s i E Q st h
    exact wpAny_pyIter_striter_ascii st h
 ·subst e
  cases r1
  obtain⟨its,rv,p,hz⟩:=I1.tuple hq
  refine wpAny_pyIter_tuple (show s1.heap.IsTuple a its.toArray from p) ?_
  refine⟨s1.heap.objs.size,[s1.heap.objs.size],_,_,H1,rfl,I1.kept (t':=s1.toks) λb o e=>Heap.get?_push_of_some _ e,YL a _,⟨_,Heap.get?_push_size _ rfl,rfl,rfl⟩,λb hb=>?_,q⟩
  have e:b=s1.heap.objs.size:=by simpa using hb
  subst e
  exact I1.fpOk (ui _) (I1.hok.fresh (ui _))
inductive Kd where
 | ls | dc (ks:List Key) | ob (c:Nat) (fs:Lh)
inductive T where
 | non | bl (b:Bool) | int (i:Int) | str (t:Lc)
 | tp (xs:List T) | nd (o:Bool) (k:Kd) (xs:List T)
 | ks (l:Bool) (xs:List T) | xo (c:Nat) (fs:Lh) (xs:List T) | any
mutual
noncomputable def frz:T->T
 | .tp xs=>.tp (frzs xs)
 | .nd _ k xs=>.nd false k (frzs xs)
 | .ks l xs=>.ks l (frzs xs)
 | .xo c fs xs=>.xo c fs (frzs xs)
 | t=>t
noncomputable def frzs:List T->List T
 | []=>[]
 | t::ts=>frz t::frzs ts
end
mutual
noncomputable def shr:T->Bool
 | .tp xs=>shrs xs
 | .nd o _ _=>!o
 | _=>true
noncomputable def shrs:List T->Bool
 | []=>true
 | t::ts=>shr t&&shrs ts
end
mutual
noncomputable def view:T->T
 | .tp xs=>.tp (views xs)
 | .nd o k xs=>cond o .any (.nd false k xs)
 | t=>t
noncomputable def views:List T->List T
 | []=>[]
 | t::ts=>view t::views ts
end
mutual
theorem zcu:∀ t:T,shr (view t)=true
 | .non=>rfl
 | .bl _=>rfl
 | .int _=>rfl
 | .str _=>rfl
 | .any=>rfl
 | .ks _ _=>rfl
 | .xo _ _ _=>rfl
 | .tp ts=>vL ts
 | .nd true _ _=>rfl
 | .nd false _ _=>rfl
theorem vL:∀ ts:List T,shrs (views ts)=true
 | []=>rfl
 | t::ts=>uF.mpr ⟨zcu t,vL ts⟩
end
mutual
theorem zeC:∀ {t:T},shr t=true->view t=t
 | .non,_=>rfl
 | .bl _,_=>rfl
 | .int _,_=>rfl
 | .str _,_=>rfl
 | .any,_=>rfl
 | .ks _ _,_=>rfl
 | .xo _ _ _,_=>rfl
 | .tp ts,h=>congrArg T.tp (Jn (ts:=ts) h)
 | .nd true _ _,h=>by cases h
 | .nd false _ _,_=>rfl
theorem Jn:∀ {ts:List T},shrs ts=true->views ts=ts
 | [],_=>rfl
 | t::ts,h=>by
  obtain⟨h1,h2⟩:=uF.mp h
  rw [views,zeC h1,Jn h2]
end
theorem Z3:∀ ts:List T,(views ts).length=ts.length
 | []=>rfl
 | t::ts=>congrArg (· + 1) (Z3 ts)
structure Wd where
 K:Le
 cl:Nat->Addr
 mg:Str->Option Value
 P:Program
 w:World
 base:Heap
noncomputable def ObK (W:Wd):Kd->List V->HO->Prop
 | .ls,vs,o=>o=.lst vs
 | .dc ks,vs,o=>∃ kvs,o=.dK kvs/\kvs.map (·.1)=ks/\kvs.map (·.2)=vs
 | .ob c fs,vs,o=>∃ dx kvs,o=.ins (W.cl c) dx kvs/\kvs.map (·.1)=fs/\kvs.map (·.2)=vs
variable {W:Wd}
mutual
noncomputable def IsV (W:Wd)(F:Hp):T->V->Prop
 | .non,v=>v=.non
 | .bl b,v=>v=.bl b
 | .int i,v=>v=.int i
 | .str t,v=>v=.str (S t)/\t.length<=16777216
 | .tp ts,v=>∃ p vs,v=.ref p/\F p=some (.tup vs)/\IsVs W F ts vs
 | .nd b k ts,v=>∃ p vs o,v=.ref p/\F p=some o/\ObK W k vs o/\(b=false->shrs ts=true)/\IsVs W F ts vs
 | .ks l ts,v=>∃ p vs,v=.ref p/\(if l=true then SqL W.K F p vs else SqT W.K F p vs)/\shrs ts=true/\IsVs W F ts vs
 | .xo c fs ts,v=>∃ p kvs,v=.ref p/\GotX W.K F p (W.cl c) kvs/\kvs.map (·.1)=fs/\shrs ts=true/\IsVs W F ts (kvs.map (·.2))
 | .any,_=>True
noncomputable def IsVs (W:Wd)(F:Hp):List T->List V->Prop
 | [],vs=>vs=[]
 | d::ds,vs=>∃ v r,vs=v::r/\IsV W F d v/\IsVs W F ds r
end
theorem Jo {K:Le}{H H':Hp}(g:Same H H'){a:Addr}{xs:List V}(h:SqL K H a xs):SqL K H' a xs:=by
 rcases h with(h | ⟨o,h⟩) | h
 ·exact .inl (.inl (g _ _ h))
 ·exact .inl (.inr ⟨o,g _ _ h⟩)
 ·exact .inr h
theorem Jp {K:Le}{H H':Hp}(g:Same H H'){a:Addr}{xs:List V}(h:SqT K H a xs):SqT K H' a xs:=by
 rcases h with(h | ⟨o,h⟩) | h
 ·exact .inl (.inl (g _ _ h))
 ·exact .inl (.inr ⟨o,g _ _ h⟩)
 ·exact .inr h
mutual
theorem IsV.mono {F F':Hp}(g:Same F F'):∀ {d:T} {v:V},IsV W F d v->IsV W F' d v
 | .non,_,h=>h
 | .bl _,_,h=>h
 | .int _,_,h=>h
 | .str _,_,h=>h
 | .any,_,h=>h
 | .tp _,_,⟨p,vs,e,h1,h2⟩=>⟨p,vs,e,g _ _ h1,IsVs.mono g h2⟩
 | .nd _ _ _,_,⟨p,vs,o,e,h1,h2,h3,h4⟩=>⟨p,vs,o,e,g _ _ h1,h2,h3,IsVs.mono g h4⟩
 | .ks true _,_,⟨p,vs,e,h1,h2,h3⟩=>⟨p,vs,e,Jo g h1,h2,IsVs.mono g h3⟩
 | .ks false _,_,⟨p,vs,e,h1,h2,h3⟩=>⟨p,vs,e,Jp g h1,h2,IsVs.mono g h3⟩
 | .xo _ _ _,_,⟨p,vs,e,h1,h4,h5,h6⟩=>⟨p,vs,e,h1.mono g,h4,h5,IsVs.mono g h6⟩
theorem IsVs.mono {F F':Hp}(g:Same F F'):∀ {ds:List T} {vs:List V},IsVs W F ds vs->IsVs W F' ds vs
 | [],_,h=>h
 | _::_,_,⟨v,r,e,h1,h2⟩=>⟨v,r,e,IsV.mono g h1,IsVs.mono g h2⟩
end
mutual
theorem vM:∀ t:T,shr (frz t)=true
 | .non=>rfl
 | .bl _=>rfl
 | .int _=>rfl
 | .str _=>rfl
 | .any=>rfl
 | .ks _ _=>rfl
 | .xo _ _ _=>rfl
 | .tp ts=>xm ts
 | .nd _ _ _=>rfl
theorem xm:∀ ts:List T,shrs (frzs ts)=true
 | []=>rfl
 | t::ts=>uF.mpr ⟨vM t,xm ts⟩
end
mutual
theorem IsV.frz {F:Hp}:∀ {d:T} {v:V},IsV W F d v->IsV W F (frz d) v
 | .non,_,h=>h
 | .bl _,_,h=>h
 | .int _,_,h=>h
 | .str _,_,h=>h
 | .any,_,h=>h
 | .ks _ ts,_,⟨p,vs,e,h1,_,h2⟩=>⟨p,vs,e,h1,xm ts,IsVs.frz h2⟩
 | .xo _ _ ts,_,⟨p,vs,e,h1,h2,_,h3⟩=>⟨p,vs,e,h1,h2,xm ts,IsVs.frz h3⟩
 | .tp _,_,⟨p,vs,e,h1,h2⟩=>⟨p,vs,e,h1,IsVs.frz h2⟩
 | .nd _ _ ts,_,⟨p,vs,o,e,h1,h2,_,h3⟩=>⟨p,vs,o,e,h1,h2,λ_=>xm ts,IsVs.frz h3⟩
theorem IsVs.frz {F:Hp}:∀ {ds:List T} {vs:List V},IsVs W F ds vs->IsVs W F (frzs ds) vs
 | [],_,h=>h
 | _::_,_,⟨v,r,e,h1,h2⟩=>⟨v,r,e,IsV.frz h1,IsVs.frz h2⟩
end
mutual
theorem IsV.view {F:Hp}:∀ {d:T} {v:V},IsV W F d v->IsV W F (view d) v
 | .non,_,h=>h
 | .bl _,_,h=>h
 | .int _,_,h=>h
 | .str _,_,h=>h
 | .any,_,h=>h
 | .ks _ _,_,h=>h
 | .xo _ _ _,_,h=>h
 | .tp _,_,⟨p,vs,e,h1,h2⟩=>⟨p,vs,e,h1,IsVs.view h2⟩
 | .nd true _ _,_,_=>trivial
 | .nd false _ _,_,h=>h
theorem IsVs.view {F:Hp}:∀ {ds:List T} {vs:List V},IsVs W F ds vs->IsVs W F (views ds) vs
 | [],_,h=>h
 | _::_,_,⟨v,r,e,h1,h2⟩=>⟨v,r,e,IsV.view h1,IsVs.view h2⟩
end
theorem IsVs.len {F:Hp}:∀ {ds:List T} {vs:List V},IsVs W F ds vs->vs.length=ds.length
 | [],_,h=>by rw [show _=[] from h];rfl
 | _::_,_,⟨v,r,e,_,h2⟩=>by rw [e,ub,ub,IsVs.len h2]
inductive AT where
 | lf (t:T) (v:V) | tp (a:Addr) (xs:List AT) | nd (a:Addr) (k:Kd) (xs:List AT)
noncomputable def val:AT->V
 | .lf _ v=>v
 | .tp a _=>.ref a
 | .nd a _ _=>.ref a
noncomputable abbrev vals (xs:List AT):List V:=xs.map val
mutual
noncomputable def era:AT->T
 | .lf t _=>t
 | .tp _ xs=>.tp (eras xs)
 | .nd _ k xs=>.nd true k (eras xs)
noncomputable def eras:List AT->List T
 | []=>[]
 | a::as=>era a::eras as
end
mutual
noncomputable def ads:AT->List Addr
 | .lf _ _=>[]
 | .tp _ xs=>adss xs
 | .nd a _ xs=>a::adss xs
noncomputable def adss:List AT->List Addr
 | []=>[]
 | a::as=>ads a++adss as
end
mutual
noncomputable def OK (W:Wd)(F H:Hp):AT->Prop
 | .lf t v=>shr t=true/\IsV W F t v
 | .tp a xs=>F a=some (.tup (vals xs))/\OKs W F H xs
 | .nd a k xs=>(∃ o,H a=some o/\ObK W k (vals xs) o)/\OKs W F H xs
noncomputable def OKs (W:Wd)(F H:Hp):List AT->Prop
 | []=>True
 | a::as=>OK W F H a/\OKs W F H as
end
theorem zB {F H:Hp}:∀ {as:List AT},OKs W F H as↔∀ a∈as,OK W F H a
 | []=>⟨λ_ _ h=>(by cases h),λ_=>trivial⟩
 | a::as=>by
  rw [gD]
  exact and_congr Iff.rfl zB
theorem zl:∀ {as:List AT},eras as=as.map era
 | []=>rfl
 | a::as=>congrArg (era a::·) (zl (as:=as))
theorem qT:∀ {as:List AT},adss as=as.flatMap ads
 | []=>rfl
 | a::as=>by rw [List.flatMap_cons,← qT];rfl
theorem z6 {as bs:List AT}:adss (as++bs)=adss as++adss bs:=by rw [qT,qT,qT,U0]
mutual
theorem OK.ext {F F' H H':Hp}(g:Same F F'):∀ {a:AT},OK W F H a->(∀ b∈ads a,∀ x,H b=some x->H' b=some x)->OK W F' H' a
 | .lf _ _,h,_=>⟨h.1,h.2.mono g⟩
 | .tp _ _,h,k=>⟨g _ _ h.1,OKs.ext g h.2 k⟩
 | .nd _ _ _,⟨⟨o,h1,h2⟩,h3⟩,k=>⟨⟨o,k _ uf _ h1,h2⟩,OKs.ext g h3 λb hb=>k b (uh _ hb)⟩
theorem OKs.ext {F F' H H':Hp}(g:Same F F'):∀ {as:List AT},OKs W F H as->(∀ b∈adss as,∀ x,H b=some x->H' b=some x)->OKs W F' H' as
 | [],_,_=>trivial
 | _::_,h,k=>⟨OK.ext g h.1 λb hb=>k b (uX _ hb),OKs.ext g h.2 λb hb=>k b (uB _ hb)⟩
end
mutual
theorem OK.cell {F H:Hp}:∀ {a:AT},OK W F H a->∀ b∈ads a,∃ x,H b=some x
 | .lf _ _,_,b,hb=>by cases hb
 | .tp _ _,h,b,hb=>OKs.cell h.2 b hb
 | .nd _ _ _,⟨⟨o,h1,_⟩,h3⟩,b,hb=>(um.mp hb).elim (λz=>⟨o,by rw [z];exact h1⟩) (OKs.cell h3 b)
theorem OKs.cell {F H:Hp}:∀ {as:List AT},OKs W F H as->∀ b∈adss as,∃ x,H b=some x
 | [],_,b,hb=>by cases hb
 | _::_,h,b,hb=>(ur.mp hb).elim (OK.cell h.1 b) (OKs.cell h.2 b)
end
mutual
theorem OK.isv {F F' H:Hp}(g:Same F F'):∀ {a:AT},OK W F H a->(∀ b∈ads a,∀ x,H b=some x->F' b=some x)->IsV W F' (era a) (val a)
 | .lf _ _,h,_=>h.2.mono g
 | .tp a xs,h,k=>⟨a,vals xs,rfl,g _ _ h.1,OKs.isv g h.2 k⟩
 | .nd a _ xs,⟨⟨o,h1,h2⟩,h3⟩,k=>⟨a,vals xs,o,rfl,k _ uf _ h1,h2,nofun,OKs.isv g h3 λb hb=>k b (uh _ hb)⟩
theorem OKs.isv {F F' H:Hp}(g:Same F F'):∀ {as:List AT},OKs W F H as->(∀ b∈adss as,∀ x,H b=some x->F' b=some x)->IsVs W F' (eras as) (vals as)
 | [],_,_=>rfl
 | _::_,h,k=>⟨_,_,rfl,OK.isv g h.1 λb hb=>k b (uX _ hb),OKs.isv g h.2 λb hb=>k b (uB _ hb)⟩
end
theorem OK.now {F H:Hp}(g:Same F H){a:AT}(h:OK W F H a):IsV W H (era a) (val a):=h.isv g λ_ _ _ e=>e
mutual
theorem OK.leaf {F H:Hp}:∀ {a:AT},OK W F H a->shr (era a)=true->ads a=[]/\IsV W F (era a) (val a)
 | .lf _ _,h,_=>⟨rfl,h.2⟩
 | .tp a xs,h,s=>by
  obtain⟨e,k⟩:=OKs.leaf h.2 s
  exact⟨e,a,vals xs,rfl,h.1,k⟩
 | .nd _ _ _,_,s=>by cases s
theorem OKs.leaf {F H:Hp}:∀ {as:List AT},OKs W F H as->shrs (eras as)=true->adss as=[]/\IsVs W F (eras as) (vals as)
 | [],_,_=>⟨rfl,rfl⟩
 | _::_,h,s=>by
  obtain⟨s1,s2⟩:=uF.mp s
  obtain⟨e1,k1⟩:=OK.leaf h.1 s1
  obtain⟨e2,k2⟩:=OKs.leaf h.2 s2
  exact⟨by rw [adss,e1,e2];rfl,_,_,rfl,k1,k2⟩
end
mutual
theorem OK.view {F H:Hp}:∀ {a:AT},OK W F H a->IsV W F (view (era a)) (val a)
 | .lf _ _,h=>h.2.view
 | .tp a xs,h=>⟨a,vals xs,rfl,h.1,OKs.view h.2⟩
 | .nd _ _ _,_=>trivial
theorem OKs.view {F H:Hp}:∀ {as:List AT},OKs W F H as->IsVs W F (views (eras as)) (vals as)
 | [],_=>rfl
 | _::_,h=>⟨_,_,rfl,OK.view h.1,OKs.view h.2⟩
end
noncomputable def leaves:List T->List V->List AT
 | t::ts,v::vs=>.lf t v::leaves ts vs
 | _,_=>[]
theorem Z4 {F H:Hp}:∀ {ts:List T} {vs:List V},IsVs W F ts vs->shrs ts=true->OKs W F H (leaves ts vs)/\eras (leaves ts vs)=ts/\vals (leaves ts vs)=vs/\adss (leaves ts vs)=[]
 | [],_,h,_=>by rw [show _=[] from h];exact⟨trivial,rfl,rfl,rfl⟩
 | _::_,_,⟨v,r,e,h1,h2⟩,s=>by
  obtain⟨s1,s2⟩:=uF.mp s
  subst e
  obtain⟨k1,k2,k3,k4⟩:=Z4 (H:=H) h2 s2
  exact⟨⟨⟨s1,h1⟩,k1⟩,congrArg _ k2,congrArg _ k3,k4⟩
structure St (W:Wd)(F H:Hp)(as:List AT):Prop where
 fh:Same F H
 ok:OKs W F H as
 nd:(adss as).Nodup
 fr:∀ b∈adss as,F b=none
section
variable {F H F' H':Hp} {as bs γ:List AT} {a:AT} {p:Addr}
theorem St.perm (h:St W F H as)(e:as.Perm bs):St W F H bs:=by
 have pe:(adss as).Perm (adss bs):=by rw [qT,qT];exact e.flatMap_right _
 exact⟨h.fh,zB.mpr λa ha=>zB.mp h.ok a (e.mem_iff.mpr ha),pe.nodup_iff.mp h.nd,λb hb=>h.fr b (pe.mem_iff.mpr hb)⟩
theorem St.right (h:St W F H (as++bs)):St W F H bs:=by
 have nd:=h.nd
 have fr:=h.fr
 rw [z6] at nd fr
 exact⟨h.fh,zB.mpr λa ha=>zB.mp h.ok a (uB _ ha),(UB.mp nd).2.1,λb hb=>fr b (uB _ hb)⟩
theorem St.tail (h:St W F H (a::γ)):St W F H γ:=St.right (as:=[a]) h
theorem St.left (h:St W F H (as++bs)):OKs W F H as:=zB.mpr λa ha=>zB.mp h.ok a (uX _ ha)
theorem St.ext (h:St W F H as)(g:Same F F')(fh:Same F' H')(k:∀ b∈adss as,∀ x,H b=some x->H' b=some x)(fr:∀ b∈adss as,F' b=none):St W F' H' as:=⟨fh,h.ok.ext g k,h.nd,fr⟩
theorem kQ (g:Same F H)(hp:H p=none):F p=none:=by
 cases q:F p with
 | none=>rfl
 | some u=>rw [g _ _ q] at hp;cases hp
theorem St.none (h:St W F H as)(hp:H p=Option.none):p∉adss as:=λz=>by
 obtain⟨x,e⟩:=h.ok.cell p z
 rw [hp] at e;cases e
theorem St.alloc {o:HO}(h:St W F H as)(hp:H p=Option.none):St W F (upd H p o) as:=
 h.ext (λ_ _ e=>e) (λb u e=>vp hp _ _ (h.fh _ _ e)) (λb _ x e=>vp hp _ _ e) h.fr
theorem St.allocF {o:HO}(h:St W F H as)(hp:H p=Option.none):St W (upd F p o) (upd H p o) as:=by
 refine h.ext (vp (kQ h.fh hp)) (λb u e=>?_) (λb _ x e=>vp hp _ _ e) λb hb=>?_
 ·unfold upd at e ⊢
  split
  ·rw [uw (by assumption)] at e;exact e
  ·rw [uv (by assumption)] at e;exact h.fh _ _ e
 ·rw [zU λz:b=p=>h.none hp (z ▸ hb)];exact h.fr b hb
theorem St.leaf {t:T}{v:V}(h:St W F H γ)(s:shr t=true)(i:IsV W F t v):St W F H (.lf t v::γ):=⟨h.fh,⟨⟨s,i⟩,h.ok⟩,h.nd,h.fr⟩
theorem St.leaves {ts:List T}{vs:List V}(h:St W F H γ)(i:IsVs W F ts vs)(s:shrs ts=true):St W F H (leaves ts vs++γ)/\eras (leaves ts vs)=ts/\vals (leaves ts vs)=vs:=by
 obtain⟨k1,k2,k3,k4⟩:=Z4 (H:=H) i s
 refine⟨⟨h.fh,zB.mpr λa ha=>?_,by rw [z6,k4];exact h.nd,by rw [z6,k4];exact h.fr⟩,k2,k3⟩
 rcases ur.mp ha with z | z
 ·exact zB.mp k1 a z
 ·exact zB.mp h.ok a z
theorem St.node {k:Kd}{o:HO}(h:St W F H (as++γ))(hp:H p=Option.none)(ob:ObK W k (vals as) o):St W F (upd H p o) (.nd p k as::γ):=by
 have h':=h.alloc (o:=o) hp
 have n:=h.none hp
 have nd:=h.nd
 refine⟨h'.fh,⟨⟨⟨o,jY,ob⟩,h'.left⟩,h'.right.ok⟩,?_,?_⟩
 ·rw [z6] at n nd
  exact Uc.mpr ⟨n,nd⟩
 ·intro b hb
  rcases um.mp hb with z | z
  ·rw [z];exact kQ h.fh hp
  ·exact h.fr b (by rw [z6];exact z)
theorem St.tuple (h:St W F H (as++γ))(hp:H p=Option.none):St W (upd F p (.tup (vals as))) (upd H p (.tup (vals as))) (.tp p as::γ):=by
 have h':=h.allocF (o:=.tup (vals as)) hp
 have nd:=h'.nd
 have fr:=h'.fr
 rw [z6] at nd fr
 exact⟨h'.fh,⟨⟨jY,h'.left⟩,h'.right.ok⟩,nd,fr⟩
theorem St.open {k:Kd}(h:St W F H (.nd p k as::γ)):St W F H (as++γ):=by
 have nd:=h.nd
 refine⟨h.fh,zB.mpr λa ha=>?_,by rw [z6];exact(Uc.mp nd).2,λb hb=>h.fr b (uh _ (by rw [z6] at hb;exact hb))⟩
 rcases ur.mp ha with z | z
 ·exact zB.mp h.ok.1.2 a z
 ·exact zB.mp h.ok.2 a z
theorem St.openT (h:St W F H (.tp p as::γ)):St W F H (as++γ):=by
 refine⟨h.fh,zB.mpr λa ha=>?_,by rw [z6];exact h.nd,λb hb=>h.fr b (by rw [z6] at hb;exact hb)⟩
 rcases ur.mp ha with z | z
 ·exact zB.mp h.ok.1.2 a z
 ·exact zB.mp h.ok.2 a z
theorem St.mut {k k':Kd}{ys zs ws:List AT}{o:HO}(h:St W F H (.nd p k as::(ys++γ)))(e:(as++ys).Perm (zs++ws))(ob:ObK W k' (vals zs) o):St W F (upd H p o) (.nd p k' zs::(ws++γ)):=by
 have np:p∉adss (as++(ys++γ)):=by
  have:=(Uc.mp h.nd).1
  rw [z6];exact this
 have h1:St W F H (zs++(ws++γ)):=h.open.perm (by rw [← ud,← ud];exact e.append_right _)
 have np':p∉adss (zs++(ws++γ)):=λz=>np (by
  have pe:(adss (as++(ys++γ))).Perm (adss (zs++(ws++γ))):=by
   rw [qT,qT]
   refine List.Perm.flatMap_right _ ?_
   rw [← ud,← ud];exact e.append_right _
  exact pe.mem_iff.mpr z)
 have fp:F p=Option.none:=h.fr p uf
 have ok:=h1.ok.ext (F':=F) (H':=upd H p o) (λ_ _ e=>e) λb hb x e=>by rw [zU λz:b=p=>np' (z ▸ hb)];exact e
 refine⟨λb u e=>?_,⟨⟨⟨o,jY,ob⟩,zB.mpr λa ha=>zB.mp ok a (uX _ ha)⟩,zB.mpr λa ha=>zB.mp ok a (uB _ ha)⟩,?_,?_⟩
 ·rw [zU λz=>by rw [z,fp] at e;cases e];exact h.fh _ _ e
 ·have nd:=h1.nd
  rw [z6] at np' nd
  exact Uc.mpr ⟨np',nd⟩
 ·intro b hb
  rcases um.mp hb with z | z
  ·rw [z];exact fp
  ·exact h1.fr b (by rw [z6];exact z)
noncomputable def adds (F H:Hp)(A:Ld):Hp:=λb=>if b∈A then H b else F b
theorem St.frz (h:St W F H (a::γ)):∃ F',Same F F'/\St W F' H (.lf (frz (era a)) (val a)::γ):=by
 have nd:=UB.mp h.nd
 have g:Same F (adds F H (ads a)):=λb o e=>by
  unfold adds
  rw [uv (λz=>by rw [h.fr b (uX _ z)] at e;cases e)];exact e
 have iv:=h.ok.1.isv (F':=adds F H (ads a)) g λb hb x e=>by unfold adds;rw [uw hb];exact e
 refine⟨_,g,St.leaf (h.tail.ext g (λb o e=>?_) (λ_ _ _ e=>e) λb hb=>?_) (vM _) iv.frz⟩
 ·unfold adds at e
  split at e
  ·exact e
  ·exact h.fh _ _ e
 ·unfold adds
  rw [uv λz=>nd.2.2 b z b hb rfl]
  exact h.fr b (uB _ hb)
end
end L5
namespace L5
open PySem L2 PySem.Spec PyProof.Rows
variable {W:Wd}
@[reducible] def bnd {α:Type}(o:Option α)(Q:α->Prop):Prop:=Option.rec (motive:=λ_=>Prop) False Q o
@[reducible] def brn (b:Bool)(p q:Prop):Prop:=Bool.rec (motive:=λ_=>Prop) q p b
theorem za {α:Type}{o:Option α}{z:α}{Q:α->Prop}(h:o=some z)(q:Q z):Option.rec (motive:=λ_=>Prop) False Q o:=by subst h;exact q
theorem zz {α:Type}{o:Option α}{Q:α->Prop}(h:bnd o Q):∃ z,o=some z/\Q z:=by
 cases o with
 | none=>exact h.elim
 | some z=>exact⟨z,rfl,h⟩
theorem zA {b:Bool}{p q:Prop}(h1:b=true->p)(h2:b=false->q):Bool.rec (motive:=λ_=>Prop) q p b:=by
 cases b with
 | true=>exact h1 rfl
 | false=>exact h2 rfl
noncomputable def two {α β γ:Type}(a:Option α)(b:Option β)(f:α->β->Option γ):Option γ:=a.bind λx=>b.bind λy=>f x y
theorem zb {α β:Type}{a:Option α}{f:α->Option β}{z:β}(h:a.bind f=some z):∃ x,a=some x/\f x=some z:=Option.bind_eq_some_iff.mp h
theorem zt {α β γ:Type}{a:Option α}{b:Option β}{f:α->β->Option γ}{z:γ}(h:two a b f=some z):∃ x y,a=some x/\b=some y/\f x y=some z:=by
 obtain⟨x,e1,h⟩:=zb h
 obtain⟨y,e2,h⟩:=zb h
 exact⟨x,y,e1,e2,h⟩
noncomputable def mapO {α:Type}(f:α->Option α):List α->Option (List α)
 | []=>some []
 | x::s=>two (f x) (mapO f s) λy ys=>some (y::ys)
noncomputable def putN {α:Type}:List α->Nat->α->Option (List α)
 | [],_,_=>none
 | _::xs,0,y=>some (y::xs)
 | x::xs,j+1,y=>(putN xs j y).bind λys=>some (x::ys)
theorem Zp {α:Type}:∀ {xs ys:List α} {j:Nat} {y:α},putN xs j y=some ys->j<xs.length/\ys=xs.set j y
 | [],_,_,_,h=>by cases h
 | _::xs,_,0,_,h=>by cases h;exact⟨Nat.succ_pos _,rfl⟩
 | x::xs,_,j+1,y,h=>by
  obtain⟨zs,e,h⟩:=zb h
  cases h
  obtain⟨h1,h2⟩:=Zp e
  exact⟨gT h1,by rw [h2];rfl⟩
theorem Zq {α:Type}:∀ {xs:List α} {j:Nat} {y:α},j<xs.length->putN xs j y=some (xs.set j y)
 | [],_,_,h=>by cases h
 | _::xs,0,_,_=>rfl
 | x::xs,j+1,y,h=>by rw [putN,Zq (Nat.lt_of_succ_lt_succ h)];rfl
noncomputable def kidT:T->Option (List T)
 | .tp xs=>some xs
 | .nd true _ xs=>some xs
 | _=>none
noncomputable def zfG:T->List T->Option T
 | .tp _,ys=>some (.tp ys)
 | .nd true k _,ys=>some (.nd true k ys)
 | _,_=>none
noncomputable def getT:Lc->T->Option T
 | [],t=>some t
 | j::p,t=>(kidT t).bind λxs=>(xs[j]?).bind λx=>getT p x
noncomputable def setT:Lc->T->T->Option T
 | [],_,n=>some n
 | j::p,t,n=>(kidT t).bind λxs=>(xs[j]?).bind λx=>(setT p x n).bind λy=>(putN xs j y).bind λys=>zfG t ys
noncomputable def kidA:AT->Option (List AT)
 | .tp _ xs=>some xs
 | .nd _ _ xs=>some xs
 | .lf _ _=>none
noncomputable def Jq:AT->List AT->AT
 | .tp a _,ys=>.tp a ys
 | .nd a k _,ys=>.nd a k ys
 | .lf t v,_=>.lf t v
noncomputable def getA:Lc->AT->Option AT
 | [],a=>some a
 | j::p,a=>(kidA a).bind λxs=>(xs[j]?).bind λx=>getA p x
noncomputable def setA:Lc->AT->AT->AT
 | [],_,n=>n
 | j::p,a,n=>match kidA a with
  | some xs=>match xs[j]? with
   | some x=>Jq a (xs.set j (setA p x n))
   | none=>a
  | none=>a
theorem qg {j:Nat}{p:Lc}{a u:AT}(h:getA (j::p) a=some u):∃ xs x,kidA a=some xs/\xs[j]? = some x/\getA p x=some u/\∀ n,setA (j::p) a n=Jq a (xs.set j (setA p x n)):=by
 obtain⟨xs,e1,h⟩:=zb h
 obtain⟨x,e2,h⟩:=zb h
 exact⟨xs,x,e1,e2,h,λn=>by simp only [setA,e1,e2]⟩
section
variable {a b u w x:AT} {F H:Hp} {γ:List AT}
theorem QP {xs:List AT}(h:kidA a=some xs):kidT (era a)=some (eras xs)/\(∀ ys,zfG (era a) (eras ys)=some (era (Jq a ys)))/\(∀ ys,val (Jq a ys)=val a):=by
 cases a<;>cases h<;>exact⟨rfl,λ_=>rfl,λ_=>rfl⟩
theorem Jr {xs:List AT}{j:Nat}(h:xs[j]? = some x):(eras xs)[j]? = some (era x):=by rw [zl,ux,h];rfl
theorem v8 {α:Type}{l:List α}{i:Nat}{x:α}(h:l[i]? = some x):i<l.length:=(uN.mp h).1
theorem QQ:∀ {p:Lc} {a u:AT},getA p a=some u->getT p (era a)=some (era u)
 | [],_,_,h=>by cases h;rfl
 | j::p,a,u,h=>by
  obtain⟨xs,x,e1,e2,e3,_⟩:=qg h
  simp only [getT,(QP e1).1,uT,Jr e2]
  exact QQ e3
theorem K9:∀ {p:Lc} {a u w:AT},getA p a=some u->setT p (era a) (era w)=some (era (setA p a w))
 | [],_,_,_,_=>rfl
 | j::p,a,u,w,h=>by
  obtain⟨xs,x,e1,e2,e3,e4⟩:=qg h
  have hj:j<(eras xs).length:=v8 (Jr e2)
  simp only [setT,(QP e1).1,uT,Jr e2,K9 (w:=w) e3,Zq hj,e4]
  rw [show(eras xs).set j (era (setA p x w))=eras (xs.set j (setA p x w)) by rw [zl,zl,gx]]
  exact(QP e1).2.1 _
theorem XB:∀ {p:Lc} {a u w:AT},getA p a=some u->val w=val u->val (setA p a w)=val a
 | [],_,_,_,h,e=>by cases h;exact e
 | j::p,a,u,w,h,e=>by
  obtain⟨xs,x,e1,e2,e3,e4⟩:=qg h
  rw [e4];exact(QP e1).2.2 _
theorem Js {α:Type}{l:List α}{j:Nat}{x:α}(h:l[j]? = some x):l.set j x=l:=by
 apply List.ext_getElem?
 intro i
 rw [List.getElem?_set]
 split
 ·subst j;rw [← h];split
  ·exact h.symm ▸ rfl
  ·rw [List.getElem?_eq_none (by lia)]
 ·rfl
theorem zcv {xs:List AT}{j:Nat}(h:xs[j]? = some x)(e:val w=val x):vals (xs.set j w)=vals xs:=by
 unfold vals
 rw [gx,e]
 exact Js (by rw [ux,h];rfl)
theorem Jt:∀ {p:Lc} {a u:AT},OK W F H a->getA p a=some u->OK W F H u
 | [],_,_,h,e=>by cases e;exact h
 | j::p,a,u,h,e=>by
  obtain⟨xs,x,e1,e2,e3,_⟩:=qg e
  refine Jt (zB.mp ?_ x (uK e2)) e3
  cases a<;>cases e1<;>exact h.2
theorem Ka:∀ {p:Lc} {a u w:AT},OK W F H a->getA p a=some u->OK W F H w->val w=val u->OK W F H (setA p a w)
 | [],_,_,_,_,_,h,_=>h
 | j::p,a,u,w,h,e,hw,hv=>by
  obtain⟨xs,x,e1,e2,e3,e4⟩:=qg e
  have hx:OKs W F H xs:=by cases a<;>cases e1<;>exact h.2
  have h1:=Ka (zB.mp hx x (uK e2)) e3 hw hv
  have h2:OKs W F H (xs.set j (setA p x w)):=zB.mpr λy hy=>by
   rcases List.mem_or_eq_of_mem_set hy with z | z
   ·exact zB.mp hx y z
   ·rw [z];exact h1
  have h3:=zcv e2 (XB e3 hv)
  rw [e4]
  cases a with
  | lf=>cases e1
  | tp a xs'=>cases e1;exact⟨by rw [h3];exact h.1,h2⟩
  | nd a k xs'=>cases e1;exact⟨by rw [h3];exact h.1,h2⟩
theorem Zr {α:Type}:∀ {l:List α} {j:Nat} {x y:α},l[j]? = some x->(l.set j y++[x]).Perm (l++[y])
 | [],_,_,_,h=>by cases h
 | z::l,0,x,y,h=>by
  cases h
  exact(uC (l₁:=y::l) (l₂:=[z])).trans ((uC (l₁:=l) (l₂:=[y])).symm.cons z)
 | z::l,j+1,x,y,h=>(Zr (l:=l) (j:=j) h).cons z
theorem XC:∀ {p:Lc} {a u w:AT},getA p a=some u->(ads (setA p a w)++ads u).Perm (ads a++ads w)
 | [],_,_,_,h=>by cases h;exact uC
 | j::p,a,u,w,h=>by
  obtain⟨xs,x,e1,e2,e3,e4⟩:=qg h
  have ih:=XC (w:=w) e3
  have q:=(Zr (y:=setA p x w) e2).flatMap_right ads
  rw [← qT,← qT,z6,z6,adss,adss,adss,adss,uk,uk] at q
  have m:(adss (xs.set j (setA p x w))++ads u).Perm (adss xs++ads w):=by
   have a1:((adss (xs.set j (setA p x w))++ads u)++ads x).Perm ((adss xs++ads w)++ads x):=by
    rw [ud]
    refine(uC.append_left _).trans ?_
    rw [← ud]
    refine(q.append_right _).trans ?_
    rw [ud,ud]
    exact(ih.trans uC).append_left _
   exact(List.perm_append_right_iff _).mp a1
  rw [e4]
  cases a with
  | lf=>cases e1
  | tp a xs'=>cases e1;exact m
  | nd a k xs'=>cases e1;exact m.cons a
theorem WX:∀ {p q:Lc} {a u w x:AT},getA p a=some u->val w=val u->q.length<=p.length->getA q a=some x->∃ y,getA q (setA p a w)=some y/\val y=val x
 | p,[],a,u,w,x,h,e,_,k=>by cases k;exact⟨_,rfl,XB h e⟩
 | [],_::_,_,_,_,_,_,_,hl,_=>by cases hl
 | j::p,i::q,a,u,w,x,h,e,hl,k=>by
  obtain⟨xs,y,e1,e2,e3,e4⟩:=qg h
  obtain⟨xs',z,k1,k2,k3,_⟩:=qg k
  rw [e1] at k1;cases k1
  have kk:kidA (Jq a (xs.set j (setA p y w)))=some (xs.set j (setA p y w)):=by cases a<;>cases e1<;>rfl
  rw [e4]
  simp only [getA,kk,uT]
  by_cases ij:j=i
  ·subst ij
   rw [e2] at k2;cases k2
   rw [uU (v8 e2)]
   exact WX e3 e (Nat.le_of_succ_le_succ hl) k3
  ·rw [Ui ij,k2]
   exact⟨x,k3,rfl⟩
theorem get_set:∀ {p:Lc} {a u w:AT},getA p a=some u->getA p (setA p a w)=some w
 | [],_,_,_,_=>rfl
 | j::p,a,u,w,h=>by
  obtain⟨xs,y,e1,e2,e3,e4⟩:=qg h
  have kk:kidA (Jq a (xs.set j (setA p y w)))=some (xs.set j (setA p y w)):=by cases a<;>cases e1<;>rfl
  rw [e4]
  simp only [getA,kk,uT,uU (v8 e2)]
  exact get_set e3
theorem set_set:∀ {p:Lc} {a u w z:AT},getA p a=some u->setA p (setA p a w) z=setA p a z
 | [],_,_,_,_,_=>rfl
 | j::p,a,u,w,z,h=>by
  obtain⟨xs,y,e1,e2,e3,e4⟩:=qg h
  obtain⟨xs',y',k1,k2,k3,k4⟩:=qg (get_set (w:=w) h)
  have kk:kidA (Jq a (xs.set j (setA p y w)))=some (xs.set j (setA p y w)):=by cases a<;>cases e1<;>rfl
  rw [k4,e4,e4] at *
  rw [kk] at k1;cases k1
  rw [uU (v8 e2)] at k2;cases k2
  rw [gR,set_set e3]
  cases a<;>cases e1<;>rfl
noncomputable def hole (u:AT):AT:=.lf .any (val u)
theorem St.out {p:Lc}(h:St W F H (a::γ))(e:getA p a=some u):St W F H (u::setA p a (hole u)::γ):=by
 have pe:(ads u++ads (setA p a (hole u))).Perm (ads a):=uC.trans ((XC (w:=hole u) e).trans (by rw [hole,ads,uk]))
 have pa:(adss (u::setA p a (hole u)::γ)).Perm (adss (a::γ)):=by
  show(ads u++(ads (setA p a (hole u))++adss γ)).Perm (ads a++adss γ)
  rw [← ud];exact pe.append_right _
 exact⟨h.fh,⟨Jt h.ok.1 e,Ka h.ok.1 e (show OK W F H (hole u) from⟨rfl,trivial⟩) rfl,h.ok.2⟩,pa.nodup_iff.mpr h.nd,λb hb=>h.fr b (pa.mem_iff.mp hb)⟩
theorem St.into {p:Lc}(h:St W F H (w::a::γ))(e:getA p a=some u)(hu:ads u=[])(hv:val w=val u):St W F H (setA p a w::γ):=by
 have pe:(ads (setA p a w)).Perm (ads w++ads a):=by
  have:=XC (w:=w) e
  rw [hu,uk] at this
  exact this.trans uC
 have pa:(adss (setA p a w::γ)).Perm (adss (w::a::γ)):=by
  show(ads (setA p a w)++adss γ).Perm (ads w++(ads a++adss γ))
  rw [← ud];exact pe.append_right _
 exact⟨h.fh,⟨Ka h.ok.2.1 e h.ok.1 hv,h.ok.2.2⟩,pa.nodup_iff.mpr h.nd,λb hb=>h.fr b (pa.mem_iff.mp hb)⟩
end
end L5
namespace L5
open PySem L2 PySem.Spec PyProof.Rows
variable {W:Wd}
inductive Slot where
 | no | own (t:T) | al (i:Nat) (p:Lc)
noncomputable abbrev Sl:=List Slot
noncomputable def xO (i n:Nat):Slot->Slot
 | .al j q=>cond (j == i&&n.ble q.length) .no (.al j q)
 | .own t=>.own t
 | .no=>.no
noncomputable def j6 (i n:Nat)(x:Slot):Option Slot:=some (xO i n x)
noncomputable def ownO:Slot->Option T
 | .own t=>some t
 | _=>none
noncomputable def getP (s:Sl)(i:Nat)(p:Lc):Option T:=(s[i]?).bind λx=>(ownO x).bind λr=>getT p r
noncomputable def res (s:Sl):Slot->Option T
 | .own t=>some t
 | .al i p=>getP s i p
 | .no=>none
noncomputable def putSt (s τ:Sl)(i:Nat)(p:Lc)(n:T):Option (Sl×Sl):=
 (mapO (j6 i (p.length+1)) s).bind λs1=>(s1[i]?).bind λx=>(ownO x).bind λr=>(setT p r n).bind λr'=>(putN s1 i (.own r')).bind λs2=>(mapO (j6 i (p.length+1)) τ).bind λτ1=>some (s2,τ1)
noncomputable def Qp (s τ:Sl)(i:Nat)(x:Slot):Option (Sl×Sl):=
 (j6 i 0 x).bind λx'=>(mapO (j6 i 0) s).bind λs1=>(putN s1 i x').bind λs2=>(mapO (j6 i 0) τ).bind λτ1=>some (s2,τ1)
noncomputable def getS (i:Nat)(p:Lc)(as:List AT):Option AT:=(as[i]?).bind (getA p)
noncomputable def setS (i:Nat)(p:Lc)(as:List AT)(w:AT):List AT:=match as[i]? with
 | some a=>as.set i (setA p a w)
 | none=>as
noncomputable abbrev nilA:AT:=.lf .any .non
noncomputable def M1 (as:List AT):Slot->Option V->AT->Prop
 | .no,_,a=>a=nilA
 | .own t,o,a=>era a=t/\o=some (val a)
 | .al i p,o,a=>a=nilA/\∃ u,getS i p as=some u/\o=some (val u)
noncomputable def Ms (as:List AT):Sl->List (Option V)->List AT->Prop
 | [],ρ,cs=>ρ=[]/\cs=[]
 | x::s,ρ,cs=>∃ o ρ' a cs',ρ=o::ρ'/\cs=a::cs'/\M1 as x o a/\Ms as s ρ' cs'
section
variable {as cs as':List AT} {s s' τ:Sl} {ρ:List (Option V)} {x:Slot} {o:Option V} {a u w:AT} {i:Nat} {p:Lc}
theorem jJ (h:getS i p as=some u):∃ a,as[i]? = some a/\getA p a=some u/\∀ w,setS i p as w=as.set i (setA p a w):=by
 obtain⟨a,e,h⟩:=zb h
 exact⟨a,e,h,λw=>by unfold setS;rw [e]⟩
theorem Ms.len:∀ {s:Sl} {ρ:List (Option V)} {cs:List AT},Ms as s ρ cs->ρ.length=s.length/\cs.length=s.length
 | [],_,_,⟨h1,h2⟩=>by rw [h1,h2];exact⟨rfl,rfl⟩
 | _::_,_,_,⟨_,_,_,_,e1,e2,_,h⟩=>by rw [e1,e2];exact⟨congrArg _ h.len.1,congrArg _ h.len.2⟩
theorem Ms.get:∀ {s:Sl} {ρ:List (Option V)} {cs:List AT} {i:Nat} {x:Slot},Ms as s ρ cs->s[i]? = some x->∃ o a,ρ[i]? = some o/\cs[i]? = some a/\M1 as x o a
 | [],_,_,_,_,_,e=>by cases e
 | _::_,_,_,0,_,⟨o,_,a,_,e1,e2,h,_⟩,e=>by cases e;subst e1 e2;exact⟨o,a,rfl,rfl,h⟩
 | _::_,_,_,i+1,_,⟨_,_,_,_,e1,e2,_,h⟩,e=>by subst e1 e2;exact Ms.get (i:=i) h e
theorem Ms.set (hx:M1 as x o a):∀ {s:Sl} {ρ:List (Option V)} {cs:List AT} {i:Nat},Ms as s ρ cs->Ms as (s.set i x) (ρ.set i o) (cs.set i a)
 | [],_,_,_,⟨h1,h2⟩=>by subst h1 h2;exact⟨rfl,rfl⟩
 | _::_,_,_,0,⟨_,_,_,_,e1,e2,_,h⟩=>by subst e1 e2;exact⟨_,_,_,_,rfl,rfl,hx,h⟩
 | _::_,_,_,i+1,⟨_,_,_,_,e1,e2,h1,h⟩=>by subst e1 e2;exact⟨_,_,_,_,rfl,rfl,h1,Ms.set hx h⟩
theorem Ms.kill {i n:Nat}(h:∀ j q u,(j=i->q.length<n)->getS j q as=some u->∃ u',getS j q as' = some u'/\val u' = val u):∀ {s s':Sl} {ρ:List (Option V)} {cs:List AT},Ms as s ρ cs->mapO (j6 i n) s=some s'->Ms as' s' ρ cs
 | [],_,_,_,h1,e=>by cases e;exact h1
 | x::s,s',_,_,⟨o,ρ,a,cs,e1,e2,h1,h2⟩,e=>by
  obtain⟨y,ys,k1,k2,k⟩:=zt e
  cases k
  refine⟨o,ρ,a,cs,e1,e2,?_,Ms.kill h h2 k2⟩
  cases x with
  | no=>cases k1;exact h1
  | own t=>cases k1;exact h1
  | al j q=>
   simp only [j6,xO] at k1
   cases c:(j == i&&n.ble q.length) with
   | true=>rw [c] at k1;cases k1;exact h1.1
   | false=>
    rw [c] at k1;cases k1
    obtain⟨hn,u,hu,ho⟩:=h1
    obtain⟨u',k3,k4⟩:=h j q u (λz=>by
     subst z
     rw [uW,gf] at c
     exact Nat.lt_of_not_le λz=>by rw [gz z] at c;cases c) hu
    exact⟨hn,u',k3,by rw [k4];exact ho⟩
theorem zbt (hu:getS i p as=some u)(hv:val w=val u):∀ j q x,(j=i->q.length<p.length+1)->getS j q as=some x->∃ x',getS j q (setS i p as w)=some x'/\val x' = val x:=λj q x hl hx=>by
 obtain⟨a,e1,e2,e3⟩:=jJ hu
 rw [e3]
 by_cases ij:j=i
 ·subst ij
  obtain⟨a',k1,k2,_⟩:=jJ hx
  rw [e1] at k1;cases k1
  unfold getS
  rw [uU (v8 e1)]
  exact WX e2 hv (Nat.le_of_lt_succ (hl rfl)) k2
 ·refine⟨x,?_,rfl⟩
  unfold getS at hx ⊢
  rw [Ui (Ne.symm ij)];exact hx
theorem Z5 {σ:L2.St}{τ τ':Sl}{vs:List V}{bs:List AT}(h1:Ms as s σ as)(h2:Ms as τ (vs.map some) bs)(hu:getS i p as=some u)(hv:val w=val u)(e:putSt s τ i p (era w)=some (s',τ')):Ms (setS i p as w) s' σ (setS i p as w)/\Ms (setS i p as w) τ' (vs.map some) bs:=by
 obtain⟨s1,k1,e⟩:=zb e
 obtain⟨y,k2,e⟩:=zb e
 obtain⟨r,k3,e⟩:=zb e
 obtain⟨r',k4,e⟩:=zb e
 obtain⟨s2,k5,e⟩:=zb e
 obtain⟨τ1,k6,e⟩:=zb e
 cases e
 have pp:=zbt hu hv
 refine⟨?_,h2.kill pp k6⟩
 have m1:=h1.kill pp k1
 obtain⟨a,e1,e2,e3⟩:=jJ hu
 cases y with
 | no=>cases k3
 | al _ _=>cases k3
 | own r0=>
  cases k3
  obtain⟨o,a',g1,g2,g3,g4⟩:=m1.get k2
  rw [e1] at g2;cases g2
  subst g3 g4
  rw [K9 e2] at k4;cases k4
  obtain⟨l,rfl⟩:=Zp k5
  rw [e3]
  rw [e3] at m1
  have:=m1.set (i:=i) (x:=.own (era (setA p a w))) (o:=some (val a)) (a:=setA p a w) ⟨rfl,by rw [XB e2 hv]⟩
  rwa [Js g1] at this
end
theorem St.nil {F H:Hp}{γ:List AT}(h:St W F H γ):St W F H (nilA::γ):=h.leaf (t:=.any) rfl trivial
structure Rp (W:Wd)(F H:Hp)(s τ:Sl)(σ:L2.St)(vs:List V)(γ as bs:List AT):Prop where
 st:St W F H (as++(bs++γ))
 ls:Ms as s σ as
 ts:Ms as τ (vs.map some) bs
def Rep (W:Wd)(F H:Hp)(s τ:Sl)(σ:L2.St)(vs:List V)(γ:List AT):Prop:=∃ as bs,Rp W F H s τ σ vs γ as bs
section
variable {F H F' H':Hp} {s s' τ τ':Sl} {σ:L2.St} {vs:List V} {γ as bs:List AT} {x:Slot} {v:V} {t:T} {i:Nat} {p:Lc}
theorem vt {α:Type}{as bs γ:List α}{b:α}:(b::(as++(bs++γ))).Perm (as++(b::bs++γ)):=uH.symm
theorem Rp.uncons (h:Rp W F H s (x::τ) σ (v::vs) γ as bs):∃ b bs',bs=b::bs'/\M1 as x (some v) b/\St W F H (b::(as++(bs'++γ)))/\Rp W F H s τ σ vs γ as bs':=by
 obtain⟨o,ρ,b,bs',e1,e2,h1,h2⟩:=h.ts
 cases e1
 subst e2
 have st:=h.st.perm vt.symm
 exact⟨b,bs',rfl,h1,st,st.tail,h.ls,h2⟩
theorem Rp.cons {b:AT}(h:Rp W F H s τ σ vs γ as bs)(st:St W F H (b::(as++(bs++γ))))(m:M1 as x (some v) b):Rp W F H s (x::τ) σ (v::vs) γ as (b::bs):=
 ⟨st.perm vt,h.ls,_,_,_,_,rfl,rfl,m,h.ts⟩
theorem Rep.pop (h:Rep W F H s (x::τ) σ (v::vs) γ):Rep W F H s τ σ vs γ:=by
 obtain⟨as,bs,R⟩:=h
 obtain⟨b,bs',rfl,_,_,R'⟩:=R.uncons
 exact⟨as,bs',R'⟩
theorem Rep.leaf (h:Rep W F H s τ σ vs γ)(hs:shr t=true)(hv:IsV W F t v):Rep W F H s (.own t::τ) σ (v::vs) γ:=by
 obtain⟨as,bs,R⟩:=h
 exact⟨as,_,R.cons (R.st.leaf hs hv) ⟨rfl,rfl⟩⟩
theorem Rep.fh (h:Rep W F H s τ σ vs γ):Same F H:=by obtain⟨as,bs,R⟩:=h;exact R.st.fh
theorem Rp.res (h:Rp W F H s (x::τ) σ (v::vs) γ as bs)(e:res s x=some t):∃ a,OK W F H a/\era a=t/\val a=v:=by
 obtain⟨b,bs',rfl,m,st,R⟩:=h.uncons
 cases x with
 | no=>cases e
 | own t'=>cases e;cases m.2;exact⟨b,st.ok.1,m.1,rfl⟩
 | al i p=>
  obtain⟨_,u,hu,hv⟩:=m
  cases hv
  obtain⟨y,k1,e⟩:=zb e
  obtain⟨r,k2,e⟩:=zb e
  cases y with
  | no=>cases k2
  | al _ _=>cases k2
  | own r'=>
   cases k2
   obtain⟨o,a,g1,g2,g3,g4⟩:=R.ls.get k1
   obtain⟨a',f1,f2,_⟩:=jJ hu
   rw [g2] at f1;cases f1
   subst g3
   have e:getT p (era a)=some t:=e
   rw [QQ f2] at e;cases e
   exact⟨u,Jt (zB.mp R.st.left a (uK g2)) f2,rfl,rfl⟩
noncomputable def popT (s:Sl):Nat->Sl->List T->Option (List T×Sl)
 | 0,τ,acc=>some (acc,τ)
 | n+1,x::τ,acc=>(res s x).bind λt=>popT s n τ (t::acc)
 | _+1,[],_=>none
theorem Rep.popT:∀ {n:Nat} {τ τ':Sl} {vs:List V} {acc ts:List T},Rep W F H s τ σ vs γ->popT s n τ acc=some (ts,τ')->∃ cs ws,ts=eras cs++acc/\cs.length=n/\vs=(vals cs).reverse++ws/\OKs W F H cs/\Rep W F H s τ' σ ws γ
 | 0,_,_,vs,_,_,h,e=>by cases e;exact⟨[],vs,rfl,rfl,rfl,trivial,h⟩
 | n+1,[],_,_,_,_,_,e=>by cases e
 | n+1,x::τ,_,vs,acc,_,h,e=>by
  obtain⟨t,e1,e2⟩:=zb e
  obtain⟨as,bs,R⟩:=h
  cases vs with
  | nil=>obtain⟨_,_,_,_,z,_⟩:=R.ts;cases z
  | cons v vs=>
   obtain⟨a,k1,k2,k3⟩:=R.res e1
   obtain⟨cs,ws,g1,g2,g3,g4,g5⟩:=Rep.popT (Rep.pop ⟨as,bs,R⟩) e2
   refine⟨cs++[a],ws,?_,by simp [g2],?_,zB.mpr λy hy=>?_,g5⟩
   ·rw [g1,zl,zl,uA,List.map_singleton,k2,ud];rfl
   ·rw [g3];simp only [vals,uA,gI,uo,Uw,k3];rfl
   ·rcases ur.mp hy with z | z
    ·exact zB.mp g4 y z
    ·rw [ug.mp z];exact k1
noncomputable def popO:Nat->Sl->List T->Option (List T×Sl)
 | 0,τ,acc=>some (acc,τ)
 | n+1,.own t::τ,acc=>popO n τ (t::acc)
 | _,_,_=>none
theorem Rep.popO:∀ {n:Nat} {τ τ':Sl} {vs:List V} {acc ts:List T} {γ:List AT},Rep W F H s τ σ vs γ->popO n τ acc=some (ts,τ')->∃ cs ws,ts=eras cs++acc/\cs.length=n/\vs=(vals cs).reverse++ws/\Rep W F H s τ' σ ws (cs++γ)
 | 0,_,_,vs,_,_,_,h,e=>by cases e;exact⟨[],vs,rfl,rfl,rfl,h⟩
 | n+1,[],_,_,_,_,_,_,e=>by cases e
 | n+1,.no::_,_,_,_,_,_,_,e=>by cases e
 | n+1,.al _ _::_,_,_,_,_,_,_,e=>by cases e
 | n+1,.own t::τ,_,vs,acc,_,γ,h,e=>by
  obtain⟨as,bs,R⟩:=h
  cases vs with
  | nil=>obtain⟨_,_,_,_,z,_⟩:=R.ts;cases z
  | cons v vs=>
   obtain⟨b,bs',rfl,m,st,R'⟩:=R.uncons
   cases m.2
   have R2:Rep W F H s τ σ vs (b::γ):=⟨as,bs',st.perm (by rw [← ud,← ud];exact uH.symm),R'.ls,R'.ts⟩
   obtain⟨cs,ws,g1,g2,g3,g5⟩:=Rep.popO (n:=n) R2 e
   refine⟨cs++[b],ws,?_,by simp [g2],?_,by rw [ud];exact g5⟩
   ·rw [g1,zl,zl,uA,List.map_singleton,m.1,ud];rfl
   ·rw [g3];simp only [vals,uA,gI,uo,Uw];rfl
theorem Rep.push {b:AT}(h:Rep W F H s τ σ vs (b::γ)):Rep W F H s (.own (era b)::τ) σ (val b::vs) γ:=by
 obtain⟨as,bs,R⟩:=h
 exact⟨as,b::bs,R.st.perm (by rw [← ud];exact uH.trans (by rw [ud];exact vt)),R.ls,_,_,_,_,rfl,rfl,⟨rfl,rfl⟩,R.ts⟩
theorem Rep.all (h:Rep W F H s τ σ vs γ):∃ Γ,St W F H (γ++Γ)/\∀ {F' H' γ'},St W F' H' (γ'++Γ)->Rep W F' H' s τ σ vs γ':=by
 obtain⟨as,bs,R⟩:=h
 have pm:∀ γ:List AT,(as++(bs++γ)).Perm (γ++(as++bs)):=λγ=>by rw [← ud];exact uC
 exact⟨as++bs,R.st.perm (pm γ),λst=>⟨as,bs,st.perm (pm _).symm,R.ls,R.ts⟩⟩
noncomputable def rdS (s:Sl)(i:Nat):Option Slot:=(s[i]?).bind λx=>match x with
 | .own t=>cond (shr t) (some (.own t)) (some (.al i []))
 | .al j p=>(getP s j p).bind λt=>cond (shr t) (some (.own t)) (some (.al j p))
 | .no=>none
theorem Rep.copy (h:Rep W F H s (x::τ) σ (v::vs) γ)(e:res s x=some t)(hs:shr t=true):Rep W F H s (.own t::τ) σ (v::vs) γ:=by
 obtain⟨as,bs,R⟩:=h
 obtain⟨a,k1,rfl,rfl⟩:=R.res e
 exact(Rep.pop ⟨as,bs,R⟩).leaf hs (k1.leaf hs).2
theorem Rep.alias (h:Rep W F H s τ σ vs γ)(e:s[i]? = some (.own t)):∃ v,σ[i]? = some (some v)/\Rep W F H s (.al i []::τ) σ (v::vs) γ:=by
 obtain⟨as,bs,R⟩:=h
 obtain⟨o,a,g1,g2,g3,g4⟩:=R.ls.get e
 subst g4
 exact⟨_,g1,as,_,R.cons R.st.nil ⟨rfl,a,by unfold getS;rw [g2];rfl,rfl⟩⟩
theorem Rep.again (h:Rep W F H s τ σ vs γ){j:Nat}(e:s[i]? = some (.al j p)):∃ v,σ[i]? = some (some v)/\Rep W F H s (.al j p::τ) σ (v::vs) γ:=by
 obtain⟨as,bs,R⟩:=h
 obtain⟨o,a,g1,g2,g3,u,g4,g5⟩:=R.ls.get e
 subst g5
 exact⟨_,g1,as,_,R.cons R.st.nil ⟨rfl,u,g4,rfl⟩⟩
theorem Rep.rd (h:Rep W F H s τ σ vs γ)(e:rdS s i=some x):∃ v,σ[i]? = some (some v)/\Rep W F H s (x::τ) σ (v::vs) γ:=by
 obtain⟨y,e1,e⟩:=zb e
 cases y with
 | no=>cases e
 | own t=>
  obtain⟨v,k1,k2⟩:=h.alias e1
  refine⟨v,k1,?_⟩
  cases c:shr t<;>simp only [c] at e<;>cases e
  ·exact k2
  ·exact k2.copy (by show(s[i]?).bind _=_;rw [e1];rfl) c
 | al j p=>
  obtain⟨v,k1,k2⟩:=h.again e1
  refine⟨v,k1,?_⟩
  obtain⟨t,e2,e⟩:=zb e
  cases c:shr t<;>simp only [c] at e<;>cases e
  ·exact k2
  ·exact k2.copy e2 c
end
end L5
namespace L5
open PySem L2 PySem.Spec PyProof.Rows
noncomputable def intO:T->Option Int
 | .int i=>some i
 | _=>none
noncomputable def strO:T->Option (Lc)
 | .str t=>some t
 | _=>none
noncomputable def blO:T->Option Bool
 | .bl b=>some b
 | _=>none
noncomputable def lsO:T->Option (List T)
 | .nd _ .ls xs=>some xs
 | .ks true xs=>some xs
 | _=>none
noncomputable def tpO:T->Option (List T)
 | .tp xs=>some xs
 | .ks false xs=>some xs
 | _=>none
noncomputable def sqO:T->Option (List T)
 | .nd _ .ls xs=>some xs
 | .tp xs=>some xs
 | .ks _ xs=>some xs
 | _=>none
noncomputable def dcO:T->Option (List Key×List T)
 | .nd _ (.dc ks) xs=>some (ks,xs)
 | _=>none
noncomputable def obO:T->Option (Nat×Lh×List T)
 | .nd _ (.ob c fs) xs=>some (c,fs,xs)
 | _=>none
noncomputable def shO (o:Option (List T)):Option (List T):=o.bind λxs=>cond (shrs xs) (some xs) none
noncomputable def keyO:T->Option Key
 | .str t=>some (.inr (S t))
 | .int i=>some (.inl i)
 | _=>none
noncomputable def orO {α:Type}(a b:Option α):Option α:=match a with
 | some x=>some x
 | none=>b
noncomputable instance decMulOk (i j:Int):Decidable (IntMulOk i j):=by unfold IntMulOk;infer_instance
noncomputable def int2 (f:Int->Int->Option T):List T->Option T
 | [x,y]=>two (intO x) (intO y) f
 | _=>none
noncomputable def oSub:List T->Option T:=int2 λi j=>some (.int (i - j))
noncomputable def oMul:List T->Option T:=int2 λi j=>if IntMulOk i j then some (.int (i * j)) else none
noncomputable def oDiv:List T->Option T:=int2 λi j=>if 0<j/\j<1073741824 then some (.int (i / j)) else none
noncomputable def oMod:List T->Option T:=int2 λi j=>if 0<j then some (.int (i % j)) else none
noncomputable def oPow:List T->Option T:=int2 λi j=>if 0<=j/\j<=1000000/\i.natAbs<2 ^ 64 then some (.int (i ^ j.toNat)) else none
noncomputable def llO:T->Option (List T)
 | .nd _ .ls xs=>some xs
 | _=>none
noncomputable def ttO:T->Option (List T)
 | .tp xs=>some xs
 | _=>none
noncomputable def oAdd:List T->Option T
 | [x,y]=>orO (two (intO x) (intO y) λi j=>some (.int (i+j))) (orO (two (strO x) (strO y) λa b=>if a.length+b.length<=16777216 then some (.str (a++b)) else none)
   (orO (two (llO x) (llO y) λa b=>if a.length+b.length<=16777216/\(shrs a&&shrs b)=true then some (.nd true .ls (a++b)) else none)
    (two (ttO x) (ttO y) λa b=>if a.length+b.length<=1000000/\(shrs a&&shrs b)=true then some (.tp (a++b)) else none)))
 | _=>none
noncomputable def oNeg:List T->Option T
 | [x]=>(intO x).bind λi=>some (.int (-i))
 | _=>none
noncomputable def scO:T->Option V
 | .non=>some .non
 | .bl b=>some (.bl b)
 | .int i=>some (.int i)
 | .str t=>some (.str (S t))
 | _=>none
noncomputable def scOs:List T->Option (List V)
 | []=>some []
 | d::ds=>two (scO d) (scOs ds) λx xs=>some (x::xs)
mutual
noncomputable def datO:T->Option Dat
 | .non=>some (.fl .non)
 | .bl b=>some (.fl (.bl b))
 | .int i=>some (.fl (.int i))
 | .str t=>some (.fl (.str (S t)))
 | .tp xs=>(jD xs).map .tp
 | .nd _ .ls xs=>(jD xs).map .ls
 | _=>none
noncomputable def jD:List T->Option (List Dat)
 | []=>some []
 | d::ds=>two (datO d) (jD ds) λx xs=>some (x::xs)
end
noncomputable def eqO (a b:T):Option Bool:=
 orO (two (intO a) (intO b) λi j=>some (decide (i=j))) (orO (two (strO a) (strO b) λx y=>some (decide (x=y)))
  (orO (two (scO a) (scO b) λx y=>if scal x y=true then some (decide (x=y)) else none)
   (two (datO a) (datO b) λd e=>if depD d<=50/\(scO a).isNone=true/\(scO b).isNone=true then some (eqD d e) else none)))
noncomputable def xu (f:T->T->Option Bool)(n:Bool):List T->Option T
 | [x,y]=>(f x y).bind λb=>some (.bl (cond n (!b) b))
 | _=>none
noncomputable def oEq:List T->Option T:=xu eqO false
noncomputable def oNe:List T->Option T:=xu eqO true
noncomputable def cmpI (f:Int->Int->Bool)(x y:T):Option Bool:=two (intO x) (intO y) λi j=>some (f i j)
noncomputable def oLt:List T->Option T:=xu (cmpI λi j=>decide (i<j)) false
noncomputable def oLe:List T->Option T:=xu (cmpI λi j=>decide (i<=j)) false
noncomputable def oGt:List T->Option T:=xu (cmpI λi j=>decide (j<i)) false
noncomputable def oGe:List T->Option T:=xu (cmpI λi j=>decide (j<=i)) false
noncomputable def occs (l y:Lc):Lc:=Builtin.Str.occurrences (S l) (S y) 0 (S l).length 1
noncomputable def inS (y l:Lc):Bool:=match y with
 | [c]=>decide (c∈l)
 | y=>!(occs l y).isEmpty
noncomputable def inO (a b:T):Option Bool:=
 orO (two (strO a) (strO b) λy l=>some (inS y l)) (orO (two (keyO a) (dcO b) λk d=>some (d.1.any λk'=>decide (k' = k))) (two (scO a) ((sqO b).bind scOs) λx vs=>some (inV x vs)))
noncomputable def oIn:List T->Option T:=xu inO false
noncomputable def oNin:List T->Option T:=xu inO true
noncomputable def nonO:T->Option Bool
 | .non=>some true
 | .any=>none
 | _=>some false
noncomputable def isNo:T->Option Unit
 | .non=>some ()
 | _=>none
noncomputable def isO (a b:T):Option Bool:=orO (two (isNo b) (nonO a) λ_ k=>some k) (two (blO b) (blO a) λc k=>some (k == c))
noncomputable def oIs:List T->Option T:=xu isO false
noncomputable def oIsn:List T->Option T:=xu isO true
noncomputable def cutL {α:Type}(xs:List α)(lo hi:Option Int):List α:=(xs.drop (HT.sIx xs.length 0 lo)).take (HT.sIx xs.length xs.length hi - HT.sIx xs.length 0 lo)
noncomputable def slO (x:T)(lo hi:Option Int):Option T:=
 orO ((strO x).bind λt=>some (.str (cutL t lo hi))) (orO ((lsO x).bind λxs=>cond (shrs xs) (some (.nd true .ls (cutL xs lo hi))) none) ((ttO x).bind λxs=>cond (shrs xs) (some (.tp (cutL xs lo hi))) none))
noncomputable def oSl (lo hi:Bool):List T->Option T
 | x::ts=>match lo,hi,ts with
  | false,false,[]=>slO x none none
  | true,false,[a]=>(intO a).bind λa=>slO x (some a) none
  | false,true,[b]=>(intO b).bind λb=>slO x none (some b)
  | true,true,[a,b]=>two (intO a) (intO b) λa b=>slO x (some a) (some b)
  | _,_,_=>none
 | _=>none
noncomputable def truO (x:T):Option Bool:=
 orO ((blO x).bind λb=>some b) (orO ((intO x).bind λi=>some (i != 0)) (orO ((strO x).bind λt=>some (!t.isEmpty)) (orO ((sqO x).bind λxs=>some (!xs.isEmpty)) (orO ((dcO x).bind λd=>some (!d.1.isEmpty)) ((isNo x).bind λ_=>some false)))))
noncomputable def oLen:List T->Option T
 | [x]=>orO ((strO x).bind λt=>some (.int t.length)) ((sqO x).bind λxs=>some (.int xs.length))
 | _=>none
noncomputable def figs:Lc->Option Int
 | [c,d]=>if VM c=true/\VM d=true then some (((c - 48) * 10+(d - 48):Nat):Int) else none
 | _=>none
noncomputable def oInt:List T->Option T
 | [x]=>orO ((intO x).bind λi=>some (.int i)) (orO ((blO x).bind λb=>some (.int (cond b 1 0))) ((strO x).bind λt=>(figs t).bind λi=>some (.int i)))
 | _=>none
noncomputable def zcw:List T->Option T
 | [x]=>orO ((shO (lsO x)).bind λxs=>some (.tp xs)) ((shO (ttO x)).bind λxs=>some (.tp xs))
 | _=>none
noncomputable def blOs:List T->Option (List Bool)
 | []=>some []
 | d::ds=>two (blO d) (blOs ds) λx xs=>some (x::xs)
noncomputable def oAll:List T->Option T
 | [x]=>(llO x).bind λxs=>(blOs xs).bind λbs=>some (.bl (bs.all id))
 | _=>none
noncomputable def dput (ks:List Key)(xs:List T)(k:Key)(x:T):List Key×List T:=
 if (ks.any λk'=>decide (k' = k))=true then(ks,(ks.zip xs).map λkv=>if kv.1=k then x else kv.2) else(ks++[k],xs++[x])
noncomputable def zfH:T->Option (Key×T)
 | .tp (k::x::[])=>(keyO k).bind λk=>some (k,x)
 | _=>none
noncomputable def kR:List T->Option (List (Key×T))
 | []=>some []
 | d::ds=>two (zfH d) (kR ds) λp ps=>some (p::ps)
noncomputable def jd:List (Key×T)->List Key×List T->List Key×List T
 | [],r=>r
 | p::ps,r=>jd ps (dput r.1 r.2 p.1 p.2)
noncomputable def Ju (r:List Key×List T):T:=.nd true (.dc r.1) r.2
noncomputable def dtsO (xs:List T):Option (List Dat):=(jD xs).bind λds=>if (ds.all λd=>decide (depD d<=50))=true then some ds else none
noncomputable def eqdO (a b:T):Option Bool:=two (dcO a) (dcO b) λd e=>two (dtsO d.2) (dtsO e.2) λx y=>some (eqDc d.1 x e.1 y)
noncomputable def oNed:List T->Option T:=xu eqdO true
noncomputable def zfI:List T->Option T
 | [x]=>(shO (llO x)).bind λxs=>(kR xs).bind λps=>if ps.length<=16777216 then some (Ju (jd ps ([],[]))) else none
 | _=>none
inductive TyK where
 | str | int | bool | list | tuple | dict
 deriving DecidableEq
noncomputable def tyO:T->Option TyK
 | .bl _=>some .bool
 | .int _=>some .int
 | .str _=>some .str
 | .tp _=>some .tuple
 | .nd _ .ls _=>some .list
 | .nd _ (.dc _) _=>some .dict
 | _=>none
noncomputable def isiO (x:T)(ks:List TyK):Option Bool:=orO ((isNo x).bind λ_=>some false) ((tyO x).bind λk=>some (ks.any λj=>j == k||(k == .bool&&j == .int)))
noncomputable def oIsi (ks:List TyK):List T->Option T
 | [x]=>(isiO x ks).bind λb=>some (.bl b)
 | _=>none
noncomputable def kgO:List (Lc×T)->Lc->T->T
 | [],_,w=>w
 | p::d,t,w=>if p.1=t then p.2 else kgO d t w
noncomputable def zfJ (d:List (Lc×T)):List T->Option T
 | [x,w]=>(strO x).bind λt=>cond (shr w) (some (kgO d t w)) none
 | _=>none
noncomputable def WY:List T->Option (List (Lc))
 | []=>some []
 | d::ds=>two (strO d) (WY ds) λx xs=>some (x::xs)
noncomputable def splits (l y:Lc):List (Lc):=(Txt.split (S l) (S y)).map λs=>s.cps.toList
inductive ME where
 | join | split | find
 deriving DecidableEq
noncomputable def one1 (f:T->Option T):List T->Option T
 | [x]=>f x
 | _=>none
noncomputable def meF:ME->Lc->List T->Option T
 | .join=>λl=>one1 λy=>(llO y).bind λxs=>(WY xs).bind λts=>if l=[]/\ts.flatten.length<=16777216 then some (.str ts.flatten) else none
 | .split=>λl=>one1 λy=>(strO y).bind λy=>if y≠[]/\l.length<=1000000 then some (.nd true .ls ((splits l y).map .str)) else none
 | .find=>λl ts=>match ts with
  | [y,i]=>two (strO y) (intO i) λy i=>some (.int (Txt.find3 (S l) (S y) i))
  | _=>none
inductive Op where
 | add
 | sub
 | mul
 | fdiv
 | mod
 | pow
 | neg
 | eq
 | ne
 | lt
 | le
 | gt
 | ge
 | isin
 | notin
 | is
 | isnot
 | ned
 | sl (lo hi:Bool)
 | len
 | int
 | tuple
 | all
 | dict
 | isi (ks:List TyK)
 | kget (x:Str) (d:List (Lc×T))
noncomputable def opF:Op->List T->Option T
 | .add=>oAdd
 | .sub=>oSub
 | .mul=>oMul
 | .fdiv=>oDiv
 | .mod=>oMod
 | .pow=>oPow
 | .neg=>oNeg
 | .eq=>oEq
 | .ne=>oNe
 | .lt=>oLt
 | .le=>oLe
 | .gt=>oGt
 | .ge=>oGe
 | .isin=>oIn
 | .notin=>oNin
 | .is=>oIs
 | .isnot=>oIsn
 | .ned=>oNed
 | .sl lo hi=>oSl lo hi
 | .len=>oLen
 | .int=>oInt
 | .tuple=>zcw
 | .all=>oAll
 | .dict=>zfI
 | .isi ks=>oIsi ks
 | .kget _ d=>zfJ d
inductive MU where
 | append | extend | pop | popI | insert
 deriving DecidableEq
noncomputable def Z6 {α:Type}:List α->Nat->Option (α×List α)
 | [],_=>none
 | x::xs,0=>some (x,xs)
 | x::xs,j+1=>(Z6 xs j).bind λr=>some (r.1,x::r.2)
noncomputable def arg0:List T->Option Unit
 | []=>some ()
 | _=>none
noncomputable def arg1:List T->Option T
 | [y]=>some y
 | _=>none
noncomputable def muF:MU->List T->List T->Option (List T×T)
 | .append=>λxs ts=>(arg1 ts).bind λy=>if xs.length<16777216 then some (xs++[y],.non) else none
 | .extend=>λxs ts=>(arg1 ts).bind λy=>(llO y).bind λys=>if xs.length+ys.length<=16777216/\shrs ys=true then some (xs++ys,.non) else none
 | .pop=>λxs ts=>(arg0 ts).bind λ_=>(xs.getLast?).bind λd=>some (xs.dropLast,d)
 | .popI=>λxs ts=>(arg1 ts).bind λi=>(intO i).bind λi=>(ixN xs.length i).bind λj=>(Z6 xs j).bind λr=>if xs.length<=16777216 then some (r.2,r.1) else none
 | .insert=>λ_ _=>none
noncomputable def subF (t k o:T):Option T:=
 match t with
 | .nd true .ls xs=>(intO k).bind λi=>(ixN xs.length i).bind λj=>(putN xs j o).bind λys=>some (.nd true .ls ys)
 | .nd true (.dc ks) xs=>(keyO k).bind λk=>if ks.length<16777216/\(shrs xs&&shr o)=true then some (.nd true (.dc (dput ks xs k o).1) (dput ks xs k o).2) else none
 | _=>none
noncomputable def VW:Lh->List T->Str->T->Option (Lh×List T)
 | [],[],f,o=>some ([f],[o])
 | g::fs,x::xs,f,o=>cond (decide (g=f)) (some (g::fs,o::xs)) ((VW fs xs f o).bind λr=>some (g::r.1,x::r.2))
 | _,_,_,_=>none
noncomputable def fldF (t:T)(c:Nat)(f:Str)(o:T):Option T:=
 match t with
 | .nd true (.ob c' fs) xs=>if c' = c/\fs.length<1000 then(VW fs xs f o).bind λr=>some (.nd true (.ob c' r.1) r.2) else none
 | _=>none
structure Exn where
 c:Nat
 fs:Lh
 ts:List T
noncomputable abbrev Fn:=List T->(T->List T->Prop)->(Exn->List T->Prop)->Prop
noncomputable abbrev KP:=Sl->Sl->Prop
noncomputable abbrev XP:=Exn->Sl->Sl->Prop
inductive Md where
 | mv | mu
 deriving DecidableEq
inductive Hd where
 | fn (x:Str)
 | mt (c:Nat) (x:Str)
 | mk (c:Nat) (x:Str)
inductive IK where
 | seq | rng | enumS
 deriving DecidableEq
inductive Xp where
 | v (i:Nat)
 | m (i:Nat)
 | c (t:T)
 | g (x:Str) (t:T)
 | fz (e:Xp)
 | ap (o:Op) (es:List Xp)
 | me (m:ME) (o:Xp) (es:List Xp)
 | chn (o1 o2:Op) (a b c:Xp)
 | bo (k:Bool) (es:List Xp)
 | not (a:Xp)
 | t (a:Xp)
 | tn (a:Xp)
 | tb (k:Bool) (es:List Xp)
 | ife (t a b:Xp)
 | lst (es:List Xp)
 | tup (es:List Xp)
 | dct
 | dsp (d:List (Lc×T))
 | dg (a k w:Xp)
 | tpl (e:Xp)
 | ix (a k:Xp)
 | at (a:Xp) (c:Nat) (f:Str)
 | call (h:Hd) (ms:List Md) (f:Fn) (es:List Xp)
 | mu (m:MU) (p:Xp) (es:List Xp)
 | lc (elt:Xp) (n:Nat) (k:IK) (its ifs:List Xp)
inductive Tg where
 | v (i:Nat)
 | tup (is:Lc)
 | sub (p k:Xp)
 | fld (p:Xp) (c:Nat) (f:Str)
inductive Cm where
 | ret (e:Xp)
 | asg (t:Tg) (e:Xp)
 | aug (i:Nat) (o:Op) (e:Xp)
 | ife (t:Xp) (a b:List Cm)
 | loop (t:Tg) (k:IK) (its:List Xp) (b:List Cm)
 | whl (t:Xp) (b:List Cm)
 | ex (e:Xp)
 | never
structure Ends where
 rt:T->KP
 bk:KP
 ct:KP
 ex:XP
@[reducible] def bnd2 {α β:Type}(o:Option (α×β))(Q:α->β->Prop):Prop:=Option.rec (motive:=λ_=>Prop) False (λp=>Prod.rec (motive:=λ_=>Prop) Q p) o
theorem zi {α β:Type}{o:Option (α×β)}{Q:α->β->Prop}(h:bnd2 o Q):∃ y z,o=some (y,z)/\Q y z:=by
 match o,h with
 | none,h=>exact h.elim
 | some (y,z),h=>exact⟨y,z,rfl,h⟩
noncomputable def mvS (s τ:Sl)(i:Nat):Option (Sl×Sl):=(s[i]?).bind λx=>(ownO x).bind λt=>(Qp s τ i .no).bind λr=>some (r.1,.own t::r.2)
noncomputable def frzS (s:Sl):Sl->Option (Sl×Sl)
 | .own t::τ=>cond (shr t) (some (s,.own t::τ)) (some (s,.own (frz t)::τ))
 | .al i p::τ=>(getP s i p).bind λt=>(putSt s τ i p (frz t)).bind λr=>some (r.1,.own (frz t)::r.2)
 | _=>none
noncomputable def ixJ (t k:T):Option Nat:=
 match t with
 | .nd _ .ls xs=>(intO k).bind λi=>ixN xs.length i
 | .tp xs=>(intO k).bind λi=>ixN xs.length i
 | .ks _ xs=>(intO k).bind λi=>ixN xs.length i
 | .nd _ (.dc ks) _=>(keyO k).bind λk=>ks.findIdx? λk'=>decide (k' = k)
 | _=>none
noncomputable def fldJ (t:T)(c:Nat)(f:Str):Option Nat:=
 match t with
 | .nd _ (.ob c' fs) _=>cond (c' == c) (fs.findIdx? λg=>decide (g=f)) none
 | _=>none
noncomputable def parts:T->Option (List T)
 | .nd _ _ xs=>some xs
 | .tp xs=>some xs
 | .ks _ xs=>some xs
 | _=>none
noncomputable def kF (s:Sl)(x:Slot)(j:T->Option Nat):Option Slot:=
 match x with
 | .own t=>(j t).bind λn=>(parts t).bind λxs=>(xs[n]?).bind λu=>some (.own u)
 | .al i p=>(getP s i p).bind λt=>(j t).bind λn=>(parts t).bind λxs=>(xs[n]?).bind λu=>cond (shr u) (some (.own u)) (some (.al i (p++[n])))
 | .no=>none
noncomputable def ixS (s:Sl):Sl->Option Sl
 | y::x::τ=>(res s y).bind λk=>orO (two (ownO x) (intO k) λt i=>(strO t).bind λl=>(atI l i).bind λc=>some (.own (.str [c])::τ)) ((kF s x λt=>ixJ t k).bind λz=>some (z::τ))
 | _=>none
noncomputable def atS (s:Sl)(c:Nat)(f:Str):Sl->Option Sl
 | x::τ=>(kF s x λt=>fldJ t c f).bind λz=>some (z::τ)
 | _=>none
noncomputable def atXS (f:Str)(cs:Lc):Sl->Option Sl
 | .own (.xo c fs ts)::τ=>cond (cs.contains c) ((fs.findIdx? λg=>decide (g=f)).bind λn=>(ts[n]?).bind λu=>some (.own u::τ)) none
 | _=>none
noncomputable def ckD (s:Sl):Sl->Bool
 | x::_=>((res s x).bind dcO).isSome
 | []=>false
noncomputable def dcJ (key:Key)(t:T):Option Nat:=(dcO t).bind λd=>d.1.findIdx? λk'=>decide (k' = key)
noncomputable def dgS (s:Sl):Sl->Option Sl
 | w::y::x::τ=>(res s y).bind λk=>(keyO k).bind λkey=>(res s x).bind λt=>(dcO t).bind λ_=>match dcJ key t with
  | some _=>(kF s x (dcJ key)).bind λz=>some (z::τ)
  | none=>some (w::τ)
 | _=>none
noncomputable def popS:Nat->Sl->Sl->Option (Sl×Sl)
 | 0,τ,acc=>some (acc,τ)
 | n+1,x::τ,acc=>popS n τ (x::acc)
 | _+1,[],_=>none
noncomputable abbrev Pl:=List (Option (Nat×Lc))
noncomputable def v9:List Md->Sl->Sl->Sl->Option ((List T×Pl)×(Sl×Sl))
 | [],[],s,τ=>some (([],[]),(s,τ))
 | _::ms,.own t::xs,s,τ=>(v9 ms xs s τ).bind λr=>some ((t::r.1.1,none::r.1.2),r.2)
 | .mu::ms,.al i p::xs,s,τ=>(getP s i p).bind λt=>(putSt s τ i p .any).bind λq=>(mapO (j6 i 0) xs).bind λxs=>(v9 ms xs q.1 q.2).bind λr=>some ((t::r.1.1,some (i,p)::r.1.2),r.2)
 | _,_,_,_=>none
noncomputable def anyO:T->Option Unit
 | .any=>some ()
 | _=>none
noncomputable def wM:Pl->List T->Sl->Sl->Option (Sl×Sl)
 | [],[],s,τ=>some (s,τ)
 | none::ps,_::ts,s,τ=>wM ps ts s τ
 | some ip::ps,t::ts,s,τ=>(wM ps ts s τ).bind λq=>(getP q.1 ip.1 ip.2).bind λu=>(anyO u).bind λ_=>putSt q.1 q.2 ip.1 ip.2 t
 | _,_,_,_=>none
@[reducible] def bndT (o:Option ((List T×Pl)×(Sl×Sl)))(Q:List T->Pl->Sl->Sl->Prop):Prop:=Option.rec (motive:=λ_=>Prop) False (λp=>Prod.rec (motive:=λ_=>Prop) (λa b=>Prod.rec (motive:=λ_=>Prop) (λts ps=>Prod.rec (motive:=λ_=>Prop) (λs τ=>Q ts ps s τ) b) a) p) o
theorem XD {o:Option ((List T×Pl)×(Sl×Sl))}{Q:List T->Pl->Sl->Sl->Prop}(h:bndT o Q):∃ ts ps s τ,o=some ((ts,ps),(s,τ))/\Q ts ps s τ:=by
 match o,h with
 | none,h=>exact h.elim
 | some ((ts,ps),(s,τ)),h=>exact⟨ts,ps,s,τ,rfl,h⟩
noncomputable def ckM (s:Sl)(h:Hd)(τ:Sl):Bool:=
 match h with
 | .mt c m=>match τ with
  | x::_=>match (res s x).bind obO with
   | some o=>o.1 == c&&!o.2.1.contains m
   | none=>false
  | []=>false
 | .fn _=>true
 | .mk _ _=>true
noncomputable def ckS:Sl->Bool
 | .own (.str _)::_=>true
 | _=>false
noncomputable def ckL (s:Sl):Sl->Bool
 | .al i p::_=>match getP s i p with
  | some (.nd true .ls _)=>true
  | _=>false
 | _=>false
noncomputable def muS (m:MU)(s τ:Sl)(ts:List T):Option (Sl×Sl):=
 match τ with
 | .al i p::τ=>(getP s i p).bind λt=>match t with
  | .nd true .ls xs=>(muF m xs ts).bind λr=>(putSt s τ i p (.nd true .ls r.1)).bind λq=>some (q.1,.own r.2::q.2)
  | _=>none
 | _=>none
noncomputable def strS:Sl->Option (Lc×Sl)
 | .own (.str l)::τ=>some (l,τ)
 | _=>none
noncomputable def blS:Sl->Option (Bool×Sl)
 | .own (.bl b)::τ=>some (b,τ)
 | _=>none
noncomputable def ownS:Sl->Option (T×Sl)
 | .own t::τ=>some (t,τ)
 | _=>none
noncomputable def signs (t:Lc):List T:=t.map λc=>.str [c]
noncomputable def Zs (n:Nat):List T->List T
 | []=>[]
 | d::ds=>.tp [.int n,d]::Zs (n+1) ds
noncomputable def seqO (x:T):Option (List T):=orO ((strO x).bind λt=>some (signs t)) ((sqO x).bind λxs=>cond (shrs xs) (some xs) (some (views xs)))
@[irreducible] noncomputable def okR (j:Int):Bool:=@decide (-(2 ^ 62)<=j/\j<2 ^ 62) (Classical.propDecidable _)
theorem Kb {j:Int}(h:okR j=true):-(2 ^ 62)<=j/\j<2 ^ 62:=by
 unfold okR at h
 exact @of_decide_eq_true _ (Classical.propDecidable _) h
theorem zg3 {j:Int}(h:-1000000000<=j/\j<=1000000000):okR j=true:=by
 unfold okR
 exact @decide_eq_true _ (Classical.propDecidable _) ⟨by lia,by lia⟩
theorem zcx {α:Type}{b:Bool}{x y:α}(h:cond b (some x) none=some y):b=true/\x=y:=by
 cases b with
 | true=>exact⟨rfl,uG h⟩
 | false=>cases h
noncomputable def rngF:List T->Option (List T)
 | [x]=>(intO x).bind λj=>cond (okR j) (some ((List.range j.toNat).map λ(k:Nat)=>.int (k:Int))) none
 | [x,y]=>two (intO x) (intO y) λi j=>cond (okR i&&okR j) (some ((List.range (j - i).toNat).map λ(k:Nat)=>.int (i+(k:Int)))) none
 | _=>none
noncomputable def it1F (f:T->Option (List T)):List T->Option (List T)
 | [x]=>f x
 | _=>none
noncomputable def itF:IK->List T->Option (List T)
 | .seq=>it1F seqO
 | .rng=>rngF
 | .enumS=>it1F λx=>(strO x).bind λt=>some (Zs 0 (signs t))
noncomputable def itS (k:IK)(n:Nat)(s τ:Sl):Option ((List T×Option T)×(Sl×Sl)):=
 match n,τ with
 | 1,.al i p::τ=>(getP s i p).bind λt=>(itF k [t]).bind λds=>(putSt s τ i p .any).bind λq=>some ((ds,some t),(q.1,.al i p::q.2))
 | n,τ=>(popO n τ []).bind λr=>(itF k r.1).bind λds=>some ((ds,none),(s,r.2))
noncomputable def unS (o:Option T)(s τ:Sl):Option (Sl×Sl):=match o with
 | none=>some (s,τ)
 | some t=>match τ with
  | .al i p::τ=>(getP s i p).bind λu=>(anyO u).bind λ_=>putSt s τ i p t
  | .no::τ=>some (s,τ)
  | _=>none
@[reducible] def bndI (o:Option ((List T×Option T)×(Sl×Sl)))(Q:List T->Option T->KP):Prop:=Option.rec (motive:=λ_=>Prop) False (λp=>Prod.rec (motive:=λ_=>Prop) (λa b=>Prod.rec (motive:=λ_=>Prop) (λds o=>Prod.rec (motive:=λ_=>Prop) (λs τ=>Q ds o s τ) b) a) p) o
theorem zeD {o:Option ((List T×Option T)×(Sl×Sl))}{Q:List T->Option T->KP}(h:bndI o Q):∃ ds l s τ,o=some ((ds,l),(s,τ))/\Q ds l s τ:=by
 match o,h with
 | none,h=>exact h.elim
 | some ((ds,l),(s,τ)),h=>exact⟨ds,l,s,τ,rfl,h⟩
noncomputable def shS (n:Nat):Slot->Slot
 | .al i p=>.al (n+i) p
 | .own t=>.own t
 | .no=>.no
noncomputable def shN (n:Nat)(x:Slot):Option Slot:=some (shS n x)
noncomputable def unSl (n:Nat):Slot->Slot
 | .al i p=>cond (n.ble i) (.al (i - n) p) .no
 | .own t=>.own t
 | .no=>.no
noncomputable def unN (n:Nat)(x:Slot):Option Slot:=some (unSl n x)
noncomputable def zcy (n:Nat)(d:T):Option Sl:=match n with
 | 1=>some [.own d]
 | n=>(tpO d).bind λxs=>cond (xs.length == n) (some (xs.map .own)) none
noncomputable def Jv (n:Nat)(tt:Sl->Sl->(Bool->KP)->Prop)(fe:Sl->Sl->KP->Prop):List T->List T->Sl->Sl->(List T->KP)->Prop
 | [],acc,s,τ,K=>K acc s τ
 | d::ds,acc,s,τ,K=>bnd (zcy n d) λl=>bnd (mapO (shN n) s) λs1=>bnd (mapO (shN n) τ) λτ1=>tt (l++s1) τ1 λb s2 τ2=>brn b
   (fe s2 τ2 λs3 τ3=>bnd2 (ownS τ3) λt τ4=>acc.length<16777216/\bnd (mapO (unN n) (s3.drop n)) λs5=>bnd (mapO (unN n) τ4) λτ5=>Jv n tt fe ds (acc++[t]) s5 τ5 K)
   (bnd (mapO (unN n) (s2.drop n)) λs5=>bnd (mapO (unN n) τ2) λτ5=>Jv n tt fe ds acc s5 τ5 K)
noncomputable def zfK:List T->Option Bool
 | [t]=>truO t
 | _=>none
noncomputable def noX:XP:=λ_ _ _=>False
mutual
noncomputable def WE:Xp->Sl->Sl->KP->XP->Prop
 | .v i=>λs τ K _=>bnd (rdS s i) λx=>K s (x::τ)
 | .m i=>λs τ K _=>bnd2 (mvS s τ i) K
 | .c t=>λs τ K _=>K s (.own t::τ)
 | .g _ t=>λs τ K _=>K s (.own t::τ)
 | .fz e=>λs τ K X=>WE e s τ (λs1 τ1=>bnd2 (frzS s1 τ1) K) X
 | .ap o es=>λs τ K X=>WEs es s τ (λs1 τ1=>bnd2 (popT s1 es.length τ1 []) λts τ2=>bnd (opF o ts) λz=>K s1 (.own z::τ2)) X
 | .me m o es=>λs τ K X=>WE o s τ (λs1 τ1=>brn (ckS τ1) (WEs es s1 τ1 (λs2 τ2=>bnd2 (popT s2 es.length τ2 []) λts τ3=>bnd2 (strS τ3) λl τ4=>bnd (meF m l ts) λz=>K s2 (.own z::τ4)) X) False) X
 | .chn o1 o2 a b c=>λs τ K X=>WE a s τ (λs0 τ0=>WE b s0 τ0 (λs1 τ1=>bnd2 (popT s1 2 τ1 []) λts τ2=>bnd (opF o1 ts) λz=>bnd (blO z) λz=>brn z
   (WE c s1 τ1 (λs2 τ3=>bnd2 (popT s2 2 τ3 []) λts τ4=>bnd (opF o2 ts) λz=>bnd2 (popS 1 τ4 []) λ_ τ5=>K s2 (.own z::τ5)) X) (K s1 (.own (.bl false)::τ2))) X) X
 | .bo k es=>λs τ K X=>WB k es s τ K X
 | .not a=>λs τ K X=>WE a s τ (λs1 τ1=>bnd2 (blS τ1) λb τ2=>K s1 (.own (.bl !b)::τ2)) X
 | .t a=>λs τ K X=>WE a s τ (λs1 τ1=>bnd2 (popT s1 1 τ1 []) λts τ2=>bnd (zfK ts) λb=>K s1 (.own (.bl b)::τ2)) X
 | .tn a=>λs τ K X=>WT a s τ (λb s1 τ1=>K s1 (.own (.bl !b)::τ1)) X
 | .tb k es=>λs τ K X=>WTb k es s τ (λb s1 τ1=>K s1 (.own (.bl b)::τ1)) X
 | .ife t a b=>λs τ K X=>WT t s τ (λz s1 τ1=>brn z (WE a s1 τ1 K X) (WE b s1 τ1 K X)) X
 | .lst es=>λs τ K X=>WEs es s τ (λs1 τ1=>bnd2 (popO es.length τ1 []) λts τ2=>K s1 (.own (.nd true .ls ts)::τ2)) X
 | .tup es=>λs τ K X=>WEs es s τ (λs1 τ1=>bnd2 (popO es.length τ1 []) λts τ2=>K s1 (.own (.tp ts)::τ2)) X
 | .dct=>λs τ K _=>K s (.own (.nd true (.dc []) [])::τ)
 | .dsp d=>λs τ K _=>K s (.own (.nd true (.dc (d.map λp=>.inr (S p.1))) (d.map (·.2)))::τ)
 | .dg a k w=>λs τ K X=>WE a s τ (λs1 τ1=>brn (ckD s1 τ1) (WE k s1 τ1 (λs2 τ2=>WE w s2 τ2 (λs3 τ3=>bnd (dgS s3 τ3) λτ4=>K s3 τ4) X) X) False) X
 | .tpl e=>λs τ K X=>WE e s τ (λs1 τ1=>bnd2 (ownS τ1) λt τ2=>bnd (lsO t) λts=>K s1 (.own (.tp ts)::τ2)) X
 | .ix a k=>λs τ K X=>WE a s τ (λs1 τ1=>WE k s1 τ1 (λs2 τ2=>bnd (ixS s2 τ2) λτ3=>K s2 τ3) X) X
 | .at a c f=>λs τ K X=>WE a s τ (λs1 τ1=>bnd (atS s1 c f τ1) λτ2=>K s1 τ2) X
 | .call h ms f es=>λs τ K X=>WEh h es s τ (λs1 τ1=>bnd2 (popS es.length τ1 []) λxs τ2=>bndT (v9 ms xs s1 τ2) λts ps s2 τ3=>match h with
   | .mk c _=>f (.nd true (.ob c []) []::ts) (λr ts'=>match r,ts' with
     | .non,o::os=>bnd2 (wM ps os s2 τ3) λs3 τ4=>K s3 (.own o::τ4)
     | _,_=>False) (λx ts'=>bnd2 (wM ps ts'.tail s2 τ3) (X x))
   | _=>f ts (λr ts'=>bnd2 (wM ps ts' s2 τ3) λs3 τ4=>K s3 (.own r::τ4)) (λx ts'=>bnd2 (wM ps ts' s2 τ3) (X x))) X
 | .mu m p es=>λs τ K X=>WE p s τ (λs1 τ1=>brn (ckL s1 τ1) (WEs es s1 τ1 (λs2 τ2=>bnd2 (popO es.length τ2 []) λts τ3=>bnd2 (muS m s2 τ3 ts) K) X) False) X
 | .lc elt n k its ifs=>λs τ K X=>WEs its s τ (λs1 τ1=>bndI (itS k its.length s1 τ1) λds o s2 τ2=>
   Jv n (λs τ K=>WTb true ifs s τ K noX) (λs τ K=>WE elt s τ K noX) ds [] s2 τ2 λacc s3 τ3=>bnd2 (unS o s3 τ3) λs4 τ4=>K s4 (.own (.nd true .ls acc)::τ4)) X
noncomputable def WEs:List Xp->Sl->Sl->KP->XP->Prop
 | []=>λs τ K _=>K s τ
 | e::es=>λs τ K X=>WE e s τ (λs1 τ1=>WEs es s1 τ1 K X) X
noncomputable def WEh (h:Hd):List Xp->Sl->Sl->KP->XP->Prop
 | []=>λs τ K _=>K s τ
 | e::es=>λs τ K X=>WE e s τ (λs1 τ1=>brn (ckM s1 h τ1) (WEs es s1 τ1 K X) False) X
noncomputable def WB (k:Bool):List Xp->Sl->Sl->KP->XP->Prop
 | []=>λ_ _ _ _=>False
 | e::es=>λs τ K X=>WE e s τ (λs1 τ1=>match es with
  | []=>K s1 τ1
  | _=>bnd2 (blS τ1) λb τ2=>match k with
   | true=>brn b (WB k es s1 τ2 K X) (K s1 (.own (.bl false)::τ2))
   | false=>brn b (K s1 (.own (.bl true)::τ2)) (WB k es s1 τ2 K X)) X
noncomputable def WT:Xp->Sl->Sl->(Bool->KP)->XP->Prop
 | .t a=>λs τ K X=>WE a s τ (λs1 τ1=>bnd2 (popT s1 1 τ1 []) λts τ2=>bnd (zfK ts) λb=>K b s1 τ2) X
 | .tn a=>λs τ K X=>WT a s τ (λb=>K !b) X
 | .tb k es=>λs τ K X=>WTb k es s τ K X
 | .ap o es=>λs τ K X=>WEs es s τ (λs1 τ1=>bnd2 (popT s1 es.length τ1 []) λts τ2=>bnd (opF o ts) λz=>bnd (blO z) λb=>K b s1 τ2) X
 | .chn o1 o2 a b c=>λs τ K X=>WE a s τ (λs0 τ0=>WE b s0 τ0 (λs1 τ1=>bnd2 (popT s1 2 τ1 []) λts τ2=>bnd (opF o1 ts) λz=>bnd (blO z) λz=>brn z
   (WE c s1 τ1 (λs2 τ3=>bnd2 (popT s2 2 τ3 []) λts τ4=>bnd (opF o2 ts) λz=>bnd2 (popS 1 τ4 []) λ_ τ5=>bnd (blO z) λb=>K b s2 τ5) X) (K false s1 τ2)) X) X
 | _=>λ_ _ _ _=>False
noncomputable def WTb (k:Bool):List Xp->Sl->Sl->(Bool->KP)->XP->Prop
 | []=>λs τ K _=>K k s τ
 | e::es=>λs τ K X=>WT e s τ (λb s1 τ1=>match es with
  | []=>K b s1 τ1
  | _=>match k with
   | true=>brn b (WTb k es s1 τ1 K X) (K false s1 τ1)
   | false=>brn b (K true s1 τ1) (WTb k es s1 τ1 K X)) X
end
noncomputable def WZ:Lc->List T->Sl->Sl->Option (Sl×Sl)
 | [],[],s,τ=>some (s,τ)
 | i::is,t::ts,s,τ=>(Qp s τ i (.own t)).bind λq=>WZ is ts q.1 q.2
 | _,_,_,_=>none
noncomputable def setTop (i:Nat)(s:Sl):Sl->Option (Sl×Sl)
 | x::τ=>Qp s τ i x
 | _=>none
def zaa (t:Tg)(d:T)(s τ:Sl)(K:KP):Prop:=match t with
 | .v i=>bnd2 (Qp s τ i (.own d)) K
 | .tup is=>bnd (tpO d) λds=>bnd2 (WZ is ds s τ) K
 | _=>False
noncomputable def Z7 (t:Tg)(o:Option T)(body:Sl->Sl->KP->Ends->Prop)(K:KP)(D:Ends):List T->Sl->Sl->Prop
 | [],s,τ=>bnd2 (unS o s τ) K
 | d::ds,s,τ=>zaa t d s τ λs1 τ1=>body s1 τ1 (λs τ=>Z7 t o body K D ds s τ) { rt:=λr s τ=>bnd2 (unS o s τ) (D.rt r),bk:=λs τ=>bnd2 (unS o s τ) K,ct:=λs τ=>Z7 t o body K D ds s τ,ex:=D.ex }
noncomputable def ziU (m:Nat)(n:Nat×Bool)(s:Sl):Sl->Option Slot
 | .al i p::_=>(getP s i p).bind λt=>(sqO t).bind λxs=>cond (xs.length == n.1&&(lsO t).isSome == n.2) ((xs[m]?).bind λu=>cond (shr u) (some (.own u)) (some (.al i (p++[m])))) none
 | _=>none
noncomputable def zg4 (s:Sl):Sl->Option (Nat×Bool)
 | .al i p::_=>(getP s i p).bind λt=>(sqO t).bind λxs=>some (xs.length,(lsO t).isSome)
 | _=>none
noncomputable def zab:Sl->Option Sl
 | _::τ=>some τ
 | []=>none
noncomputable def zcz (j:Nat)(n:Nat×Bool)(body:Sl->Sl->KP->Ends->Prop)(K:KP)(D:Ends):Nat->Sl->Sl->Prop
 | 0,s,τ=>bnd (zg4 s τ) λm=>m=n/\bnd (zab τ) λτ1=>K s τ1
 | k+1,s,τ=>bnd (ziU (n.1 - (k+1)) n s τ) λx=>bnd2 (Qp s τ j x) λs1 τ1=>body s1 τ1 (λs τ=>zcz j n body K D k s τ) { rt:=λr s τ=>bnd (zab τ) λτ1=>D.rt r s τ1,bk:=λs τ=>bnd (zab τ) λτ1=>K s τ1,ct:=λs τ=>zcz j n body K D k s τ,ex:=D.ex }
noncomputable def W0 (test:Sl->Sl->(Bool->KP)->Prop)(body:Sl->Sl->KP->Ends->Prop)(K:KP)(D:Ends):Nat->Sl->Sl->Prop
 | 0,_,_=>False
 | n+1,s,τ=>test s τ λb s1 τ1=>brn b (body s1 τ1 (λs τ=>W0 test body K D n s τ) { rt:=D.rt,bk:=K,ct:=λs τ=>W0 test body K D n s τ,ex:=D.ex }) (K s1 τ1)
noncomputable def subS (s:Sl):Sl->Option (Sl×Sl)
 | k::.al i p::.own o::τ=>(res s k).bind λk=>(getP s i p).bind λt=>(subF t k o).bind λt'=>putSt s τ i p t'
 | _=>none
noncomputable def fldS (c:Nat)(f:Str)(s:Sl):Sl->Option (Sl×Sl)
 | .al i p::.own o::τ=>(getP s i p).bind λt=>(fldF t c f o).bind λt'=>putSt s τ i p t'
 | _=>none
noncomputable def unpS (is:Lc)(s:Sl):Sl->Option (Sl×Sl)
 | .own t::τ=>(tpO t).bind λts=>WZ is ts s τ
 | _=>none
mutual
noncomputable def WS:Cm->Sl->Sl->KP->Ends->Prop
 | .ret e=>λs τ _ D=>WE e s τ (λs1 τ1=>bnd2 (ownS τ1) λt τ2=>D.rt t s1 τ2) D.ex
 | .asg t e=>λs τ K D=>WE e s τ (λs1 τ1=>match t with
  | .v i=>bnd2 (setTop i s1 τ1) K
  | .tup is=>bnd2 (unpS is s1 τ1) K
  | .sub p k=>WE p s1 τ1 (λs2 τ2=>WE k s2 τ2 (λs3 τ3=>bnd2 (subS s3 τ3) K) D.ex) D.ex
  | .fld p c f=>WE p s1 τ1 (λs2 τ2=>bnd2 (fldS c f s2 τ2) K) D.ex) D.ex
 | .aug i o e=>λs τ K D=>bnd (rdS s i) λx=>bnd (ownO x) λt=>bnd (intO t) λ_=>WE e s (x::τ) (λs1 τ1=>bnd2 (popT s1 2 τ1 []) λts τ2=>bnd (opF o ts) λz=>bnd (intO z) λ_=>bnd2 (Qp s1 τ2 i (.own z)) K) D.ex
 | .ife t a b=>λs τ K D=>WT t s τ (λz s1 τ1=>brn z (WSs a s1 τ1 K D) (WSs b s1 τ1 K D)) D.ex
 | .loop t k its b=>λs τ K D=>WEs its s τ (λs1 τ1=>bndI (itS k its.length s1 τ1) λds o s2 τ2=>Z7 t o (WSs b) K D ds s2 τ2) D.ex
 | .whl t b=>λs τ K D=>∃ n,W0 (λs τ K=>WT t s τ K D.ex) (WSs b) K D n s τ
 | .ex e=>λs τ K D=>WE e s τ (λs1 τ1=>bnd (zab τ1) λτ2=>K s1 τ2) D.ex
 | .never=>λ_ _ _ _=>False
noncomputable def WSs:List Cm->Sl->Sl->KP->Ends->Prop
 | []=>λs τ K _=>K s τ
 | c::cs=>λs τ K D=>WS c s τ (λs1 τ1=>WSs cs s1 τ1 K D) D
end
noncomputable def hidA:List Md->Nat->Sl
 | [],_=>[]
 | .mu::ms,i=>.al i []::hidA ms (i+1)
 | .mv::ms,i=>hidA ms (i+1)
noncomputable def retA:List Md->Nat->Sl->Sl->Option (List T)
 | [],_,_,_=>some []
 | .mu::ms,i,.own t::s,.al j []::τ=>cond (j == i) ((retA ms (i+1) s τ).bind λr=>some (t::r)) none
 | .mv::ms,i,_::s,τ=>(retA ms (i+1) s τ).bind λr=>some (.non::r)
 | _,_,_,_=>none
noncomputable def fnS (ts:List T):Nat->Sl:=λn=>match ts,n with
 | t::ts,n+1=>.own t::fnS ts n
 | [],n+1=>.no::fnS [] n
 | _,0=>[]
noncomputable def fnE (ms:List Md)(Q:T->List T->Prop)(X:Exn->List T->Prop):Ends:={ rt:=λt s τ=>bnd (retA ms 0 s τ) λr=>Q t r,bk:=λ_ _=>False,ct:=λ_ _=>False,ex:=λx s τ=>bnd (retA ms 0 s (τ.drop (τ.length - (hidA ms 0).length))) λr=>X x r }
noncomputable def fnD (ms:List Md)(nl:Nat)(body:List Cm):Fn:=λts Q X=>
 (ts.length=ms.length)/\WSs body (fnS ts nl) (hidA ms 0) (λs τ=>bnd (retA ms 0 s τ) λr=>Q .non r) (fnE ms Q X)
variable {W:Wd} {F H:Hp} {a b:AT} {t:T} {v:V} {X:Cx}
theorem zN {α:Type}{a b:Option α}{z:α}(h:orO a b=some z):a=some z\/b=some z:=by
 cases a with
 | none=>exact .inr h
 | some x=>exact .inl h
theorem Kc {o:Option (List T)}{xs:List T}(h:shO o=some xs):o=some xs/\shrs xs=true:=by
 obtain⟨ys,e,h⟩:=zb h
 cases c:shrs ys<;>simp only [c] at h<;>cases h
 exact⟨e,c⟩
structure Sq (W:Wd)(F H:Hp)(xs:List T)(vs:List V):Prop where
 len:vs.length=xs.length
 now:IsVs W H xs vs
 sh:shrs xs=true->IsVs W F xs vs
 vw:IsVs W F (views xs) vs
theorem Qq (g:Same F H){xs:List T}{vs:List V}(h:IsVs W F xs vs):Sq W F H xs vs:=⟨h.len,h.mono g,λ_=>h,h.view⟩
theorem VX (g:Same F H){xs:List AT}(h:OKs W F H xs):Sq W F H (eras xs) (vals xs):=by
 have k:=h.isv (F':=H) g λ_ _ _ e=>e
 exact⟨k.len,k,λs=>(h.leaf s).2,h.view⟩
theorem W2 {xs:List T}(g:Same F H)(h:OK W F H a)(e:lsO (era a)=some xs):∃ p vs,val a=.ref p/\SqL W.K H p vs/\Sq W F H xs vs:=by
 cases a with
 | tp p ys=>cases e
 | nd p k ys=>
  cases k<;>cases e
  obtain⟨⟨o,h1,h2⟩,h3⟩:=h
  cases h2
  exact⟨p,_,rfl,SqL.of h1,VX g h3⟩
 | lf t v=>
  have e:lsO t=some xs:=e
  unfold lsO at e
  split at e
  ·cases e
   obtain⟨_,p,vs,o,h1,h2,h3,h4,h5⟩:=h
   cases h3
   exact⟨p,vs,h1,SqL.of (g _ _ h2),Qq g h5⟩
  ·cases e
   obtain⟨_,p,vs,h1,h2,h4,h5⟩:=h
   exact⟨p,vs,h1,Jo g h2,Qq g h5⟩
  ·cases e
theorem W3 {xs:List T}(g:Same F H)(h:OK W F H a)(e:tpO (era a)=some xs):∃ p vs,val a=.ref p/\SqT W.K H p vs/\Sq W F H xs vs/\(∀ ys,era a=.tp ys->F p=some (.tup vs)):=by
 cases a with
 | nd p k ys=>cases e
 | tp p ys=>cases e;exact⟨p,_,rfl,SqT.of (g _ _ h.1),VX g h.2,λ_ _=>h.1⟩
 | lf t v=>
  have e:tpO t=some xs:=e
  unfold tpO at e
  split at e
  ·cases e
   obtain⟨_,p,vs,h1,h2,h3⟩:=h
   exact⟨p,vs,h1,SqT.of (g _ _ h2),Qq g h3,λ_ _=>h2⟩
  ·cases e
   obtain⟨_,p,vs,h1,h2,h4,h5⟩:=h
   exact⟨p,vs,h1,Jp g h2,Qq g h5,nofun⟩
  ·cases e
theorem zcA {t:T}{xs:List T}(e:sqO t=some xs):lsO t=some xs\/tpO t=some xs:=by
 unfold sqO at e
 split at e
 ·exact .inl e
 ·exact .inr e
 ·rename_i l ys
  cases l
  ·exact .inr e
  ·exact .inl e
 ·cases e
theorem zcB {xs:List T}(g:Same F H)(h:OK W F H a)(e:sqO (era a)=some xs):∃ p vs,val a=.ref p/\(SqL W.K H p vs\/SqT W.K H p vs)/\Sq W F H xs vs:=by
 rcases zcA e with e | e
 ·obtain⟨p,vs,h1,h2,h3⟩:=W2 g h e
  exact⟨p,vs,h1,.inl h2,h3⟩
 ·obtain⟨p,vs,h1,h2,h3,_⟩:=W3 g h e
  exact⟨p,vs,h1,.inr h2,h3⟩
theorem Jw {o:Bool}{k:Kd}{xs:List T}(g:Same F H)(h:OK W F H a)(e:era a=.nd o k xs):∃ p vs ob,val a=.ref p/\H p=some ob/\ObK W k vs ob/\Sq W F H xs vs:=by
 cases a with
 | tp p ys=>cases e
 | nd p k ys=>
  cases e
  obtain⟨⟨o,h1,h2⟩,h3⟩:=h
  exact⟨p,_,o,rfl,h1,h2,VX g h3⟩
 | lf t v=>
  cases e
  obtain⟨_,p,vs,o,h1,h2,h3,h4,h5⟩:=h
  exact⟨p,vs,o,h1,g _ _ h2,h3,Qq g h5⟩
theorem zcC {i:Int}(h:OK W F H a)(e:era a=.int i):val a=.int i:=by cases a<;>cases e;exact h.2
theorem Zt {i:Bool}(h:OK W F H a)(e:era a=.bl i):val a=.bl i:=by cases a<;>cases e;exact h.2
theorem je {l:Lc}(h:OK W F H a)(e:era a=.str l):val a=.str (S l)/\l.length<=16777216:=by cases a<;>cases e;exact h.2
theorem XE {i:Int}(e:intO t=some i):t=.int i:=by cases t<;>cases e;rfl
theorem Z8 {i:Bool}(e:blO t=some i):t=.bl i:=by cases t<;>cases e;rfl
theorem qj {i:Lc}(e:strO t=some i):t=.str i:=by cases t<;>cases e;rfl
theorem zI {i:Int}(h:OK W F H a)(e:intO (era a)=some i):val a=.int i:=zcC h (XE e)
theorem XF {k:Key}(h:OK W F H a)(e:keyO (era a)=some k):val a=kV k:=by
 cases q:era a<;>rw [q] at e<;>cases e
 ·exact zcC h q
 ·exact(je h q).1
def rN (W:Wd)(f:List T->Option T)(vs:List V)(H:Hp)(Q:VK):Prop:=∃ F as Γ z,OKs W F H as/\vals as=vs/\f (eras as)=some z/\St W F H Γ/\∀ F' H' w,St W F' H' (w::Γ)->era w=z->Q (val w) H'
noncomputable abbrev r2 (W:Wd)(f:List T->Option T):R2:=λv u H Q=>rN W f [v,u] H Q
theorem yo {f:List T->Option T}{u:V}{Q:VK}(h:r2 W f v u H Q):∃ F a b Γ z,Same F H/\OK W F H a/\OK W F H b/\val a=v/\val b=u/\f [era a,era b]=some z/\St W F H Γ/\∀ F' H' w,St W F' H' (w::Γ)->era w=z->Q (val w) H':=by
 obtain⟨F,as,Γ,z,h1,h2,h3,h4,h5⟩:=h
 match as,h2 with
 | [a,b],h2=>
  cases h2
  exact⟨F,a,b,Γ,z,h4.fh,h1.1,h1.2.1,rfl,rfl,h3,h4,h5⟩
theorem zcD {f:List T->Option T}{Q:VK}(h:rN W f [v] H Q):∃ F a Γ z,Same F H/\OK W F H a/\val a=v/\f [era a]=some z/\St W F H Γ/\∀ F' H' w,St W F' H' (w::Γ)->era w=z->Q (val w) H':=by
 obtain⟨F,as,Γ,z,h1,h2,h3,h4,h5⟩:=h
 match as,h2 with
 | [a],h2=>
  cases h2
  exact⟨F,a,Γ,z,h4.fh,h1.1,rfl,h3,h4,h5⟩
section
variable {Γ:List AT} {z:T} {Q:VK}
theorem yq (st:St W F H Γ)(q:∀ F' H' w,St W F' H' (w::Γ)->era w=z->Q (val w) H')(hs:shr z=true)(hv:IsV W F z v):Q v H:=q F H (.lf z v) (st.leaf hs hv) rfl
theorem xb {i:Int}(st:St W F H Γ)(q:∀ F' H' w,St W F' H' (w::Γ)->era w=.int i->Q (val w) H'):Q (.int i) H:=yq st q rfl rfl
theorem fin_bl {i:Bool}(st:St W F H Γ)(q:∀ F' H' w,St W F' H' (w::Γ)->era w=.bl i->Q (val w) H'):Q (.bl i) H:=yq st q rfl rfl
theorem XG {l:Lc}(st:St W F H Γ)(q:∀ F' H' w,St W F' H' (w::Γ)->era w=.str l->Q (val w) H')(hl:l.length<=16777216):Q (.str (S l)) H:=yq st q rfl ⟨rfl,hl⟩
theorem Ke {ts:List T}{vs:List V}(st:St W F H Γ)(q:∀ F' H' w,St W F' H' (w::Γ)->era w=.nd true .ls ts->Q (val w) H')(s:shrs ts=true)(i:IsVs W F ts vs):∀ p,H p=none->Q (.ref p) (upd H p (.lst vs)):=λp hp=>by
 obtain⟨h1,h2,h3⟩:=st.leaves i s
 have:=h1.node (k:=.ls) (o:=.lst vs) hp (by show HO.lst vs=.lst _;rw [h3])
 exact q _ _ _ this (congrArg _ h2)
theorem Kf {ts:List T}{vs:List V}(st:St W F H Γ)(q:∀ F' H' w,St W F' H' (w::Γ)->era w=.tp ts->Q (val w) H')(s:shrs ts=true)(i:IsVs W F ts vs):∀ p,H p=none->Q (.ref p) (upd H p (.tup vs)):=λp hp=>by
 obtain⟨h1,h2,h3⟩:=st.leaves i s
 have:=h1.tuple hp
 rw [h3] at this
 exact q _ _ _ this (congrArg _ h2)
theorem IsVs.app:∀ {xs ys:List T} {vs us:List V},IsVs W F xs vs->IsVs W F ys us->IsVs W F (xs++ys) (vs++us)
 | [],_,_,_,h,k=>by rw [show _=[] from h];exact k
 | _::_,_,_,_,⟨v,r,e,h1,h2⟩,k=>⟨v,r++_,by rw [e];rfl,h1,h2.app k⟩
theorem IsVs.get:∀ {xs:List T} {vs:List V} {j:Nat} {x:T},IsVs W F xs vs->xs[j]? = some x->∃ v,vs[j]? = some v/\IsV W F x v
 | [],_,_,_,_,e=>by cases e
 | _::_,_,0,_,⟨v,r,e,h1,h2⟩,k=>by cases k;exact⟨v,by rw [e];rfl,h1⟩
 | _::_,_,j+1,_,⟨v,r,e,h1,h2⟩,k=>by rw [e];exact h2.get (j:=j) k
theorem IsVs.drop:∀ {xs:List T} {vs:List V} (n:Nat),IsVs W F xs vs->IsVs W F (xs.drop n) (vs.drop n)
 | _,_,0,h=>h
 | [],_,_+1,h=>by rw [show _=[] from h];rfl
 | _::_,_,n+1,⟨v,r,e,_,h2⟩=>by rw [e];exact h2.drop n
theorem IsVs.take:∀ {xs:List T} {vs:List V} (n:Nat),IsVs W F xs vs->IsVs W F (xs.take n) (vs.take n)
 | _,_,0,_=>rfl
 | [],_,_+1,h=>by rw [show _=[] from h];rfl
 | _::_,_,n+1,⟨v,r,e,h1,h2⟩=>by rw [e];exact⟨v,_,rfl,h1,h2.take n⟩
theorem IsVs.cut {xs:List T}{vs:List V}(h:IsVs W F xs vs)(lo hi:Option Int):IsVs W F (cutL xs lo hi) (cutV vs lo hi):=by
 unfold cutL cutV
 rw [h.len]
 exact(h.drop _).take _
theorem z7:∀ {ts:List T},shrs ts=true↔∀ t∈ts,shr t=true
 | []=>⟨λ_ _ h=>(by cases h),λ_=>rfl⟩
 | t::ts=>by
  rw [gD,shrs,uQ]
  exact and_congr Iff.rfl z7
theorem Jx {xs ys:List T}(h:shrs xs=true)(k:∀ y∈ys,y∈xs):shrs ys=true:=z7.mpr λy hy=>z7.mp h y (k y hy)
theorem VY {xs ys:List T}(h:shrs xs=true)(k:shrs ys=true):shrs (xs++ys)=true:=z7.mpr λy hy=>(ur.mp hy).elim (z7.mp h y) (z7.mp k y)
theorem Jy {xs:List T}{lo hi:Option Int}:∀ y∈cutL xs lo hi,y∈xs:=λy hy=>List.mem_of_mem_drop (List.mem_of_mem_take hy)
def Qr (W:Wd)(o:Operator)(f:List T->Option T):Prop:=∀ X:Cx,OpR X (binaryOp o) (r2 W f)
theorem zeE {f:Int->Int->Option T}{a b:AT}{z:T}(h:int2 f [era a,era b]=some z)(ha:OK W F H a)(hb:OK W F H b):∃ i j,val a=.int i/\val b=.int j/\f i j=some z:=by
 obtain⟨i,j,e1,e2,e3⟩:=zt h
 exact⟨i,j,zI ha e1,zI hb e2,e3⟩
theorem jE {f:Value->Value->Sem Value}{r r':R2}(h:OpR X f r)(k:∀ x y H Q,r' x y H Q->r x y H Q):OpR X f r':=λpins s σ H x y v u Q I rx ry z=>h pins s σ H x y v u Q I rx ry (k x y H Q z)
theorem Zu {g:Int->Int->V}{C:Int->Int->Prop}{f:Int->Int->Option T}{o:Operator}(op:∀ X,OpR X (binaryOp o) (rI C g))(k:∀ i j z,f i j=some z->C i j/\∃ n,z=.int n/\g i j=.int n):Qr W o (int2 f):=λX=>jE (op X) λx y H Q h=>by
 obtain⟨F,a,b,Γ,z,g0,ha,hb,rfl,rfl,e,st,q⟩:=yo h
 obtain⟨i,j,e1,e2,e3⟩:=zeE e ha hb
 obtain⟨c,n,rfl,e4⟩:=k i j z e3
 exact⟨i,j,e1,e2,c,by rw [e4];exact xb st q⟩
theorem qx {α:Type}{c:Prop} [Decidable c]{x z:α}(h:(if c then some x else none)=some z):c/\x=z:=by
 split at h
 ·cases h;exact⟨by assumption,rfl⟩
 ·cases h
theorem zg5:Qr W .Sub oSub:=Zu (C:=λ_ _=>True) (λX=>jE zgw λx y H Q ⟨i,j,e1,e2,_,q⟩=>⟨i,j,e1,e2,q⟩) λi j z e=>by cases e;exact⟨trivial,_,rfl,rfl⟩
theorem zg6:Qr W .Mult oMul:=Zu (λX=>zel) λi j z e=>by obtain⟨c,rfl⟩:=qx e;exact⟨c,_,rfl,rfl⟩
theorem zg7:Qr W .FloorDiv oDiv:=Zu (λX=>zd7) λi j z e=>by obtain⟨c,rfl⟩:=qx e;exact⟨c,_,rfl,rfl⟩
theorem zg8:Qr W .Mod oMod:=Zu (λX=>zgx) λi j z e=>by obtain⟨c,rfl⟩:=qx e;exact⟨c,_,rfl,rfl⟩
theorem zg9:Qr W .Pow oPow:=Zu (λX=>zgy) λi j z e=>by obtain⟨c,rfl⟩:=qx e;exact⟨c,_,rfl,rfl⟩
end
end L5
namespace L5
open PySem L2 PySem.Spec PyProof.Rows
variable {W:Wd} {F H:Hp} {a b:AT} {t:T} {v:V} {X:Cx}
theorem l1 {a x:T}(h:[a]=[x]):a=x:=(UG h).1
theorem l2 {a b x y:T}(h:[a,b]=[x,y]):a=x/\b=y:=⟨(UG h).1,l1 (UG h).2⟩
theorem zha {xs:List T}(e:llO t=some xs):∃ o,t=.nd o .ls xs:=by
 cases t with
 | nd o k ys=>cases k<;>cases e;exact⟨o,rfl⟩
 | _=>cases e
theorem zhb {xs:List T}(e:ttO t=some xs):t=.tp xs:=by cases t<;>cases e;rfl
theorem W4 {xs:List T}(g:Same F H)(h:OK W F H a)(e:llO (era a)=some xs):∃ p vs,val a=.ref p/\H p=some (.lst vs)/\Sq W F H xs vs:=by
 obtain⟨o,e⟩:=zha e
 obtain⟨p,vs,o,k1,k2,rfl,k4⟩:=Jw g h e
 exact⟨p,vs,k1,k2,k4⟩
theorem zac {xs:List T}(g:Same F H)(h:OK W F H a)(e:ttO (era a)=some xs):∃ p vs,val a=.ref p/\F p=some (.tup vs)/\Sq W F H xs vs:=by
 have e:=zhb e
 obtain⟨p,vs,k1,k2,k3,k4⟩:=W3 g h (by rw [e];rfl)
 exact⟨p,vs,k1,k4 _ e,k3⟩
theorem zhc:Qr W .Add oAdd:=λX=>jE (xt zgv (xt zek (xt zey zgK))) λx y H Q h=>by
 obtain⟨F,a,b,Γ,z,g,ha,hb,rfl,rfl,e,st,q⟩:=yo h
 rcases zN e with e | e
 ·obtain⟨i,j,e1,e2,e⟩:=zt e
  cases e
  exact .inl ⟨_,_,zI ha e1,zI hb e2,xb st q⟩
 rcases zN e with e | e
 ·obtain⟨i,j,e1,e2,e⟩:=zt e
  obtain⟨c,rfl⟩:=qx e
  exact .inr (.inl ⟨_,_,(je ha (qj e1)).1,(je hb (qj e2)).1,by rw [sizeLine_eq];exact c,XG st q (by rw [ua];exact c)⟩)
 rcases zN e with e | e
 ·obtain⟨i,j,e1,e2,e⟩:=zt e
  obtain⟨⟨c,s⟩,rfl⟩:=qx e
  rw [uQ] at s
  obtain⟨p1,v1,k1,k2,k4⟩:=W4 g ha e1
  obtain⟨p2,v2,j1,j2,j4⟩:=W4 g hb e2
  exact .inr (.inr (.inr ⟨p1,p2,v1,v2,k1,j1,k2,j2,by rw [k4.len,j4.len,sizeLine_eq];exact c,Ke st q (VY s.1 s.2) ((k4.sh s.1).app (j4.sh s.2))⟩))
 ·obtain⟨i,j,e1,e2,e⟩:=zt e
  obtain⟨⟨c,s⟩,rfl⟩:=qx e
  rw [uQ] at s
  obtain⟨p1,v1,k1,k4,k3⟩:=zac g ha e1
  obtain⟨p2,v2,j1,j4,j3⟩:=zac g hb e2
  have iv:=(k3.sh s.1).app (j3.sh s.2)
  have sh:=VY s.1 s.2
  refine .inr (.inr (.inl ⟨p1,p2,v1,v2,k1,j1,g _ _ k4,g _ _ j4,by rw [k3.len,j3.len];exact c,λz=>?_,λz=>?_,Kf st q sh iv⟩))
  ·subst z
   rw [uk] at iv
   exact yq st q sh ⟨p1,v1,rfl,k4,iv⟩
  ·subst z
   exact yq st q sh ⟨p2,v2,rfl,j4,iv⟩
def xw (W:Wd)(o:CmpOp)(f:List T->Option T):Prop:=∀ X:Cx,X.K=W.K->X.A.units+64<cLine->OpR X (compareOp o) (r2 W f)
theorem xy {f:T->T->Option Bool}{n:Bool}{x y z:T}(h:xu f n [x,y]=some z):∃ b,f x y=some b/\z=.bl (cond n (!b) b):=by
 obtain⟨b,e,h⟩:=zb h
 cases h
 exact⟨b,e,rfl⟩
theorem XH {a:V}(h:IsV W H t v)(e:scO t=some a):v=a/\zL a=true:=by
 cases t<;>cases e
 ·exact⟨h,rfl⟩
 ·exact⟨h,rfl⟩
 ·exact⟨h,rfl⟩
 ·exact⟨h.1,rfl⟩
theorem zad:∀ {ts:List T} {vs xs:List V},IsVs W H ts vs->scOs ts=some xs->vs=xs/\xs.all zL=true
 | [],_,_,h,e=>by cases e;exact⟨h,rfl⟩
 | t::ts,_,_,⟨v,r,e0,h1,h2⟩,e=>by
  obtain⟨a,as,e1,e2,e⟩:=zt e
  cases e
  obtain⟨rfl,f1⟩:=XH h1 e1
  obtain⟨rfl,f2⟩:=zad h2 e2
  exact⟨e0,by rw [Ur,f1,f2];rfl⟩
mutual
theorem QR:∀ {t:T} {v:V} {e:Dat},IsV W H t v->datO t=some e->IsDt H e v
 | .non,_,_,h,e=>by cases e;exact⟨h,rfl⟩
 | .bl _,_,_,h,e=>by cases e;exact⟨h,rfl⟩
 | .int _,_,_,h,e=>by cases e;exact⟨h,rfl⟩
 | .str _,_,_,h,e=>by cases e;exact⟨h.1,rfl⟩
 | .tp ds,_,_,⟨p,vs,e0,h1,h2⟩,e=>by
  obtain⟨es,e1,rfl⟩:=uz.mp e
  exact⟨p,vs,e0,h1,Jz h2 e1⟩
 | .nd _ .ls ds,_,_,⟨p,vs,o,e0,h1,h2,_,h3⟩,e=>by
  obtain⟨es,e1,rfl⟩:=uz.mp e
  cases h2
  exact⟨p,vs,e0,h1,Jz h3 e1⟩
 | .nd _ (.dc _) _,_,_,_,e=>by cases e
 | .nd _ (.ob _ _) _,_,_,_,e=>by cases e
 | .xo _ _ _,_,_,_,e=>by cases e
 | .ks _ _,_,_,_,e=>by cases e
 | .any,_,_,_,e=>by cases e
theorem Jz:∀ {ts:List T} {vs:List V} {es:List Dat},IsVs W H ts vs->jD ts=some es->IsDs H es vs
 | [],_,_,h,e=>by cases e;exact h
 | t::ts,_,_,⟨v,r,e0,h1,h2⟩,e=>by
  obtain⟨a,as,e1,e2,e⟩:=zt e
  cases e
  exact⟨v,r,e0,QR h1 e1,Jz h2 e2⟩
end
theorem zae {d:Dat}(h:IsV W H t v)(e:datO t=some d)(k:(scO t).isNone=true):∃ p,v=.ref p:=by
 cases t with
 | tp xs=>obtain⟨p,vs,e,_⟩:=h;exact⟨p,e⟩
 | nd o k xs=>obtain⟨p,vs,o,e,_⟩:=h;exact⟨p,e⟩
 | ks l xs=>obtain⟨p,vs,e,_⟩:=h;exact⟨p,e⟩
 | xo c fs xs=>obtain⟨p,vs,e,_⟩:=h;exact⟨p,e⟩
 | any=>cases e
 | _=>cases k
theorem zhd {x y:T}{u:V}{k:Bool}(hx:IsV W H x v)(hy:IsV W H y u)(e:eqO x y=some k):(scal v u=true/\decide (v=u)=k)\/∃ d e p q,v=.ref p/\u=.ref q/\IsDt H d (.ref p)/\IsDt H e (.ref q)/\depD d<=50/\eqD d e=k:=by
 rcases zN e with e | e
 ·obtain⟨i,j,e1,e2,e⟩:=zt e
  cases e
  have hx:IsV W H x v:=hx
  rw [XE e1] at hx;rw [XE e2] at hy
  rw [show v=_ from hx,show u=_ from hy]
  exact .inl ⟨rfl,by simp⟩
 rcases zN e with e | e
 ·obtain⟨l,m,e1,e2,e⟩:=zt e
  cases e
  rw [qj e1] at hx;rw [qj e2] at hy
  rw [show v=_ from hx.1,show u=_ from hy.1]
  refine .inl ⟨rfl,?_⟩
  by_cases c:l=m
  ·subst c;simp
  ·rw [uq c,uq]
   intro z
   exact c (by have:=congrArg (λv=>match v with | V.str s=>s.cps.toList | _=>[]) z;simpa [S] using this)
 rcases zN e with e | e
 ·obtain⟨x',y',e1,e2,e⟩:=zt e
  obtain⟨c,e⟩:=qx e
  obtain⟨rfl,_⟩:=XH hx e1
  obtain⟨rfl,_⟩:=XH hy e2
  exact .inl ⟨c,e⟩
 ·obtain⟨d,d',e1,e2,e⟩:=zt e
  obtain⟨⟨c,n1,n2⟩,e⟩:=qx e
  obtain⟨p,rfl⟩:=zae hx e1 n1
  obtain⟨q,rfl⟩:=zae hy e2 n2
  exact .inr ⟨d,d',p,q,rfl,rfl,QR hx e1,QR hy e2,c,e⟩
theorem zcE (n:Bool)(o:CmpOp)(op:∀ X:Cx,X.A.units+64<cLine->OpR X (compareOp o) λx y H Q=>(scal x y=true/\Q (.bl (cond n (!decide (x=y)) (decide (x=y)))) H)\/∃ d e p q,x=.ref p/\y=.ref q/\IsDt H d (.ref p)/\IsDt H e (.ref q)/\depD d<=50/\Q (.bl (cond n (!eqD d e) (eqD d e))) H):xw W o (xu eqO n):=λX _ hu=>jE (op X hu) λx y H Q h=>by
 obtain⟨F,a,b,Γ,z,g,ha,hb,rfl,rfl,e,st,q⟩:=yo h
 obtain⟨k,e',rfl⟩:=xy e
 replace e:=e'
 rcases zhd (ha.now g) (hb.now g) e with⟨h1,h2⟩ | ⟨d,d',p,p',h1,h2,h3,h4,h5,h6⟩
 ·exact .inl ⟨h1,by rw [h2];exact fin_bl st q⟩
 ·exact .inr ⟨d,d',p,p',h1,h2,h3,h4,h5,by rw [h6];exact fin_bl st q⟩
theorem ziV:xw W .Eq oEq:=zcE false .Eq λX hu=>xt ziB (zgQ hu)
theorem ziW:xw W .NotEq oNe:=zcE true .NotEq λX hu=>xt ziC (zgR hu)
theorem QS {f:Int->Int->Bool}{o:CmpOp}(op:∀ X:Cx,OpR X (compareOp o) (rI0 λi j=>.bl (f i j))):xw W o (xu (cmpI f) false):=λX _ _=>jE (op X) λx y H Q h=>by
 obtain⟨F,a,b,Γ,z,g,ha,hb,rfl,rfl,e,st,q⟩:=yo h
 obtain⟨k,e',rfl⟩:=xy e
 replace e:=e'
 obtain⟨i,j,e1,e2,e3⟩:=zt e
 cases e3
 exact⟨i,j,zI ha e1,zI hb e2,fin_bl st q⟩
theorem ziX:xw W .Lt oLt:=QS λ_=>ziD
theorem ziY:xw W .LtE oLe:=QS λ_=>ziE
theorem ziZ:xw W .Gt oGt:=QS λ_=>ziF
theorem zi0:xw W .GtE oGe:=QS λ_=>ziG
theorem zcF {ks:List Key}{kvs:List (Key×V)}{k:Key}(e:kvs.map (·.1)=ks):(valV kvs k).isSome=ks.any λk'=>decide (k' = k):=by
 subst e
 unfold valV
 induction kvs with
 | nil=>rfl
 | cons a l ih=>
  rw [Uy,uo,Us]
  cases h:decide (a.1=k) with
  | true=>rfl
  | false=>rw [U9];exact ih
theorem Z9 {d:List Key×List T}(e:dcO t=some d):∃ o,t=.nd o (.dc d.1) d.2:=by
 cases t with
 | nd o k ys=>cases k<;>cases e;exact⟨o,rfl⟩
 | _=>cases e
theorem zcG {k:Bool}(g:Same F H)(ha:OK W F H a)(hb:OK W F H b)(e:inO (era a) (era b)=some k) :
  (∃ i j,val a=.str i/\val b=.str j/\(!(Builtin.Str.occurrences j i 0 j.length 1).isEmpty)=k)\/(∃ p xs,val b=.ref p/\(SqL W.K H p xs\/SqT W.K H p xs)/\zL (val a)=true/\xs.all zL=true/\inV (val a) xs=k)\/∃ p o,val b=.ref p/\DGet H p (val a) o/\o.isSome=k:=by
 rcases zN e with e | e
 ·obtain⟨y,l,e1,e2,e⟩:=zt e
  cases e
  refine .inl ⟨_,_,(je ha (qj e1)).1,(je hb (qj e2)).1,?_⟩
  unfold inS
  split
  ·exact StrLaws.found_one (S l) _
  ·rfl
 rcases zN e with e | e
 ·obtain⟨k',d,e2,e1,e⟩:=zt e
  cases e
  obtain⟨o,e1⟩:=Z9 e1
  obtain⟨p,vs,o,h1,h2,⟨kvs,rfl,h3,_⟩,_⟩:=Jw g hb e1
  exact .inr (.inr ⟨p,valV kvs k',h1,by rw [XF ha e2];exact DGet.k h2,zcF h3⟩)
 ·obtain⟨x,vs,e1,e2,e⟩:=zt e
  cases e
  obtain⟨ys,e2,e3⟩:=zb e2
  obtain⟨h1,h2⟩:=XH (ha.now g) e1
  obtain⟨p,us,h3,h4,h5⟩:=zcB g hb e2
  obtain⟨rfl,h6⟩:=zad h5.now e3
  exact .inr (.inl ⟨p,us,h3,h4,by rw [h1];exact h2,h6,by rw [h1]⟩)
theorem zi1:xw W .In oIn:=λX hK hu=>jE (xt za2 (xt (zep hK) (zgZ (by lia)))) λx y H Q h=>by
 obtain⟨F,a,b,Γ,z,g,ha,hb,rfl,rfl,e,st,q⟩:=yo h
 obtain⟨k,e',rfl⟩:=xy e
 replace e:=e'
 have fin:Q (.bl k) H:=fin_bl st q
 rcases zcG g ha hb e with⟨i,j,e1,e2,h⟩ | ⟨p,xs,e1,h1,h2,h3,h⟩ | ⟨p,o,e1,h1,h⟩
 ·exact .inl ⟨i,j,e1,e2,by rw [h];exact fin⟩
 ·exact .inr (.inl ⟨p,xs,e1,h1,h2,h3,by rw [uv (by decide),h];exact fin⟩)
 ·exact .inr (.inr ⟨p,o,e1,h1,by rw [uv (by decide),h];exact fin⟩)
theorem zhe:xw W .NotIn oNin:=λX hK hu=>jE (xt Xm (xt (Y4 hK) (zbr (by lia)))) λx y H Q h=>by
 obtain⟨F,a,b,Γ,z,g,ha,hb,rfl,rfl,e,st,q⟩:=yo h
 obtain⟨k,e',rfl⟩:=xy e
 replace e:=e'
 have fin:Q (.bl (!k)) H:=fin_bl st q
 rcases zcG g ha hb e with⟨i,j,e1,e2,h⟩ | ⟨p,xs,e1,h1,h2,h3,h⟩ | ⟨p,o,e1,h1,h⟩
 ·exact .inl ⟨i,j,e1,e2,by rw [h];exact fin⟩
 ·exact .inr (.inl ⟨p,xs,e1,h1,h2,h3,by rw [uw rfl,h];exact fin⟩)
 ·exact .inr (.inr ⟨p,o,e1,h1,by rw [uw rfl,h];exact fin⟩)
theorem zeF {k:Bool}(h:IsV W H t v)(e:nonO t=some k):decide (v=.non)=k:=by
 cases t with
 | non=>cases e;rw [show v=_ from h];rfl
 | bl _=>cases e;rw [show v=_ from h];rfl
 | int _=>cases e;rw [show v=_ from h];rfl
 | str _=>cases e;rw [show v=_ from h.1];rfl
 | tp _=>cases e;obtain⟨p,vs,e,_⟩:=h;rw [e];rfl
 | nd _ _ _=>cases e;obtain⟨p,vs,o,e,_⟩:=h;rw [e];rfl
 | ks _ _=>cases e;obtain⟨p,vs,e,_⟩:=h;rw [e];rfl
 | xo _ _ _=>cases e;obtain⟨p,vs,e,_⟩:=h;rw [e];rfl
 | any=>cases e
theorem XI {d:Unit}(e:isNo t=some d):t=.non:=by cases t<;>cases e;rfl
theorem zcH {k:Bool}(g:Same F H)(ha:OK W F H a)(hb:OK W F H b)(e:isO (era a) (era b)=some k):(val b=.non/\decide (val a=.non)=k)\/∃ c,val b=.bl c/\∃ i,val a=.bl i/\(i == c)=k:=by
 rcases zN e with e | e
 ·obtain⟨_,k',e1,e2,e⟩:=zt e
  cases e
  refine .inl ⟨?_,zeF (ha.now g) e2⟩
  have:=hb.now g
  rw [XI e1] at this
  exact this
 ·obtain⟨c,i,e1,e2,e⟩:=zt e
  cases e
  exact .inr ⟨_,Zt hb (Z8 e1),i,Zt ha (Z8 e2),rfl⟩
theorem zi2:xw W .Is oIs:=λX hK hu=>jE (xt zgA zgU) λx y H Q h=>by
 obtain⟨F,a,b,Γ,z,g,ha,hb,rfl,rfl,e,st,q⟩:=yo h
 obtain⟨k,e',rfl⟩:=xy e
 replace e:=e'
 have fin:Q (.bl k) H:=fin_bl st q
 rcases zcH g ha hb e with⟨e1,h⟩ | ⟨c,e1,i,e2,h⟩
 ·exact .inl ⟨e1,by rw [h];exact fin⟩
 ·exact .inr ⟨c,e1,i,e2,by rw [h];exact fin⟩
theorem zhf:xw W .IsNot oIsn:=λX hK hu=>jE (xt zd8 zbn) λx y H Q h=>by
 obtain⟨F,a,b,Γ,z,g,ha,hb,rfl,rfl,e,st,q⟩:=yo h
 obtain⟨k,e',rfl⟩:=xy e
 replace e:=e'
 have fin:Q (.bl (!k)) H:=fin_bl st q
 rcases zcH g ha hb e with⟨e1,h⟩ | ⟨c,e1,i,e2,h⟩
 ·exact .inl ⟨e1,by rw [h];exact fin⟩
 ·exact .inr ⟨c,e1,i,e2,by rw [h];exact fin⟩
end L5
namespace L5
open PySem L2 PySem.Spec PyProof.Rows
variable {W:Wd} {F H:Hp} {a b:AT} {t:T} {v:V} {X:Cx}
theorem zhg:UnR X (unaryOp .USub) (λv H Q=>rN W oNeg [v] H Q):=λpins s σ H x v Q I rx h=>by
 obtain⟨F,a,Γ,z,g,ha,rfl,e,st,q⟩:=zcD h
 obtain⟨i,e1,e⟩:=zb e
 cases e
 exact zgz pins s σ H _ v Q I rx ⟨i,zI ha e1,xb st q⟩
theorem zcI {α β:Type}{vs:List α}{xs:List β}(h:vs.length=xs.length):(!xs.isEmpty) = !vs.isEmpty:=by
 cases vs<;>cases xs<;>first | rfl | cases h
theorem zhh {k:Bool}(g:Same F H)(h:OK W F H a)(e:truO (era a)=some k):TruV W.K (val a) H k:=by
 rcases zN e with e | e
 ·obtain⟨i,e1,e⟩:=zb e
  cases e
  rw [Zt h (Z8 e1)];rfl
 rcases zN e with e | e
 ·obtain⟨i,e1,e⟩:=zb e
  cases e
  rw [zI h e1];rfl
 rcases zN e with e | e
 ·obtain⟨t,e1,e⟩:=zb e
  cases e
  obtain⟨k1,k2⟩:=je h (qj e1)
  rw [k1]
  have e1:(S t).length=t.length:=by simp [S,Str.length]
  refine⟨by rw [e1,sizeLine_eq];exact k2,?_⟩
  rw [e1]
  cases t<;>simp [bne]
  lia
 rcases zN e with e | e
 ·obtain⟨xs,e1,e⟩:=zb e
  cases e
  obtain⟨p,vs,k1,k2,k3⟩:=zcB g h e1
  rw [k1]
  rcases k2 with k2 | k2
  ·exact .inl ⟨vs,k2,zcI k3.len⟩
  ·exact .inr (.inl ⟨vs,k2,zcI k3.len⟩)
 rcases zN e with e | e
 ·obtain⟨d,e1,e⟩:=zb e
  cases e
  obtain⟨o,e1⟩:=Z9 e1
  obtain⟨p,vs,o,k1,k2,⟨kvs,rfl,h3,_⟩,_⟩:=Jw g h e1
  rw [k1]
  refine .inr (.inr ⟨kvs,k2,?_⟩)
  rw [← h3]
  cases kvs<;>rfl
 ·obtain⟨_,e1,e⟩:=zb e
  cases e
  have:=h.now g
  rw [XI e1] at this
  rw [show val a=_ from this];rfl
def BiOk (W:Wd)(x:Str)(f:List T->Option T):Prop:=∀ (X:Cx) (e:Expr) (es:Lg) (t:TA) (p pos:Pos),X.K=W.K->X.calm=true->X.mg x=none->PA X (e::es) t->Gl X x ->
 starEach (e::es) X.env=(false,eval e X.env)::starEach es X.env->(backTo pos (starEach es X.env)).any (·.1)=false->PE X (.Call (.Name x p) (e::es) [] pos) (tCB (rN W f) t)
theorem xA {f:Value}{r r':List V->Hp->VK->Prop}(h:jZ X f r)(k:∀ xs H Q,r' xs H Q->r xs H Q):jZ X f r':=λpins s σ H xs us Q I rx z=>h pins s σ H xs us Q I rx (k xs H Q z)
theorem rN1 {f:List T->Option T}{vs:List V}{Q:VK}(h:rN W f vs H Q)(k:∀ z,f []≠some z)(k2:∀ x y r z,f (x::y::r)≠some z):∃ F a Γ z,Same F H/\OK W F H a/\vs=[val a]/\f [era a]=some z/\St W F H Γ/\∀ F' H' w,St W F' H' (w::Γ)->era w=z->Q (val w) H':=by
 obtain⟨F,as,Γ,z,h1,h2,h3,h4,h5⟩:=h
 match as with
 | []=>exact absurd h3 (k z)
 | [a]=>exact⟨F,a,Γ,z,h4.fh,h1.1,h2.symm,h3,h4,h5⟩
 | x::y::r=>exact absurd h3 (k2 _ _ _ z)
theorem rN2 {f:List T->Option T}{vs:List V}{Q:VK}(h:rN W f vs H Q)(k:∀ xs z,f xs=some z->∃ x y,xs=[x,y]):∃ v u,vs=[v,u]/\r2 W f v u H Q:=by
 obtain⟨F,as,Γ,z,h1,h2,h3,h4,h5⟩:=h
 obtain⟨x,y,e⟩:=k _ z h3
 match as,e with
 | [a,b],_=>exact⟨_,_,h2.symm,F,[a,b],Γ,z,h1,rfl,h3,h4,h5⟩
theorem zhi:BiOk W "len" oLen:=λX e es t p pos hK hc hm ha hg hs h=>Zl (xA (VT (Y0 hK) zbc) λxs H Q h=>by
 obtain⟨F,a,Γ,z,g,ha,rfl,e,st,q⟩:=rN1 h (λ_=>nofun) (λ_ _ _ _=>nofun)
 rcases zN e with e | e
 ·obtain⟨l,e1,e⟩:=zb e
  cases e
  obtain⟨k1,k2⟩:=je ha (qj e1)
  exact .inr ⟨l,by rw [k1],by rw [sizeLine_eq];exact k2,xb st q⟩
 ·obtain⟨xs,e1,e⟩:=zb e
  cases e
  obtain⟨p,vs,k1,k2,k3⟩:=zcB g ha e1
  exact .inl ⟨p,vs,by rw [k1],k2,by rw [k3.len];exact xb st q⟩) hg hm zgM ha (by decide) (by decide) hs h
theorem zeG:BiOk W "int" oInt:=λX e es t p pos hK hc hm ha hg hs h=>kc (xA (VT za3 zbe) λxs H Q h=>by
 obtain⟨F,a,Γ,z,g,ha,rfl,e,st,q⟩:=rN1 h (λ_=>nofun) (λ_ _ _ _=>nofun)
 rcases zN e with e | e
 ·obtain⟨l,e1,e⟩:=zb e
  cases e
  exact .inl (.inl ⟨l,by rw [zI ha e1],xb st q⟩)
 rcases zN e with e | e
 ·obtain⟨l,e1,e⟩:=zb e
  cases e
  exact .inl (.inr ⟨l,by rw [Zt ha (Z8 e1)],by cases l<;>exact xb st q⟩)
 ·obtain⟨l,e1,e⟩:=zb e
  obtain⟨i,e2,e⟩:=zb e
  cases e
  match l,e1,e2 with
  | [c,d],e1,e2=>
   obtain⟨k,rfl⟩:=qx e2
   exact .inr ⟨c,d,by rw [(je ha (qj e1)).1],k.1,k.2,xb st q⟩) hg hm zcf ha (by decide) (by decide) hs h
theorem IsVs.signs {l:Lc}:IsVs W F (signs l) (l.map λc=>.str (S [c]))/\shrs (signs l)=true:=by
 induction l with
 | nil=>exact⟨rfl,rfl⟩
 | cons c l ih=>exact⟨⟨_,_,rfl,⟨rfl,by simp⟩,ih.1⟩,ih.2⟩
theorem zcJ:BiOk W "tuple" zcw:=λX e es t p pos hK hc hm ha hg hs h=>kc (xA kD λxs H Q h=>by
 obtain⟨F,a,Γ,z,g,ha,rfl,e,st,q⟩:=rN1 h (λ_=>nofun) (λ_ _ _ _=>nofun)
 rcases zN e with e | e
 ·obtain⟨xs,e1,e⟩:=zb e
  cases e
  obtain⟨e1,s⟩:=Kc e1
  obtain⟨p,vs,k1,k2,k3⟩:=W2 g ha e1
  exact⟨p,vs,by rw [k1],.inl ⟨by rw [hK];exact k2,Kf st q s (k3.sh s)⟩⟩
 ·obtain⟨xs,e1,e⟩:=zb e
  cases e
  obtain⟨e1,s⟩:=Kc e1
  obtain⟨p,vs,k1,k2,k3⟩:=zac g ha e1
  exact⟨p,vs,by rw [k1],.inr ⟨SqT.of (g _ _ k2),yq st q s ⟨p,vs,rfl,k2,k3.sh s⟩⟩⟩) hg hm Jl ha (by decide) (by decide) hs h
theorem zaf:∀ {ts:List T} {vs:List V} {bs:List Bool},IsVs W H ts vs->blOs ts=some bs->vs=bs.map V.bl
 | [],_,_,h,e=>by cases e;exact h
 | t::ts,_,_,⟨v,r,e0,h1,h2⟩,e=>by
  obtain⟨x,xs,e1,e2,e⟩:=zt e
  cases e
  rw [Z8 e1] at h1
  rw [e0,zaf h2 e2,show v=_ from h1];rfl
theorem zhj:BiOk W "all" oAll:=λX e es t p pos hK hc hm ha hg hs h=>Zl (xA (zbo hc) λxs H Q h=>by
 obtain⟨F,a,Γ,z,g,ha,rfl,e,st,q⟩:=rN1 h (λ_=>nofun) (λ_ _ _ _=>nofun)
 obtain⟨xs,e1,e⟩:=zb e
 obtain⟨bs,e2,e⟩:=zb e
 cases e
 obtain⟨p,vs,k1,k2,k3⟩:=W4 g ha e1
 rw [zaf k3.now e2] at k2
 exact⟨p,bs,by rw [k1],k2,fin_bl st q⟩) hg hm zgV ha (by decide) (by decide) hs h
theorem zcK {r r':V->Option Int->Option Int->Hp->VK->Prop}(h:SlR X r)(k:∀ x l u H Q,r' x l u H Q->r x l u H Q):SlR X r':=λpins s σ H x v vl vu lo hi sl Q I rx hs pl pu z=>h pins s σ H x v vl vu lo hi sl Q I rx hs pl pu (k x lo hi H Q z)
noncomputable def rSl (W:Wd):V->Option Int->Option Int->Hp->VK->Prop:=λx lo hi H Q=>rN W (λts=>match ts with
 | [t]=>slO t lo hi
 | _=>none) [x] H Q
theorem zag (hK:X.K=W.K):SlR X (rSl W):=zcK (zcp sl_S (zcp (zce hK) zez)) λx lo hi H Q h=>by
 obtain⟨F,a,Γ,z,g,ha,rfl,e,st,q⟩:=zcD h
 rcases zN e with e | e
 ·obtain⟨l,e1,e⟩:=zb e
  cases e
  obtain⟨k1,k2⟩:=je ha (qj e1)
  exact .inl ⟨l,k1,by rw [sizeLine_eq];exact k2,XG st q (uJ (by unfold cutN;rw [Uv,Ub];lia) k2)⟩
 rcases zN e with e | e
 ·obtain⟨xs,e1,e⟩:=zb e
  cases s:shrs xs<;>rw [s] at e<;>cases e
  obtain⟨p,vs,k1,k2,k3⟩:=W2 g ha e1
  exact .inr (.inl ⟨p,vs,k1,k2,Ke st q (Jx s Jy) ((k3.sh s).cut lo hi)⟩)
 ·obtain⟨xs,e1,e⟩:=zb e
  cases s:shrs xs<;>rw [s] at e<;>cases e
  obtain⟨p,vs,k1,k2,k3⟩:=zac g ha e1
  have h3:=(k3.sh s).cut lo hi
  refine .inr (.inr ⟨p,vs,k1,g _ _ k2,λz=>?_,Kf st q (Jx s Jy) h3⟩)
  rw [z] at h3
  exact yq st q (Jx s Jy) ⟨p,vs,rfl,k2,h3⟩
noncomputable def rMe (W:Wd)(f:Lc->List T->Option T):V->List V->Hp->VK->Prop:=λv vs H Q=>∃ l,v=.str (S l)/\l.length<=16777216/\rN W (f l) vs H Q
theorem JA {id:String}{r r':V->List V->Hp->VK->Prop}(h:MtR X id r)(k:∀ x xs H Q,r' x xs H Q->r x xs H Q):MtR X id r':=λpins s σ H x xs v us Q I rx rs z=>h pins s σ H x xs v us Q I rx rs (k x xs H Q z)
theorem rMe1 {f:Lc->T->Option T}{v:V}{vs:List V}{Q:VK}(h:rMe W (λl=>one1 (f l)) v vs H Q):∃ l F a Γ z,v=.str (S l)/\l.length<=16777216/\Same F H/\OK W F H a/\vs=[val a]/\f l (era a)=some z/\St W F H Γ/\∀ F' H' w,St W F' H' (w::Γ)->era w=z->Q (val w) H':=by
 obtain⟨l,h1,h2,h⟩:=h
 obtain⟨F,a,Γ,z,k1,k2,k3,k4,k5,k6⟩:=rN1 h (λ_=>nofun) (λ_ _ _ _=>nofun)
 exact⟨l,F,a,Γ,z,h1,h2,k1,k2,k3,k4,k5,k6⟩
noncomputable def meN:ME->Str
 | .join=>"join"
 | .split=>"split"
 | .find=>"find"
theorem VZ:∀ {ds:List T} {vs:List V} {ts:List (Lc)},IsVs W H ds vs->WY ds=some ts->vs=ts.map λl=>V.str (S l)
 | [],_,_,h,e=>by cases e;exact h
 | d::ds,_,_,⟨v,r,e0,h1,h2⟩,e=>by
  obtain⟨b,bs,e1,e2,e⟩:=zt e
  cases e
  rw [qj e1] at h1
  rw [e0,h1.1,VZ h2 e2];rfl
theorem Kg {l y:Lc}(hy:y≠[]):∀ t∈splits l y,t.length<=l.length:=λt ht=>by
 obtain⟨s,hs,rfl⟩:=Uh.mp ht
 have yp:0<(S y).length:=by
  rw [jw]
  cases y with
  | nil=>exact absurd rfl hy
  | cons _ _=>simp
 have h:=(Jm (S y) yp (Txt.split (S l) (S y))).2 s hs
 rw [StrLaws.join_split,jw] at h
 simpa [Str.length] using h
theorem zeH {ts:List (Lc)}(h:∀ t∈ts,t.length<=16777216):IsVs W F (ts.map .str) (ts.map λt=>V.str (S t))/\shrs (ts.map .str)=true:=by
 induction ts with
 | nil=>exact⟨rfl,rfl⟩
 | cons t ts ih=>
  obtain⟨h1,h2⟩:=ih λx hx=>h x (uh _ hx)
  exact⟨⟨_,_,rfl,⟨rfl,h t uf⟩,h1⟩,h2⟩
theorem zi3 {o e:Expr}{es:Lg}{to:TE}{ta:TA}{apos cpos:Pos}(m:ME)(hK:X.K=W.K)(ho:PE X o to)(ha:PA X (e::es) ta)(hb:qS o=true)(hl:(apos.endLine == cpos.line)=true)(hs:noSt (e::es)=true)(hn:(e::es).length<30):PE X (.Call (.Attribute o (meN m) apos) (e::es) [] cpos) (tBM W.K "str" (rMe W (meF m)) to ta):=by
 obtain⟨s1,s2⟩:=zM hs
 cases m
 ·exact ZZ hK gy PySem.F.slot_str_join PySem.F.type_str_join (JA (zbf hK) λx xs H Q h=>by
   obtain⟨l,F,a,Γ,z,h1,h2,g,ha,rfl,e,st,q⟩:=rMe1 h
   obtain⟨ys,e1,e⟩:=zb e
   obtain⟨ts,e2,e⟩:=zb e
   obtain⟨⟨rfl,k⟩,rfl⟩:=qx e
   obtain⟨p,us,k1,k2,k3⟩:=W4 g ha e1
   rw [VZ k3.now e2] at k2
   exact⟨p,ts,h1,by rw [k1],SqL.of k2,k,XG st q k⟩) ho ha (z5 hb) (vK hs hn) hl (zj s1) (qQ s2)
 ·exact ZZ hK gy UL PySem.F.type_str_split (JA zbp λx xs H Q h=>by
   obtain⟨l,F,a,Γ,z,h1,h2,g,ha,rfl,e,st,q⟩:=rMe1 h
   obtain⟨y,e1,e⟩:=zb e
   obtain⟨⟨hne,hl⟩,rfl⟩:=qx e
   obtain⟨t1,t2⟩:=zeH (W:=W) (F:=F) (ts:=splits l y) λt ht=>uJ (Kg hne t ht) (by lia)
   have ee:(splits l y).map (λt=>V.str (S t))=(Txt.split (S l) (S y)).map V.str:=by
    unfold splits
    rw [Uq]
    exact u4 λs _=>by show V.str (S s.cps.toList)=_;rw [S_of]
   rw [ee] at t1
   exact⟨l,y,h1,by rw [(je ha (qj e1)).1],hne,hl,Ke st q t2 t1⟩) ho ha (z5 hb) (vK hs hn) hl (zj s1) (qQ s2)
 ·exact ZZ hK gy PySem.F.slot_str_find PySem.F.type_str_find (JA zcn λx xs H Q h=>by
   obtain⟨l,h1,h2,h⟩:=h
   obtain⟨v,u,rfl,h⟩:=rN2 h λts z e=>by
    match ts,e with
    | [x,y],_=>exact⟨x,y,rfl⟩
   obtain⟨F,a,b,Γ,z,g,ha,hb,rfl,rfl,e,st,q⟩:=yo h
   obtain⟨y,i,e1,e2,e⟩:=zt e
   cases e
   exact⟨l,y,i,h1,by rw [(je ha (qj e1)).1,zI hb e2],xb st q⟩) ho ha (z5 hb) (vK hs hn) hl (zj s1) (qQ s2)
noncomputable def tyN:TyK->String
 | .str=>"str"
 | .int=>"int"
 | .bool=>"bool"
 | .list=>"list"
 | .tuple=>"tuple"
 | .dict=>"dict"
theorem zi4 {n:TyK}(h:IsV W H t v)(e:tyO t=some n):TyOf W.K H v (.type (tyN n)):=by
 cases t with
 | bl _=>cases e;rw [show v=_ from h];exact .bl _
 | int _=>cases e;rw [show v=_ from h];exact .int _
 | str _=>cases e;rw [h.1];exact .str _
 | tp _=>cases e;obtain⟨p,vs,e,h1,_⟩:=h;rw [e];exact .tup h1
 | nd o k xs=>
  obtain⟨p,vs,o,e0,h1,h2,_⟩:=h
  cases k with
  | ls=>cases e;cases h2;rw [e0];exact .lst h1
  | dc ks=>cases e;obtain⟨kvs,rfl,_⟩:=h2;rw [e0];exact .dK h1
  | ob _ _=>cases e
 | _=>cases e
theorem zhk {K:Le}{n k:TyK}:PySem.W.kitOne K (.type (tyN n)) (.type (tyN k))=some (k == n||(n == .bool&&k == .int)):=by cases n<;>cases k<;>rfl
theorem zhl {b:Bool}{ks:List TyK}(g:Same F H)(ha:OK W F H a)(e:isiO (era a) ks=some b):∃ t,TyOf W.K H (val a) t/\∃ f:TyK->Bool,(∀ k,PySem.W.kitOne W.K t (.type (tyN k))=some (f k))/\ks.any f=b:=by
 have hn:=ha.now g
 rcases zN e with e | e
 ·obtain⟨_,e1,e⟩:=zb e
  cases e
  rw [XI e1] at hn
  exact⟨.type "NoneType",by rw [show val a=_ from hn];exact .non,λ_=>false,λk=>by cases k<;>rfl,by rw [List.any_eq_false];exact λ_ _=>nofun⟩
 ·obtain⟨k,e1,e⟩:=zb e
  cases e
  exact⟨_,zi4 hn e1,_,λj=>zhk,rfl⟩
theorem zah {K:Le}{t:Value}{f:TyK->Bool}(h:∀ k,PySem.W.kitOne K t (.type (tyN k))=some (f k)):∀ ks:List TyK,PySem.W.kitAny K t ((ks.map tyN).map Value.type)=some (ks.any f)
 | []=>by simp only [Uw,PySem.W.kitAny,List.any_nil]
 | k::ks=>by
  have h1:=h k
  rw [Us]
  cases e:f k with
  | true=>rw [e] at h1;simp only [uo,PySem.W.kitAny,h1,Bool.true_or]
  | false=>rw [e] at h1;simp only [uo,PySem.W.kitAny,h1,U9];exact zah h ks
theorem zcL {ks:List TyK}{Q:VK}(h:rN W (oIsi ks) [v] H Q):∃ F a Γ b t f,Same F H/\val a=v/\TyOf W.K H v t/\(∀ k,PySem.W.kitOne W.K t (.type (tyN k))=some (f k))/\ks.any f=b/\St W F H Γ/\∀ F' H',St W F' H' Γ->Q (.bl b) H':=by
 obtain⟨F,a,Γ,z,g,ha,rfl,e,st,q⟩:=zcD h
 obtain⟨b,e1,e⟩:=zb e
 cases e
 obtain⟨t,k1,f,k2,k3⟩:=zhl g ha e1
 exact⟨F,a,Γ,b,t,f,g,rfl,k1,k2,k3,st,λF' H' st'=>q F' H' (.lf (.bl b) (.bl b)) (st'.leaf rfl rfl) rfl⟩
theorem zeI {k:TyK}{Q:VK}(h:rN W (oIsi [k]) [v] H Q):rIsA W.K (tyN k) [v,.ty (tyN k)] H Q:=by
 obtain⟨F,a,Γ,b,t,f,g,rfl,k1,k2,k3,st,q⟩:=zcL h
 exact⟨_,t,b,rfl,k1,by rw [k2 k,← k3];simp,q F H st⟩
theorem zeJ {ks:List TyK}{Q:VK}(h:rN W (oIsi ks) [v] H Q):∀ p,H p=none->rIsT W.K (ks.map tyN) [v,.ref p] (upd H p (.tup ((ks.map tyN).map V.ty))) Q:=λp hp=>by
 obtain⟨F,a,Γ,b,t,f,g,rfl,k1,k2,k3,st,q⟩:=zcL h
 exact⟨_,p,t,b,rfl,jY,TyOf.mono (vp hp) k1,by rw [zah k2,k3],q F _ (st.alloc hp)⟩
theorem zhm {d:Nat×Lh×List T}(e:obO t=some d):∃ o,t=.nd o (.ob d.1 d.2.1) d.2.2:=by
 cases t with
 | nd o k ys=>cases k<;>cases e;exact⟨o,rfl⟩
 | _=>cases e
noncomputable def DTr (W:Wd):List (Lc×T)->List (Key×V)->Prop
 | [],kvs=>kvs=[]
 | p::d,kvs=>∃ v r,kvs=(.inr (S p.1),v)::r/\(shr p.2=true/\∀ F:Hp,IsV W F p.2 v)/\DTr W d r
def KGet (W:Wd)(x:Str)(d:List (Lc×T)):Prop:=∃ a kvs,W.mg x=some (.ref a)/\K6 W.w W.K a kvs/\DTr W d kvs
theorem zai {l:Lc}{w:T}{z:V}(hs:shr w=true)(hw:IsV W F w z):∀ {d:List (Lc×T)} {kvs:List (Key×V)},DTr W d kvs->shr (kgO d l w)=true/\IsV W F (kgO d l w) ((valV kvs (.inr (S l))).getD z)
 | [],kvs,h=>by rw [show kvs=[] from h];exact⟨hs,hw⟩
 | p::d,kvs,⟨v,r,e,⟨h0,h1⟩,h2⟩=>by
  subst e
  simp only [kgO]
  split
  ·rename_i z
   rw [yj (by rw [z])]
   exact⟨h0,h1 F⟩
  ·rename_i z
   rw [vq (λy=>z (zfF (Sum.inr.inj y)))]
   exact zai hs hw h2
theorem zeK {d:List (Lc×T)}{kvs:List (Key×V)}{vs:List V}{Q:VK}(hd:DTr W d kvs)(h:rN W (zfJ d) vs H Q):∃ k z,vs=[kV k,z]/\Q ((valV kvs k).getD z) H:=by
 obtain⟨v,u,rfl,h⟩:=rN2 h λts z e=>by
  match ts,e with
  | [x,y],_=>exact⟨x,y,rfl⟩
 obtain⟨F,a,b,Γ,z,g,ha,hb,rfl,rfl,e,st,q⟩:=yo h
 obtain⟨l,e1,e⟩:=zb e
 cases s:shr (era b)<;>rw [s] at e<;>cases e
 obtain⟨k1,k2⟩:=zai (F:=F) (l:=l) s (hb.leaf s).2 hd
 exact⟨.inr (S l),val b,by rw [(je ha (qj e1)).1];rfl,yq st q k1 k2⟩
theorem zo {e:Expr}{t t':TE}(h:PE X e t)(k:∀ σ H Q,t' σ H Q->t σ H Q):PE X e t':=λpins s σ H Q I z=>h pins s σ H Q I (k σ H Q z)
theorem QT {e:Expr}{t t':TT}(h:PT X e t)(k:∀ σ H Q,t' σ H Q->t σ H Q):PT X e t':=λpins s σ H Q I z=>h pins s σ H Q I (k σ H Q z)
theorem zaj {e:Expr}{t t':TT}(h:PW X e t)(k:∀ σ H Q,t' σ H Q->t σ H Q):PW X e t':=λwh pins s σ H Q I z=>h wh pins s σ H Q I (k σ H Q z)
theorem zak {es:Lg}{t t':TA}(h:PA X es t)(k:∀ σ H Q,t' σ H Q->t σ H Q):PA X es t':=λpos pins s σ H Q I z=>h pos pins s σ H Q I (k σ H Q z)
end L5
namespace L5
open PySem L2 PySem.Spec PyProof.Rows
variable {W:Wd} {E:XS} {F H:Hp} {s τ:Sl} {σ:L2.St} {vs:List V} {γ:List AT} {K:KP} {X4:XP} {Q:VK}
def IsX (W:Wd)(F:Hp)(x:Exn)(c:Value)(d:Option Addr):Prop:=c=.ref (W.cl x.c)/\((∃ dd kvs,d=some dd/\F dd=some (.xd kvs)/\kvs.map (·.1)=x.fs/\shrs x.ts=true/\IsVs W F x.ts (kvs.map (·.2)))\/(d=none/\x.fs=[]/\x.ts=[]))
def XK (W:Wd)(E:XS)(σ:L2.St)(vs:List V)(γ:List AT)(X4:XP):Prop:=∀ x F' H' s' τ' ws c d,Rep W F' H' s' τ' σ (ws++vs) γ->IsX W F' x c d->X4 x s' τ'->E c d σ H'
theorem XK.app (h:XK W E σ vs γ X4)(us:List V):XK W E σ (us++vs) γ X4:=λx F' H' s' τ' ws c d R=>h x F' H' s' τ' (ws++us) c d (by rw [ud];exact R)
noncomputable def E5 (W:Wd)(E:XS)(c:Xp):TE:=λσ H Q=>∃ F s τ vs γ K X4,Rep W F H s τ σ vs γ/\WE c s τ K X4/\(∀ F' H' s' x τ' v,Rep W F' H' s' (x::τ') σ (v::vs) γ->K s' (x::τ')->Q v H')/\XK W E σ vs γ X4
noncomputable def T5 (W:Wd)(E:XS)(c:Xp):TT:=λσ H Q=>∃ F s τ vs γ K X4,Rep W F H s τ σ vs γ/\WT c s τ K X4/\(∀ b F' H' s' τ',Rep W F' H' s' τ' σ vs γ->K b s' τ'->Q b H')/\XK W E σ vs γ X4
noncomputable def A5 (W:Wd)(E:XS)(cs:List Xp):TA:=λσ H Q=>∃ F s τ vs γ K X4,Rep W F H s τ σ vs γ/\WEs cs s τ K X4/\(∀ F' H' s' τ' us,us.length=cs.length->Rep W F' H' s' τ' σ (us.reverse++vs) γ->K s' τ'->Q us H')/\XK W E σ vs γ X4
theorem wu {c:Xp}{Q Q':VK}(h:E5 W E c σ H Q)(k:∀ v H,Q v H->Q' v H):E5 W E c σ H Q':=by
 obtain⟨F,s,τ,vs,γ,K,X4,R,h,q,x⟩:=h
 exact⟨F,s,τ,vs,γ,K,X4,R,h,λF' H' s' y τ' v R' h'=>k v H' (q F' H' s' y τ' v R' h'),x⟩
theorem zhn {cs:List Xp}{Q Q':List V->Hp->Prop}(h:A5 W E cs σ H Q)(k:∀ v H,Q v H->Q' v H):A5 W E cs σ H Q':=by
 obtain⟨F,s,τ,vs,γ,K,X4,R,h,q,x⟩:=h
 exact⟨F,s,τ,vs,γ,K,X4,R,h,λF' H' s' τ' us hl R' h'=>k us H' (q F' H' s' τ' us hl R' h'),x⟩
theorem JB {Q:List V->Hp->Prop}(h:A5 W E [] σ H Q):tNil σ H Q:=by
 obtain⟨F,s,τ,vs,γ,K,X4,R,h,q,x⟩:=h
 exact q F H s τ [] rfl R h
theorem zeL {c:Xp}{cs:List Xp}{Q:List V->Hp->Prop}(h:A5 W E (c::cs) σ H Q):zfy (E5 W E c) (A5 W E cs) σ H Q:=by
 obtain⟨F,s,τ,vs,γ,K,X4,R,h,q,x⟩:=h
 refine⟨F,s,τ,vs,γ,_,X4,R,h,λF' H' s' y τ' v R' h'=>?_,x⟩
 refine⟨F',s',y::τ',v::vs,γ,K,X4,R',h',λF2 H2 s2 τ2 us hl R2 h2=>?_,x.app [v]⟩
 exact q F2 H2 s2 τ2 (v::us) (congrArg (· + 1) hl) (by rw [UM,ud];exact R2) h2
theorem JC {c:Xp}{Q:List V->Hp->Prop}(h:A5 W E [c] σ H Q):E5 W E c σ H λx H1=>Q [x] H1:=by
 obtain⟨F,s,τ,vs,γ,K,X4,R,h,q,x⟩:=h
 exact⟨F,s,τ,vs,γ,_,X4,R,h,λF' H' s' y τ' v R' h'=>q F' H' s' _ [v] rfl R' h',x⟩
theorem JD {c d:Xp}{Q:List V->Hp->Prop}(h:A5 W E [c,d] σ H Q):E5 W E c σ H λx H1=>E5 W E d σ H1 λy H2=>Q [x,y] H2:=by
 obtain⟨F,s,τ,vs,γ,K,X4,R,h,q,x⟩:=h
 refine⟨F,s,τ,vs,γ,_,X4,R,h,λF' H' s' y τ' v R' h'=>?_,x⟩
 exact⟨F',s',y::τ',v::vs,γ,_,X4,R',h',λF2 H2 s2 y2 τ2 u R2 h2=>q F2 H2 s2 _ [v,u] rfl R2 h2,x.app [v]⟩
theorem zal {c:Xp}{Q Q':List V->Hp->Prop}(h:A5 W E [c] σ H Q)(k:∀ v H,Q [v] H->Q' [v] H):A5 W E [c] σ H Q':=by
 obtain⟨F,s,τ,vs,γ,K,X4,R,h,q,x⟩:=h
 refine⟨F,s,τ,vs,γ,K,X4,R,h,λF' H' s' τ' us hl R' h'=>?_,x⟩
 match us,hl with
 | [v],hl=>exact k v H' (q F' H' s' τ' [v] hl R' h')
theorem zeM {c d:Xp}{Q Q':List V->Hp->Prop}(h:A5 W E [c,d] σ H Q)(k:∀ v u H,Q [v,u] H->Q' [v,u] H):A5 W E [c,d] σ H Q':=by
 obtain⟨F,s,τ,vs,γ,K,X4,R,h,q,x⟩:=h
 refine⟨F,s,τ,vs,γ,K,X4,R,h,λF' H' s' τ' us hl R' h'=>?_,x⟩
 match us,hl with
 | [v,u],hl=>exact k v u H' (q F' H' s' τ' [v,u] hl R' h')
theorem yr {n:Nat}{τ':Sl}{us ws:List V}{ts:List T}(R:Rep W F H s τ σ (us.reverse++ws) γ)(e:popT s n τ []=some (ts,τ'))(hl:us.length=n):∃ cs,ts=eras cs/\vals cs=us/\OKs W F H cs/\Rep W F H s τ' σ ws γ:=by
 obtain⟨cs,ws',h1,h2,h3,h4,h5⟩:=R.popT e
 obtain⟨e1,e2⟩:=gY h3 (by simp [hl,h2])
 rw [List.reverse_inj] at e1
 exact⟨cs,by rw [h1,uk],e1.symm,h4,by rw [e2];exact h5⟩
theorem ke {n:Nat}{τ':Sl}{us ws:List V}{ts:List T}(R:Rep W F H s τ σ (us.reverse++ws) γ)(e:popO n τ []=some (ts,τ'))(hl:us.length=n):∃ cs,ts=eras cs/\vals cs=us/\Rep W F H s τ' σ ws (cs++γ):=by
 obtain⟨cs,ws',h1,h2,h3,h5⟩:=R.popO e
 obtain⟨e1,e2⟩:=gY h3 (by simp [hl,h2])
 rw [List.reverse_inj] at e1
 exact⟨cs,by rw [h1,uk],e1.symm,by rw [e2];exact h5⟩
theorem zam {f:List T->Option T}{cs:List AT}{z:T}(hc:OKs W F H cs)(e:f (eras cs)=some z)(R:Rep W F H s τ σ vs γ)(q:∀ F' H' v,Rep W F' H' s (.own z::τ) σ (v::vs) γ->Q v H'):rN W f (vals cs) H Q:=by
 obtain⟨Γ,st,back⟩:=R.all
 refine⟨F,cs,γ++Γ,z,hc,rfl,e,st,λF' H' w st' ew=>?_⟩
 have:=(back (γ':=w::γ) st').push
 rw [ew] at this
 exact q F' H' _ this
theorem zi5 {o:Op}{es:List Xp}(h:E5 W E (.ap o es) σ H Q):A5 W E es σ H λus H'=>rN W (opF o) us H' Q:=by
 obtain⟨F,s,τ,vs,γ,K,X4,R,h,q,x⟩:=h
 refine⟨F,s,τ,vs,γ,_,X4,R,h,λF' H' s' τ' us hl R' h'=>?_,x⟩
 obtain⟨ts,τ2,e1,h'⟩:=zi h'
 obtain⟨z,e2,h2⟩:=zz h'
 obtain⟨cs,rfl,rfl,hc,R2⟩:=yr R' e1 hl
 exact zam hc e2 R2 λF2 H2 v R3=>q F2 H2 s' _ _ v R3 h2
theorem e5_v {i:Nat}(h:E5 W E (.v i) σ H Q):tVar i σ H Q:=by
 obtain⟨F,s,τ,vs,γ,K,X4,R,h,q,x⟩:=h
 obtain⟨z,e,h⟩:=zz h
 obtain⟨v,k1,k2⟩:=R.rd e
 exact⟨v,k1,q F H s _ _ v k2 h⟩
theorem zcM {t:T}{v:V}{c:Xp}(hc:∀ s τ K X,WE c s τ K X->K s (.own t::τ))(hs:shr t=true)(hv:∀ F:Hp,IsV W F t v)(h:E5 W E c σ H Q):tC v σ H Q:=by
 obtain⟨F,s,τ,vs,γ,K,X4,R,h,q,x⟩:=h
 exact q F H s _ _ v (R.leaf hs (hv F)) (hc s τ K X4 h)
theorem zcN {i:Nat}{s s' τ τ':Sl}{x:Slot}{as bs:List AT}{a:AT}{o:Option V}{vs:List V}(h1:Ms as s σ as)(h2:Ms as τ (vs.map some) bs)(hx:M1 as x o a)(hi:i<as.length)(e:Qp s τ i x=some (s',τ')):Ms (as.set i a) s' (σ.set i o) (as.set i a)/\Ms (as.set i a) τ' (vs.map some) bs:=by
 obtain⟨x',k0,e⟩:=zb e
 obtain⟨s1,k1,e⟩:=zb e
 obtain⟨s2,k2,e⟩:=zb e
 obtain⟨τ1,k3,e⟩:=zb e
 cases e
 have pp:∀ j q u,(j=i->q.length<0)->getS j q as=some u->∃ u',getS j q (as.set i a)=some u'/\val u' = val u:=λj q u hl hu=>by
  have ij:i≠j:=λz=>absurd (hl z.symm) (gZ _)
  exact⟨u,by unfold getS at hu ⊢;rw [Ui ij];exact hu,rfl⟩
 obtain⟨_,rfl⟩:=Zp k2
 have mx:M1 (as.set i a) x' o a:=by
  cases x with
  | no=>cases k0;exact hx
  | own t=>cases k0;exact hx
  | al j q=>
   simp only [j6,xO] at k0
   cases c:(j == i&&Nat.ble 0 q.length) with
   | true=>rw [c] at k0;cases k0;exact hx.1
   | false=>
    rw [c] at k0;cases k0
    obtain⟨hn,u,hu,ho⟩:=hx
    obtain⟨u',g1,g2⟩:=pp j q u (λz=>by subst z;rw [uW,gf,gz (uE _)] at c;cases c) hu
    exact⟨hn,u',g1,by rw [g2];exact ho⟩
 exact⟨(h1.kill pp k1).set mx,h2.kill pp k3⟩
theorem wN {as δ:List AT}{i:Nat}{a b:AT}(h:as[i]? = some b):(b::(as.set i a++δ)).Perm (a::(as++δ)):=by
 have:=Zr (y:=a) h
 have p1:(b::(as.set i a)).Perm (a::as):=(uC (l₁:=[b])).trans (this.trans uC)
 exact p1.append_right δ
theorem Rep.setTop {i:Nat}{x:Slot}{v:V}{s' τ':Sl}(R:Rep W F H s (x::τ) σ (v::vs) γ)(e:Qp s τ i x=some (s',τ')):Rep W F H s' τ' (σ.set i (some v)) vs γ:=by
 obtain⟨as,bs,R⟩:=R
 obtain⟨b,bs',rfl,m,st,R'⟩:=R.uncons
 have hi:i<as.length:=by
  rw [R'.ls.len.2]
  obtain⟨_,_,e⟩:=zb e
  obtain⟨s1,k1,e⟩:=zb e
  obtain⟨s2,k2,e⟩:=zb e
  obtain⟨h,_⟩:=Zp k2
  have:∀ {s s1:Sl},mapO (j6 i 0) s=some s1->s1.length=s.length:=λ{s s1} h=>by
   induction s generalizing s1 with
   | nil=>cases h;rfl
   | cons y s ih=>
    obtain⟨z,zs,_,h2,h⟩:=zt h
    cases h
    exact congrArg (· + 1) (ih h2)
  rw [← this k1];exact h
 obtain⟨m1,m2⟩:=zcN R'.ls R'.ts m hi e
 refine⟨as.set i b,bs',?_,m1,m2⟩
 have:=st.perm (wN (a:=b) (δ:=bs'++γ) (uu hi)).symm
 exact this.tail
theorem Rep.mv {i:Nat}{s' τ':Sl}(R:Rep W F H s τ σ vs γ)(e:mvS s τ i=some (s',τ')):∃ v x τ'',τ' = x::τ''/\σ[i]? = some (some v)/\Rep W F H s' τ' σ (v::vs) γ:=by
 obtain⟨y,e1,e⟩:=zb e
 obtain⟨t,e2,e⟩:=zb e
 obtain⟨r,e3,e⟩:=zb e
 cases e
 cases y with
 | no=>cases e2
 | al _ _=>cases e2
 | own t'=>
  cases e2
  obtain⟨as,bs,R⟩:=R
  obtain⟨o,a,g1,g2,g3,g4⟩:=R.ls.get e1
  subst g4
  obtain⟨m1,m2⟩:=zcN (o:=some (val a)) (x:=.no) (a:=nilA) R.ls R.ts rfl (v8 g2) e3
  rw [Js g1] at m1
  refine⟨val a,_,_,rfl,g1,as.set i nilA,a::bs,?_,m1,_,_,_,_,rfl,rfl,⟨g3,rfl⟩,m2⟩
  have:=R.st.nil.perm (wN g2).symm
  exact this.perm vt
theorem e5_m {i:Nat}(h:E5 W E (.m i) σ H Q):tVar i σ H Q:=by
 obtain⟨F,s,τ,vs,γ,K,X4,R,h,q,x⟩:=h
 obtain⟨s',τ',e,h⟩:=zi h
 obtain⟨v,y,τ'',rfl,k1,k2⟩:=R.mv e
 exact⟨v,k1,q F H s' _ _ v k2 h⟩
theorem qH {α:Type}{a b:α}{l:List α}:(a::b::l).Perm (b::a::l):=List.Perm.swap b a l
theorem St.outS {i:Nat}{p:Lc}{as δ:List AT}{u:AT}(st:St W F H (as++δ))(e:getS i p as=some u):St W F H (u::(setS i p as (hole u)++δ)):=by
 obtain⟨a,e1,e2,e3⟩:=jJ e
 rw [e3]
 have h1:(a::(as.set i (setA p a (hole u))++δ)).Perm (setA p a (hole u)::(as++δ)):=wN e1
 have h2:(a::(as.set i nilA++δ)).Perm (nilA::(as++δ)):=wN e1
 have st1:=(st.nil.perm h2.symm).out e2
 have h3:(nilA::(as.set i (setA p a (hole u))++δ)).Perm (setA p a (hole u)::(as.set i nilA++δ)):=by
  have:=wN (as:=as.set i nilA) (a:=setA p a (hole u)) (b:=nilA) (δ:=δ) (i:=i) (by rw [uU (v8 e1)])
  rw [gR] at this
  exact this
 exact(st1.perm ((h3.symm.cons u).trans qH)).tail
theorem St.inS {i:Nat}{p:Lc}{as δ:List AT}{u w:AT}(st:St W F H (w::(as++δ)))(e:getS i p as=some u)(hu:ads u=[])(hv:val w=val u):St W F H (setS i p as w++δ):=by
 obtain⟨a,e1,e2,e3⟩:=jJ e
 rw [e3]
 have h2:(a::(as.set i nilA++δ)).Perm (nilA::(as++δ)):=wN e1
 have st1:St W F H (w::a::(as.set i nilA++δ)):=by
  have:=(st.nil.perm (qH.trans (h2.symm.cons w)))
  exact this
 have st2:=st1.into e2 hu hv
 have h3:(nilA::(as.set i (setA p a w)++δ)).Perm (setA p a w::(as.set i nilA++δ)):=by
  have:=wN (as:=as.set i nilA) (a:=setA p a w) (b:=nilA) (δ:=δ) (i:=i) (by rw [uU (v8 e1)])
  rw [gR] at this
  exact this
 exact(st2.perm h3.symm).tail
theorem yt {i:Nat}{p:Lc}{as:List AT}{u w:AT}(e:getS i p as=some u):getS i p (setS i p as w)=some w/\∀ z,setS i p (setS i p as w) z=setS i p as z:=by
 obtain⟨a,e1,e2,e3⟩:=jJ e
 have e4:(as.set i (setA p a w))[i]? = some (setA p a w):=by rw [uU (v8 e1)]
 rw [e3]
 refine⟨by unfold getS;rw [e4];exact get_set e2,λz=>?_⟩
 rw [e3]
 unfold setS
 rw [e4]
 show(as.set i (setA p a w)).set i (setA p (setA p a w) z)=_
 rw [gR,set_set e2]
theorem Rp.place {i:Nat}{p:Lc}{v:V}{t:T}{as bs:List AT}(R:Rp W F H s (.al i p::τ) σ (v::vs) γ as bs)(e:getP s i p=some t):∃ u bs',bs=nilA::bs'/\getS i p as=some u/\era u=t/\val u=v/\St W F H (u::(setS i p as (hole u)++(bs'++γ))) /\
  ∀ {F' H' γ' w s' τ'},St W F' H' (w::(setS i p as (hole u)++(bs'++γ')))->val w=v->putSt s τ i p (era w)=some (s',τ')->Rep W F' H' s' τ' σ vs γ':=by
 obtain⟨b,bs',rfl,m,st,R'⟩:=R.uncons
 obtain⟨rfl,u,hu,hv⟩:=m
 cases hv
 obtain⟨a,e1,e2,e3⟩:=jJ hu
 have et:era u=t:=by
  obtain⟨y,k1,e⟩:=zb e
  obtain⟨r,k2,e⟩:=zb e
  cases y with
  | no=>cases k2
  | al _ _=>cases k2
  | own r'=>
   cases k2
   obtain⟨o,a',g1,g2,g3,g4⟩:=R'.ls.get k1
   rw [e1] at g2;cases g2
   subst g3
   have e:getT p (era a)=some t:=e
   rw [QQ e2] at e;cases e;rfl
 refine⟨u,bs',rfl,hu,et,rfl,R'.st.outS hu,λ{F' H' γ' w s' τ'} st' hw ep=>?_⟩
 obtain⟨g1,g2⟩:=yt (w:=hole u) hu
 have:=st'.inS g1 rfl hw
 rw [g2] at this
 obtain⟨m1,m2⟩:=Z5 R'.ls R'.ts hu hw ep
 exact⟨_,bs',this,m1,m2⟩
end L5
namespace L5
open PySem L2 PySem.Spec PyProof.Rows
variable {W:Wd} {E:XS} {F H:Hp} {s τ:Sl} {σ:L2.St} {vs:List V} {γ:List AT} {K:KP} {X4:XP} {Q:VK}
theorem Rep.frz {x:Slot}{v:V}{s' τ':Sl}(R:Rep W F H s (x::τ) σ (v::vs) γ)(e:frzS s (x::τ)=some (s',τ')):∃ F' y τ'',τ' = y::τ''/\Rep W F' H s' τ' σ (v::vs) γ:=by
 cases x with
 | no=>cases e
 | own t=>
  cases c:shr t with
  | true=>simp only [frzS,c] at e;cases e;exact⟨F,_,_,rfl,R⟩
  | false=>
   simp only [frzS,c] at e;cases e
   obtain⟨as,bs,R⟩:=R
   obtain⟨b,bs',rfl,m,st,R'⟩:=R.uncons
   cases m.2
   obtain⟨F',g,st'⟩:=st.frz
   rw [m.1] at st'
   have R2:Rp W F' H s τ σ vs γ as bs':=⟨st'.tail,R'.ls,R'.ts⟩
   exact⟨F',_,_,rfl,as,_,R2.cons st' ⟨rfl,rfl⟩⟩
 | al i p=>
  obtain⟨t,e1,e⟩:=zb e
  obtain⟨q,e2,e⟩:=zb e
  cases e
  obtain⟨as,bs,R⟩:=R
  obtain⟨u,bs',rfl,hu,et,ev,st,back⟩:=R.place e1
  obtain⟨F',g,st'⟩:=st.frz
  rw [et,ev] at st'
  have R2:=back (w:=.lf (L5.frz t) v) st' rfl e2
  exact⟨F',_,_,rfl,R2.leaf (vM t) st'.ok.1.2⟩
theorem zi6 {c:Xp}(h:E5 W E (.fz c) σ H Q):E5 W E c σ H Q:=by
 obtain⟨F,s,τ,vs,γ,K,X4,R,h,q,x⟩:=h
 refine⟨F,s,τ,vs,γ,_,X4,R,h,λF' H' s' y τ' v R' h'=>?_,x⟩
 obtain⟨s2,τ2,e,h2⟩:=zi h'
 obtain⟨F2,y2,τ3,rfl,R2⟩:=R'.frz e
 exact q F2 H' s2 y2 τ3 v R2 h2
theorem Rep.node {k:Kd}{o:HO}{cs:List AT}{p:Addr}(R:Rep W F H s τ σ vs (cs++γ))(hp:H p=none)(ob:ObK W k (vals cs) o):Rep W F (upd H p o) s (.own (.nd true k (eras cs))::τ) σ (.ref p::vs) γ:=by
 obtain⟨Γ,st,back⟩:=R.all
 rw [ud] at st
 exact(back (γ':=.nd p k cs::γ) (st.node hp ob)).push
theorem Rep.tuple {cs:List AT}{p:Addr}(R:Rep W F H s τ σ vs (cs++γ))(hp:H p=none):Rep W (upd F p (.tup (vals cs))) (upd H p (.tup (vals cs))) s (.own (.tp (eras cs))::τ) σ (.ref p::vs) γ:=by
 obtain⟨Γ,st,back⟩:=R.all
 rw [ud] at st
 exact(back (γ':=.tp p cs::γ) (st.tuple hp)).push
theorem zho {es:List Xp}(hl:es.length<=16777216)(h:E5 W E (.lst es) σ H Q):tLst (A5 W E es) σ H Q:=by
 obtain⟨F,s,τ,vs,γ,K,X4,R,h,q,x⟩:=h
 refine⟨F,s,τ,vs,γ,_,X4,R,h,λF' H' s' τ' us hn R' h'=>⟨by rw [hn,sizeLine_eq];exact hl,λp hp=>?_⟩,x⟩
 obtain⟨ts,τ2,e,h2⟩:=zi h'
 obtain⟨cs,rfl,rfl,R2⟩:=ke R' e hn
 exact q _ _ s' _ _ _ (R2.node (k:=.ls) hp rfl) h2
theorem zhp {es:List Xp}(hl:es.length<=16777216)(h:E5 W E (.tup es) σ H Q):tTup (A5 W E es) σ H Q:=by
 obtain⟨F,s,τ,vs,γ,K,X4,R,h,q,x⟩:=h
 refine⟨F,s,τ,vs,γ,_,X4,R,h,λF' H' s' τ' us hn R' h'=>⟨by rw [hn,sizeLine_eq];exact hl,λp hp=>?_⟩,x⟩
 obtain⟨ts,τ2,e,h2⟩:=zi h'
 obtain⟨cs,rfl,rfl,R2⟩:=ke R' e hn
 exact q _ _ s' _ _ _ (R2.tuple hp) h2
theorem zhq (h:E5 W E .dct σ H Q):tD0 σ H Q:=by
 obtain⟨F,s,τ,vs,γ,K,X4,R,h,q,x⟩:=h
 exact λp hp=>q _ _ s _ _ _ (Rep.node (k:=.dc []) (cs:=[]) R hp ⟨[],rfl,rfl,rfl⟩) h
theorem Rep.opened {t:T}{v:V}(R:Rep W F H s (.own t::τ) σ (v::vs) γ):∃ b,era b=t/\val b=v/\OK W F H b/\Rep W F H s τ σ vs (b::γ):=by
 obtain⟨as,bs,R⟩:=R
 obtain⟨b,bs',rfl,m,st,R'⟩:=R.uncons
 cases m.2
 exact⟨b,m.1,rfl,st.ok.1,as,bs',st.perm (by rw [← ud,← ud];exact uH.symm),R'.ls,R'.ts⟩
theorem zhr {c:Xp}(h:E5 W E (.tpl c) σ H Q):E5 W E c σ H λv H1=>∃ p ys,v=.ref p/\SqL W.K H1 p ys/\∀ l,H1 l=none->Q (.ref l) (upd H1 l (.tup ys)):=by
 obtain⟨F,s,τ,vs,γ,K,X4,R,h,q,x⟩:=h
 refine⟨F,s,τ,vs,γ,_,X4,R,h,λF' H' s' y τ' v R' h'=>?_,x⟩
 obtain⟨t,τ2,e,h3⟩:=zi h'
 obtain⟨ts,e2,h2⟩:=zz h3
 clear h3
 cases y<;>cases e
 obtain⟨b,rfl,rfl,hb,R2⟩:=R'.opened
 have g:=R2.fh
 cases b with
 | tp p ys=>cases e2
 | nd p k ys=>
  cases k<;>cases e2
  obtain⟨⟨o,h1,rfl⟩,h3⟩:=hb
  obtain⟨Γ,st,back⟩:=R2.all
  have R3:Rep W F' H' s' τ' σ vs (ys++γ):=back (by rw [ud];exact St.open st)
  exact⟨p,vals ys,rfl,SqL.of h1,λl hl=>q _ _ s' _ _ _ (Rep.tuple (cs:=ys) R3 hl) h2⟩
 | lf t v=>
  obtain⟨p,us,k1,k2,k3⟩:=W2 g hb e2
  refine⟨p,us,k1,k2,λl hl=>?_⟩
  have sh:shrs ts=true:=by
   have e2:lsO t=some ts:=e2
   unfold lsO at e2
   split at e2
   ·cases e2
    obtain⟨hs,_,_,_,_,_,_,h4,_⟩:=hb
    exact h4 (by simpa [shr] using hs)
   ·cases e2
    obtain⟨_,_,_,_,_,h4,_⟩:=hb
    exact h4
   ·cases e2
  obtain⟨Γ,st,back⟩:=R2.all
  obtain⟨k4,k5,k6⟩:=(St.tail (a:=.lf t v) (γ:=γ++Γ) st).leaves (k3.sh sh) sh
  have:=Rep.tuple (cs:=leaves ts us) (back (γ':=leaves ts us++γ) (by rw [ud];exact k4)) hl
  rw [k5,k6] at this
  exact q _ _ s' _ _ _ this h2
def zcO (W:Wd)(H:Hp)(t:T)(p:Addr)(vs:List V):Prop:=
 match t with
 | .nd _ .ls _=>SqL W.K H p vs
 | .nd _ (.dc ks) _=>∃ kvs,H p=some (.dK kvs)/\kvs.map (·.1)=ks/\kvs.map (·.2)=vs
 | .nd _ (.ob c fs) _=>∃ dx kvs,H p=some (.ins (W.cl c) dx kvs)/\kvs.map (·.1)=fs/\kvs.map (·.2)=vs
 | .tp _=>SqT W.K H p vs
 | .ks l _=>if l=true then SqL W.K H p vs else SqT W.K H p vs
 | _=>False
theorem zan {o:Bool}{k:Kd}{xs:List T}{p:Addr}{us:List V}{ob:HO}(h:H p=some ob)(hk:ObK W k us ob):zcO W H (.nd o k xs) p us:=by
 cases k with
 | ls=>cases hk;exact SqL.of h
 | dc ks=>obtain⟨kvs,rfl,h1,h2⟩:=hk;exact⟨kvs,h,h1,h2⟩
 | ob c fs=>obtain⟨dx,kvs,rfl,h1,h2⟩:=hk;exact⟨dx,kvs,h,h1,h2⟩
theorem V0 {b:AT}{xs:List T}(g:Same F H)(h:OK W F H b)(e:parts (era b)=some xs):∃ p us,val b=.ref p/\zcO W H (era b) p us/\Sq W F H xs us/\((shrs xs=true)\/∃ ys,kidA b=some ys/\eras ys=xs/\vals ys=us):=by
 cases b with
 | tp p ys=>cases e;exact⟨p,_,rfl,SqT.of (g _ _ h.1),VX g h.2,.inr ⟨ys,rfl,rfl,rfl⟩⟩
 | nd p k ys=>
  cases e
  obtain⟨⟨ob,h1,h2⟩,h3⟩:=h
  exact⟨p,_,rfl,zan h1 h2,VX g h3,.inr ⟨ys,rfl,rfl,rfl⟩⟩
 | lf t v=>
  cases t with
  | tp ys=>cases e;obtain⟨hs,p,us,h1,h2,h3⟩:=h;exact⟨p,us,h1,SqT.of (g _ _ h2),Qq g h3,.inl hs⟩
  | nd o k ys=>
   cases e
   obtain⟨hs,p,us,ob,h1,h2,h3,h4,h5⟩:=h
   exact⟨p,us,h1,zan (g _ _ h2) h3,Qq g h5,.inl (h4 (by simpa [shr] using hs))⟩
  | ks l ys=>
   cases e
   obtain⟨hs,p,us,h1,h2,h4,h5⟩:=h
   refine⟨p,us,h1,?_,Qq g h5,.inl h4⟩
   cases l
   ·exact Jp g h2
   ·exact Jo g h2
  | _=>cases e
theorem W5 {n:Nat}{c:AT}{ys:List AT}:∀ {p:Lc} {a u:AT},getA p a=some u->kidA u=some ys->ys[n]? = some c->getA (p++[n]) a=some c
 | [],_,_,h,e1,e2=>by cases h;simp only [UH,getA,e1,uT,e2]
 | j::p,a,u,h,e1,e2=>by
  obtain⟨xs,x,k1,k2,k3,_⟩:=qg h
  simp only [List.cons_append,getA,k1,uT,k2]
  exact W5 k3 e1 e2
theorem Rep.part {x z:Slot}{v:V}{J:T->Option Nat}(R:Rep W F H s (x::τ) σ (v::vs) γ)(e:kF s x J=some z):∃ t p us n w,v=.ref p/\J t=some n/\zcO W H t p us/\us[n]? = some w/\(∃ xs,parts t=some xs/\us.length=xs.length)/\Rep W F H s (z::τ) σ (w::vs) γ:=by
 cases x with
 | no=>cases e
 | own t=>
  obtain⟨n,e1,e⟩:=zb e
  obtain⟨xs,e2,e⟩:=zb e
  obtain⟨u,e3,e⟩:=zb e
  cases e
  obtain⟨b,rfl,rfl,hb,R2⟩:=R.opened
  obtain⟨p,us,k1,k2,k3,k4⟩:=V0 R2.fh hb e2
  rcases k4 with k4 | ⟨ys,k4,rfl,rfl⟩
  ·obtain⟨w,g1,g2⟩:=(k3.sh k4).get e3
   exact⟨_,p,us,n,w,k1,e1,k2,g1,⟨xs,e2,k3.len⟩,R.pop.leaf (z7.mp k4 u (uK e3)) g2⟩
  ·rw [zl,ux] at e3
   obtain⟨c,e4,rfl⟩:=uz.mp e3
   refine⟨_,p,_,n,val c,k1,e1,k2,by rw [ux,e4];rfl,⟨_,e2,k3.len⟩,Rep.push ?_⟩
   obtain⟨Γ,st,back⟩:=R2.all
   have st2:St W F H (ys++(γ++Γ)):=by
    cases b with
    | lf _ _=>cases k4
    | tp _ _=>cases k4;exact St.openT st
    | nd _ _ _=>cases k4;exact St.open st
   refine back (γ':=c::γ) ?_
   exact((st2.nil.perm (wN e4).symm).perm (uH.symm:(c::(ys.set n nilA++(γ++Γ))).Perm (ys.set n nilA++c::(γ++Γ)))).right
 | al i q=>
  obtain⟨t,e0,ea⟩:=zb e
  obtain⟨n,e1,eb⟩:=zb ea
  obtain⟨xs,e2,ec⟩:=zb eb
  obtain⟨u,e3,ez⟩:=zb ec
  clear e ea eb ec
  obtain⟨as,bs,Rp⟩:=R
  obtain⟨b,bs',rfl,m,st,R'⟩:=Rp.uncons
  obtain⟨rfl,u0,hu,hv⟩:=m
  cases hv
  obtain⟨a',f1,f2,f3,f5,f6,f7,_⟩:=Rp.place e0
  rw [hu] at f3;cases f3
  subst f5
  have hb:OK W F H u0:=by
   obtain⟨a,g1,g2,_⟩:=jJ hu
   exact Jt (zB.mp R'.st.left a (uK g1)) g2
  obtain⟨p,us,k1,k2,k3,k4⟩:=V0 R'.st.fh hb e2
  have R0:Rep W F H s τ σ vs γ:=⟨as,bs',R'⟩
  cases c:shr u with
  | true=>
   rw [c] at ez;cases ez
   obtain⟨w,g1,g2⟩:=k3.now.get e3
   refine⟨_,p,us,n,w,k1,e1,k2,g1,⟨xs,e2,k3.len⟩,R0.leaf c ?_⟩
   rcases k4 with k4 | ⟨ys,k4,rfl,rfl⟩
   ·obtain⟨w',g3,g4⟩:=(k3.sh k4).get e3
    rw [g1] at g3;cases g3
    exact g4
   ·rw [zl,ux] at e3
    obtain⟨ch,e4,rfl⟩:=uz.mp e3
    rw [ux,e4] at g1
    cases g1
    have:OK W F H ch:=Jt (p:=[n]) hb (by simp only [getA,k4,uT,e4])
    exact(this.leaf c).2
  | false=>
   rw [c] at ez;cases ez
   rcases k4 with k4 | ⟨ys,k4,rfl,rfl⟩
   ·rw [z7.mp k4 u (uK e3)] at c;cases c
   ·rw [zl,ux] at e3
    obtain⟨ch,e4,rfl⟩:=uz.mp e3
    refine⟨_,p,_,n,val ch,k1,e1,k2,by rw [ux,e4];rfl,⟨_,e2,k3.len⟩,as,_,R'.cons R'.st.nil ⟨rfl,ch,?_,rfl⟩⟩
    obtain⟨a,g1,g2,_⟩:=jJ hu
    unfold getS
    rw [g1]
    exact W5 g2 k4 e4
end L5
namespace L5
open PySem L2 PySem.Spec PyProof.Rows
variable {W:Wd} {E:XS} {F H:Hp} {s τ:Sl} {σ:L2.St} {vs:List V} {γ:List AT} {K:KP} {X4:XP} {Q:VK}
theorem Rep.bl {b:Bool}(R:Rep W F H s τ σ vs γ):Rep W F H s (.own (.bl b)::τ) σ (.bl b::vs) γ:=R.leaf (t:=.bl b) rfl rfl
theorem Rep.str1 {c:Nat}(R:Rep W F H s τ σ vs γ):Rep W F H s (.own (.str [c])::τ) σ (.str (S [c])::vs) γ:=R.leaf (t:=.str [c]) rfl ⟨rfl,by simp⟩
noncomputable def ixR (K:Le):R2:=λx y H Q=>rIxL K x y H Q\/rIxT K x y H Q\/zfA x y H Q\/rIxD x y H Q
theorem zhs {X:Cx}{K:Le}(hK:X.K=K)(hu:X.A.units+64<cLine):IxR X (ixR K):=Y7 (zcd hK) (Y7 (zem hK) (Y7 ix_S (zeA (by lia))))
theorem XJ {us:List V}{xs:List T}{n:Nat}{i:Int}{w:V}(hl:us.length=xs.length)(e:ixN xs.length i=some n)(k:us[n]? = some w):atI us i=some w:=by
 unfold atI
 rw [hl,e];exact k
theorem zao {kvs:List (Key×V)}{k:Key}{n:Nat}{w:V}(h:(kvs.map (·.1)).findIdx? (λk'=>decide (k' = k))=some n)(e:(kvs.map (·.2))[n]? = some w):valV kvs k=some w:=by
 induction kvs generalizing n with
 | nil=>cases h
 | cons a l ih=>
  rw [uo,Uj] at h
  cases c:decide (a.1=k) with
  | true=>
   rw [c] at h;cases h;cases e
   exact yj (uy c)
  | false=>
   rw [c] at h
   obtain⟨m,h1,rfl⟩:=uz.mp h
   rw [vq (uL c)]
   exact ih h1 e
theorem zcP {kvs:List (Str×V)}{f:Str}{n:Nat}{w:V}(h:(kvs.map (·.1)).findIdx? (λk'=>decide (k' = f))=some n)(e:(kvs.map (·.2))[n]? = some w):kvs.lookup f=some w:=by
 induction kvs generalizing n with
 | nil=>cases h
 | cons a l ih=>
  rw [uo,Uj] at h
  cases c:decide (a.1=f) with
  | true=>
   rw [c] at h;cases h;cases e
   rw [uY,← uy c,uW]
  | false=>
   rw [c] at h
   obtain⟨m,h1,rfl⟩:=uz.mp h
   rw [uY,u3.mpr (λz=>uL c z.symm)]
   exact ih h1 e
theorem zi7 {a k:Xp}(h:E5 W E (.ix a k) σ H Q):tOp (ixR W.K) (E5 W E a) (E5 W E k) σ H Q:=by
 obtain⟨F,s,τ,vs,γ,K,X4,R,h,q,x⟩:=h
 refine⟨F,s,τ,vs,γ,_,X4,R,h,λF1 H1 s1 y1 τ1 v1 R1 h1=>?_,x⟩
 refine⟨F1,s1,y1::τ1,v1::vs,γ,_,X4,R1,h1,λF2 H2 s2 y τ2 u R2 h2=>?_,x.app [v1]⟩
 obtain⟨τ3,e,h3⟩:=zz h2
 cases τ2 with
 | nil=>cases e
 | cons y0 τ2=>
  obtain⟨tk,e1,e⟩:=zb e
  obtain⟨as,bs,Rk⟩:=id R2
  obtain⟨bk,k1,k2,k3⟩:=Rk.res e1
  subst k3
  have R3:=R2.pop
  rcases zN e with e | e
  ·obtain⟨t,i,e2,e3,e⟩:=zt e
   obtain⟨l,e4,e⟩:=zb e
   obtain⟨c,e5,e⟩:=zb e
   cases e
   cases y0<;>cases e2
   obtain⟨b,rfl,rfl,hb,R4⟩:=R3.opened
   obtain⟨g1,g2⟩:=je hb (qj e4)
   exact .inr (.inr (.inl ⟨l,i,c,g1,zI k1 (by rw [k2];exact e3),by rw [sizeLine_eq];exact g2,e5,q F2 H2 s2 _ _ _ R3.pop.str1 h3⟩))
  ·obtain⟨z,e2,e⟩:=zb e
   cases e
   obtain⟨t,p,us,n,w,g1,g2,g3,g4,⟨xs,g5,g6⟩,R4⟩:=R3.part e2
   have fin:=q F2 H2 s2 _ _ _ R4 h3
   unfold ixJ at g2
   split at g2
   ·cases g5
    obtain⟨i,g7,g8⟩:=zb g2
    exact .inl ⟨p,us,i,w,g1,zI k1 (by rw [k2];exact g7),g3,XJ g6 g8 g4,fin⟩
   ·cases g5
    obtain⟨i,g7,g8⟩:=zb g2
    exact .inr (.inl ⟨p,us,i,w,g1,zI k1 (by rw [k2];exact g7),g3,XJ g6 g8 g4,fin⟩)
   ·rename_i l xs'
    cases g5
    obtain⟨i,g7,g8⟩:=zb g2
    cases l
    ·exact .inr (.inl ⟨p,us,i,w,g1,zI k1 (by rw [k2];exact g7),g3,XJ g6 g8 g4,fin⟩)
    ·exact .inl ⟨p,us,i,w,g1,zI k1 (by rw [k2];exact g7),g3,XJ g6 g8 g4,fin⟩
   ·obtain⟨key,g7,g8⟩:=zb g2
    obtain⟨kvs,c1,rfl,rfl⟩:=g3
    have hk:=XF k1 (by rw [k2];exact g7)
    refine .inr (.inr (.inr ⟨p,w,g1,?_,fin⟩))
    rw [hk,← zao g8 g4]
    exact DGet.k c1
   ·cases g2
theorem zi8 {a:Xp}{c:Nat}{f:Str}(hc:Cls W.K (W.cl c))(hn:qY W.K (W.cl c) f)(h:E5 W E (.at a c f) σ H Q):tFld W.K (E5 W E a) f σ H Q:=by
 obtain⟨F,s,τ,vs,γ,K,X4,R,h,q,x⟩:=h
 refine⟨F,s,τ,vs,γ,_,X4,R,h,λF1 H1 s1 y τ1 v1 R1 h1=>?_,x⟩
 obtain⟨τ3,e,h3⟩:=zz h1
 obtain⟨z,e2,e⟩:=zb e
 cases e
 obtain⟨t,p,us,n,w,g1,g2,g3,g4,_,R4⟩:=R1.part e2
 unfold fldJ at g2
 split at g2
 ·rename_i c' fs xs _
  cases cc:c' == c with
  | false=>rw [cc] at g2;cases g2
  | true=>
   rw [cc] at g2
   obtain⟨dx,kvs,c1,rfl,rfl⟩:=g3
   have:c' = c:=eq_of_beq cc
   subst this
   exact⟨p,_,dx,kvs,w,g1,c1,hc,hn,zcP g2 g4,q F1 H1 s1 _ _ _ R4 h3⟩
 ·cases g2
theorem j7 {b:Bool}{p q:Prop}(h:brn b p q):(b=true/\p)\/(b=false/\q):=by
 cases b with
 | true=>exact .inl ⟨rfl,h⟩
 | false=>exact .inr ⟨rfl,h⟩
theorem zi9 {m:ME}{o:Xp}{es:List Xp}(h:E5 W E (.me m o es) σ H Q):tBM W.K "str" (rMe W (meF m)) (E5 W E o) (A5 W E es) σ H Q:=by
 obtain⟨F,s,τ,vs,γ,K,X4,R,h,q,x⟩:=h
 refine⟨F,s,τ,vs,γ,_,X4,R,h,λF1 H1 s1 y τ1 v1 R1 h1=>?_,x⟩
 rcases j7 h1 with⟨c,h1⟩ | ⟨_,z⟩
 ·refine⟨?_,F1,s1,y::τ1,v1::vs,γ,_,X4,R1,h1,λF2 H2 s2 τ2 us hl R2 h2=>?_,x.app [v1]⟩
  ·match y,c with
   | .own (.str l),_=>
    obtain⟨b,e,rfl,hb,_⟩:=R1.opened
    rw [(je hb e).1]
    exact rfl
  ·obtain⟨ts,τ3,e1,h2⟩:=zi h2
   obtain⟨l,τ4,e2,h2⟩:=zi h2
   obtain⟨z,e3,h3⟩:=zz h2
   obtain⟨cs,rfl,rfl,hc,R3⟩:=yr R2 e1 hl
   match τ3,e2 with
   | .own (.str _)::_,e2=>
    cases e2
    obtain⟨b,e,rfl,hb,_⟩:=R3.opened
    obtain⟨g1,g2⟩:=je hb e
    exact⟨l,g1,g2,zam hc e3 R3.pop λF4 H4 v R4=>q F4 H4 s2 _ _ v R4 h3⟩
 ·exact z.elim
theorem zht {a:Xp}(h:E5 W E (.not a) σ H Q):zfv (E5 W E a) σ H Q:=by
 obtain⟨F,s,τ,vs,γ,K,X4,R,h,q,x⟩:=h
 refine⟨F,s,τ,vs,γ,_,X4,R,h,λF1 H1 s1 y τ1 v1 R1 h1=>?_,x⟩
 obtain⟨b,τ2,e,h2⟩:=zi h1
 match y,e with
 | .own (.bl _),e=>
  cases e
  obtain⟨b',e,rfl,hb,_⟩:=R1.opened
  exact⟨b,Zt hb e,q F1 H1 s1 _ _ _ R1.pop.bl h2⟩
noncomputable def B5 (W:Wd)(E:XS)(k:Bool)(es:List Xp):TE:=λσ H Q=>∃ F s τ vs γ K X4,Rep W F H s τ σ vs γ/\WB k es s τ K X4/\(∀ F' H' s' x τ' v,Rep W F' H' s' (x::τ') σ (v::vs) γ->K s' (x::τ')->Q v H')/\XK W E σ vs γ X4
theorem zhu {e e2:Xp}{es:List Xp}(h:B5 W E true (e::e2::es) σ H Q):zfu (E5 W E e) (B5 W E true (e2::es)) σ H Q:=by
 obtain⟨F,s,τ,vs,γ,K,X4,R,h,q,x⟩:=h
 refine⟨F,s,τ,vs,γ,_,X4,R,h,λF1 H1 s1 y τ1 v1 R1 h1=>?_,x⟩
 obtain⟨b,τ2,e,h2⟩:=zi h1
 match y,e with
 | .own (.bl _),e=>
  cases e
  obtain⟨b',e,rfl,hb,_⟩:=R1.opened
  refine⟨b,Zt hb e,?_⟩
  rcases j7 h2 with⟨rfl,h3⟩ | ⟨rfl,h3⟩
  ·exact⟨F1,s1,τ1,vs,γ,K,X4,R1.pop,h3,q,x⟩
  ·exact q F1 H1 s1 _ _ _ R1.pop.bl h3
theorem zja {e e2:Xp}{es:List Xp}(h:B5 W E false (e::e2::es) σ H Q):tOrV (E5 W E e) (B5 W E false (e2::es)) σ H Q:=by
 obtain⟨F,s,τ,vs,γ,K,X4,R,h,q,x⟩:=h
 refine⟨F,s,τ,vs,γ,_,X4,R,h,λF1 H1 s1 y τ1 v1 R1 h1=>?_,x⟩
 obtain⟨b,τ2,e,h2⟩:=zi h1
 match y,e with
 | .own (.bl _),e=>
  cases e
  obtain⟨b',e,rfl,hb,_⟩:=R1.opened
  refine⟨b,Zt hb e,?_⟩
  rcases j7 h2 with⟨rfl,h3⟩ | ⟨rfl,h3⟩
  ·exact q F1 H1 s1 _ _ _ R1.pop.bl h3
  ·exact⟨F1,s1,τ1,vs,γ,K,X4,R1.pop,h3,q,x⟩
section
variable {Q:Bool->Hp->Prop}
theorem t5_t {a:Xp}(h:T5 W E (.t a) σ H Q):zfD W.K (E5 W E a) σ H Q:=by
 obtain⟨F,s,τ,vs,γ,K,X4,R,h,q,x⟩:=h
 refine⟨F,s,τ,vs,γ,_,X4,R,h,λF1 H1 s1 y τ1 v1 R1 h1=>?_,x⟩
 obtain⟨ts,τ2,e,h2⟩:=zi h1
 obtain⟨b,e2,h3⟩:=zz h2
 obtain⟨cs,rfl,g1,g2,g3⟩:=yr (us:=[v1]) (ws:=vs) R1 e rfl
 match cs,g1,g2,e2 with
 | [c],g1,g2,e2=>
  cases g1
  exact⟨b,zhh g3.fh g2.1 e2,q b F1 H1 s1 _ g3 h3⟩
theorem zjb {a:Xp}(h:T5 W E (.tn a) σ H Q):tNot (T5 W E a) σ H Q:=by
 obtain⟨F,s,τ,vs,γ,K,X4,R,h,q,x⟩:=h
 exact⟨F,s,τ,vs,γ,_,X4,R,h,λb F1 H1 s1 τ1 R1 h1=>q (!b) F1 H1 s1 τ1 R1 h1,x⟩
noncomputable def TB5 (W:Wd)(E:XS)(k:Bool)(es:List Xp):TT:=λσ H Q=>∃ F s τ vs γ K X4,Rep W F H s τ σ vs γ/\WTb k es s τ K X4/\(∀ b F' H' s' τ',Rep W F' H' s' τ' σ vs γ->K b s' τ'->Q b H')/\XK W E σ vs γ X4
theorem zhv {e e2:Xp}{es:List Xp}(h:TB5 W E true (e::e2::es) σ H Q):tAnd (T5 W E e) (TB5 W E true (e2::es)) σ H Q:=by
 obtain⟨F,s,τ,vs,γ,K,X4,R,h,q,x⟩:=h
 refine⟨F,s,τ,vs,γ,_,X4,R,h,λb F1 H1 s1 τ1 R1 h1=>?_,x⟩
 rcases j7 h1 with⟨rfl,h3⟩ | ⟨rfl,h3⟩
 ·exact⟨F1,s1,τ1,vs,γ,K,X4,R1,h3,q,x⟩
 ·exact q false F1 H1 s1 _ R1 h3
theorem zjc {e e2:Xp}{es:List Xp}(h:TB5 W E false (e::e2::es) σ H Q):tOr (T5 W E e) (TB5 W E false (e2::es)) σ H Q:=by
 obtain⟨F,s,τ,vs,γ,K,X4,R,h,q,x⟩:=h
 refine⟨F,s,τ,vs,γ,_,X4,R,h,λb F1 H1 s1 τ1 R1 h1=>?_,x⟩
 rcases j7 h1 with⟨rfl,h3⟩ | ⟨rfl,h3⟩
 ·exact q true F1 H1 s1 _ R1 h3
 ·exact⟨F1,s1,τ1,vs,γ,K,X4,R1,h3,q,x⟩
theorem zap {f:List T->Option T}{cs:List AT}{z:T}{b:Bool}(hc:OKs W F H cs)(e:f (eras cs)=some z)(e2:blO z=some b)(R:Rep W F H s τ σ vs γ){Q:VK}(q:∀ F' H',Rep W F' H' s τ σ vs γ->Q (.bl b) H'):rN W f (vals cs) H Q:=zam hc e R λF' H' v R'=>by
 obtain⟨b',e',rfl,hb,_⟩:=R'.opened
 rw [Zt hb (by rw [e',Z8 e2])]
 exact q F' H' R'.pop
theorem zjd {o:Op}{es:List Xp}(h:T5 W E (.ap o es) σ H Q):A5 W E es σ H λus H'=>rN W (opF o) us H' λx H1=>∃ k,x=.bl k/\Q k H1:=by
 obtain⟨F,s,τ,vs,γ,K,X4,R,h,q,x⟩:=h
 refine⟨F,s,τ,vs,γ,_,X4,R,h,λF' H' s' τ' us hl R' h'=>?_,x⟩
 obtain⟨ts,τ2,e1,h'⟩:=zi h'
 obtain⟨z,e2,h2⟩:=zz h'
 obtain⟨b,e3,h3⟩:=zz h2
 obtain⟨cs,rfl,rfl,hc,R2⟩:=yr R' e1 hl
 exact zap hc e2 e3 R2 λF2 H2 R3=>⟨b,rfl,q b F2 H2 s' _ R3 h3⟩
end
theorem Zv {x y:Slot}{v u:V}{ts:List T}{τ':Sl}(R:Rep W F H s (y::x::τ) σ (u::v::vs) γ)(e:popT s 2 (y::x::τ) []=some (ts,τ')):∃ a b,ts=[era a,era b]/\val a=v/\val b=u/\OKs W F H [a,b]/\τ' = τ:=by
 have e2:τ' = τ:=by
  obtain⟨t,_,e⟩:=zb e
  obtain⟨t',_,e⟩:=zb e
  cases e;rfl
 obtain⟨cs,rfl,g1,g2,g3⟩:=yr (us:=[v,u]) (ws:=vs) R e rfl
 match cs,g1,g2 with
 | [a,b],g1,g2=>cases g1;exact⟨a,b,rfl,rfl,rfl,g2,e2⟩
theorem zhw {o1 o2:Op}{a b c:Xp}(h:E5 W E (.chn o1 o2 a b c) σ H Q):ZV (r2 W (opF o1)) (r2 W (opF o2)) (E5 W E a) (E5 W E b) (E5 W E c) σ H Q:=by
 obtain⟨F,s,τ,vs,γ,K,X4,R,h,q,x⟩:=h
 refine⟨F,s,τ,vs,γ,_,X4,R,h,λF1 H1 s1 y1 τ1 v1 R1 h1=>?_,x⟩
 refine⟨F1,s1,y1::τ1,v1::vs,γ,_,X4,R1,h1,λF2 H2 s2 y2 τ2 v2 R2 h2=>?_,x.app [v1]⟩
 obtain⟨ts,τ3,e1,h2'⟩:=zi h2
 obtain⟨z,e2,h2''⟩:=zz h2'
 obtain⟨k,e3,h2'''⟩:=zz h2''
 clear h2 h2' h2''
 have h2:=h2'''
 clear h2'''
 cases τ2 with
 | nil=>obtain⟨_,_,e⟩:=zb e1;cases e
 | cons y0 τ2=>
  obtain⟨A,B,rfl,rfl,rfl,hc,rfl⟩:=Zv R2 e1
  refine zap (cs:=[A,B]) hc e2 e3 R2 λF3 H3 R3=>⟨k,rfl,?_⟩
  rcases j7 h2 with⟨rfl,h2⟩ | ⟨rfl,h2⟩
  ·rw [uw rfl]
   refine⟨F3,s2,_,_,γ,_,X4,R3,h2,λF4 H4 s4 y4 τ4 v4 R4 h4=>?_,x.app [_,_]⟩
   obtain⟨ts,τ5,e4,h4'⟩:=zi h4
   obtain⟨z,e5,h4''⟩:=zz h4'
   obtain⟨_,τ6,e6,h5⟩:=zi h4''
   clear h4 h4' h4''
   cases τ4 with
   | nil=>obtain⟨_,_,e⟩:=zb e4;cases e
   | cons y5 τ4=>
    obtain⟨A',B',rfl,g1,g2,hc',rfl⟩:=Zv R4 e4
    have R5:=R4.pop.pop
    cases τ5 with
    | nil=>cases e6
    | cons y6 τ5=>
     cases e6
     have:=zam (f:=opF o2) hc' e5 R5.pop λF6 H6 v6 R6=>q F6 H6 s4 _ _ v6 R6 h5
     rw [show vals [A',B']=[val B,v4] by simp [vals,g1,g2]] at this
     exact this
  ·rw [uv (by decide)]
   exact q F3 H3 s2 _ _ _ R3.pop.pop.bl h2
theorem zhx {o1 o2:Op}{a b c:Xp}{Q:Bool->Hp->Prop}(h:T5 W E (.chn o1 o2 a b c) σ H Q):KW (ZV (r2 W (opF o1)) (r2 W (opF o2)) (E5 W E a) (E5 W E b) (E5 W E c)) σ H Q:=by
 obtain⟨F,s,τ,vs,γ,K,X4,R,h,q,x⟩:=h
 refine⟨F,s,τ,vs,γ,_,X4,R,h,λF1 H1 s1 y1 τ1 v1 R1 h1=>?_,x⟩
 refine⟨F1,s1,y1::τ1,v1::vs,γ,_,X4,R1,h1,λF2 H2 s2 y2 τ2 v2 R2 h2=>?_,x.app [v1]⟩
 obtain⟨ts,τ3,e1,h2'⟩:=zi h2
 obtain⟨z,e2,h2''⟩:=zz h2'
 obtain⟨k,e3,h2'''⟩:=zz h2''
 clear h2 h2' h2''
 have h2:=h2'''
 clear h2'''
 cases τ2 with
 | nil=>obtain⟨_,_,e⟩:=zb e1;cases e
 | cons y0 τ2=>
  obtain⟨A,B,rfl,rfl,rfl,hc,rfl⟩:=Zv R2 e1
  refine zap (cs:=[A,B]) hc e2 e3 R2 λF3 H3 R3=>⟨k,rfl,?_⟩
  rcases j7 h2 with⟨rfl,h2⟩ | ⟨rfl,h2⟩
  ·rw [uw rfl]
   refine⟨F3,s2,_,_,γ,_,X4,R3,h2,λF4 H4 s4 y4 τ4 v4 R4 h4=>?_,x.app [_,_]⟩
   obtain⟨ts,τ5,e4,h4'⟩:=zi h4
   obtain⟨z,e5,h4''⟩:=zz h4'
   obtain⟨_,τ6,e6,h4'''⟩:=zi h4''
   obtain⟨b,e7,h5⟩:=zz h4'''
   clear h4 h4' h4'' h4'''
   cases τ4 with
   | nil=>obtain⟨_,_,e⟩:=zb e4;cases e
   | cons y5 τ4=>
    obtain⟨A',B',rfl,g1,g2,hc',rfl⟩:=Zv R4 e4
    have R5:=R4.pop.pop
    cases τ5 with
    | nil=>cases e6
    | cons y6 τ5=>
     cases e6
     have:=zap (f:=opF o2) (Q:=λx H1=>∃ k,x=.bl k/\Q k H1) hc' e5 e7 R5.pop λF6 H6 R6=>⟨b,rfl,q b F6 H6 s4 _ R6 h5⟩
     rw [show vals [A',B']=[val B,v4] by simp [vals,g1,g2]] at this
     exact this
  ·rw [uv (by decide)]
   exact⟨false,rfl,q false F3 H3 s2 _ R3.pop.pop h2⟩
theorem zhy {t a b:Xp}(h:E5 W E (.ife t a b) σ H Q):tIf (T5 W E t) (E5 W E a) (E5 W E b) σ H Q:=by
 obtain⟨F,s,τ,vs,γ,K,X4,R,h,q,x⟩:=h
 refine⟨F,s,τ,vs,γ,_,X4,R,h,λc F1 H1 s1 τ1 R1 h1=>?_,x⟩
 rcases j7 h1 with⟨rfl,h1⟩ | ⟨rfl,h1⟩
 ·exact⟨F1,s1,τ1,vs,γ,K,X4,R1,h1,q,x⟩
 ·exact⟨F1,s1,τ1,vs,γ,K,X4,R1,h1,q,x⟩
noncomputable def muR:MU->V->List V->Hp->VK->Prop
 | .append=>K1
 | .extend=>K2
 | .pop=>rPop
 | .popI=>zb6
 | .insert=>λ_ _ _ _=>False
theorem W6 {α:Type}:∀ {xs:List α} {j:Nat} {r:α×List α},Z6 xs j=some r->xs[j]? = some r.1/\r.2=xs.eraseIdx j
 | [],_,_,h=>by cases h
 | _::xs,0,_,h=>by cases h;exact⟨rfl,rfl⟩
 | x::xs,j+1,r,h=>by
  obtain⟨r',e,h⟩:=zb h
  cases h
  obtain⟨h1,h2⟩:=W6 e
  exact⟨h1,by rw [h2];rfl⟩
theorem kS {α:Type}:∀ {l:List α} {j:Nat} {x:α},l[j]? = some x->l.Perm (l.eraseIdx j++[x])
 | [],_,_,h=>by cases h
 | z::l,0,x,h=>by cases h;exact(uC (l₁:=[z]))
 | z::l,j+1,x,h=>(kS (l:=l) (j:=j) h).cons z
theorem Kh {α β:Type}(f:α->β):∀ (l:List α) (j:Nat),(l.eraseIdx j).map f=(l.map f).eraseIdx j
 | [],_=>rfl
 | _::_,0=>rfl
 | x::l,j+1=>congrArg (f x::·) (Kh f l j)
theorem zje {m:MU}{p:Addr}{xs cs Γ:List AT}{ys:List T}{r:T}(st:St W F H (.nd p .ls xs::(cs++Γ)))(e:muF m (eras xs) (eras cs)=some (ys,r))(q:∀ F' H' us w,St W F' H' (.nd p .ls us::w::Γ)->eras us=ys->era w=r->Q (val w) H'):muR m (.ref p) (vals cs) H Q:=by
 obtain⟨⟨o,h1,rfl⟩,h2⟩:=st.ok.1
 have el:(vals xs).length=(eras xs).length:=by rw [zl,ue,ue]
 have one:∀ {t:T},arg1 (eras cs)=some t->∃ c,cs=[c]/\era c=t:=λ{t} h=>by
  match cs,h with
  | [c],h=>exact⟨c,rfl,uG h⟩
 have zero:∀ {u:Unit},arg0 (eras cs)=some u->cs=[]:=λ{u} h=>by
  match cs,h with
  | [],_=>rfl
 have non:∀ {F' H' us},St W F' H' (.nd p .ls us::Γ)->St W F' H' (.nd p .ls us::.lf .non .non::Γ):=λst=>(St.leaf st (t:=.non) (v:=.non) rfl rfl).perm qH
 cases m with
 | append=>
  obtain⟨y,e1,e⟩:=zb e
  obtain⟨hl,e⟩:=qx e
  cases e
  obtain⟨c,rfl,rfl⟩:=one e1
  have:=st.mut (k':=.ls) (o:=.lst (vals (xs++[c]))) (ys:=[c]) (zs:=xs++[c]) (ws:=[]) (by rw [uk]) rfl
  refine⟨p,vals xs,val c,rfl,rfl,h1,by rw [el,sizeLine_eq];exact hl,?_⟩
  have e2:vals xs++[val c]=vals (xs++[c]):=by simp [vals]
  rw [e2]
  exact q F _ (xs++[c]) (.lf .non .non) (non this) (by rw [zl,zl,uA];rfl) rfl
 | extend=>
  obtain⟨y,e1,e⟩:=zb e
  obtain⟨zs,e2,e⟩:=zb e
  obtain⟨⟨hl,sh⟩,e⟩:=qx e
  cases e
  obtain⟨c,rfl,rfl⟩:=one e1
  obtain⟨pc,us,k1,k2,k3⟩:=W4 st.fh st.ok.2.1 e2
  have st1:St W F H (.nd p .ls xs::Γ):=(st.perm qH).tail
  obtain⟨k4,k5,k6⟩:=st1.leaves (k3.sh sh) sh
  have st2:St W F H (.nd p .ls xs::(leaves zs us++Γ)):=k4.perm uH
  have:=st2.mut (k':=.ls) (o:=.lst (vals (xs++leaves zs us))) (ys:=leaves zs us) (zs:=xs++leaves zs us) (ws:=[]) (by rw [uk]) rfl
  refine⟨p,pc,vals xs,us,rfl,by show [val c]=_;rw [k1],h1,k2,by rw [el,k3.len,sizeLine_eq];exact hl,?_⟩
  have e2:vals xs++us=vals (xs++leaves zs us):=by rw [vals,vals,uA];rw [show(leaves zs us).map val=us from k6]
  rw [e2]
  exact q F _ (xs++leaves zs us) (.lf .non .non) (non this) (by rw [zl,uA,← zl,← zl,k5]) rfl
 | pop=>
  obtain⟨_,e1,e⟩:=zb e
  obtain⟨d,e2,e⟩:=zb e
  cases e
  cases zero e1
  rw [List.getLast?_eq_getElem?] at e2
  rw [zl,ux,ue] at e2
  obtain⟨c,e3,rfl⟩:=uz.mp e2
  have pm:=kS e3
  have ed:xs.eraseIdx (xs.length - 1)=xs.dropLast:=by rw [List.eraseIdx_length_sub_one]
  rw [ed] at pm
  have:=st.mut (k':=.ls) (o:=.lst (vals xs.dropLast)) (ys:=[]) (zs:=xs.dropLast) (ws:=[c]) (by rw [uk];exact pm) rfl
  refine⟨p,vals xs,val c,rfl,rfl,h1,by rw [ue,ux,e3];rfl,?_⟩
  rw [show(vals xs).dropLast=vals xs.dropLast from(List.map_dropLast).symm]
  exact q F _ xs.dropLast c this (by rw [zl,zl,List.map_dropLast]) rfl
 | popI=>
  obtain⟨y,e1,e⟩:=zb e
  obtain⟨i,e2,e⟩:=zb e
  obtain⟨j,e3,e⟩:=zb e
  obtain⟨r',e4,e⟩:=zb e
  obtain⟨hl,e⟩:=qx e
  cases e
  obtain⟨c,rfl,rfl⟩:=one e1
  obtain⟨e5,e6⟩:=W6 e4
  rw [zl,ux] at e5
  obtain⟨d,e7,e8⟩:=uz.mp e5
  have:=(st.perm (qH.trans (List.Perm.refl _))).tail
  have:=St.mut (k':=.ls) (o:=.lst (vals (xs.eraseIdx j))) (ys:=[]) (zs:=xs.eraseIdx j) (ws:=[d]) this (by rw [uk];exact kS e7) rfl
  have hj:=v8 e7
  have hv:=zI st.ok.2.1 e2
  have hi:-(2 ^ 63)<=i/\i<2 ^ 63/\seqIndex? i (vals xs).length=some j:=by
   rw [← el] at e3 hl
   obtain⟨h1,h2,h3,h4⟩:=Xn e3
   exact⟨by lia,by lia,h1⟩
  refine⟨p,vals xs,i,j,val d,rfl,by show [val c]=_;rw [hv],h1,hi.1,hi.2.1,hi.2.2,by rw [ux,e7];rfl,?_⟩
  rw [show(vals xs).eraseIdx j=vals (xs.eraseIdx j) from(Kh ..).symm]
  exact q F _ (xs.eraseIdx j) d this (by rw [e6,zl,zl,Kh]) e8
 | insert=>cases e
theorem zhz {m:MU}{us:List V}{v:V}{es:Nat}{ts:List T}{τ3 s' τ':Sl}(R:Rep W F H s τ σ (us.reverse++(v::vs)) γ)(e1:popO es τ []=some (ts,τ3))(hl:us.length=es)(e2:muS m s τ3 ts=some (s',τ'))(q:∀ F' H' y τ'' w,τ' = y::τ''->Rep W F' H' s' τ' σ (w::vs) γ->Q w H'):muR m v us H Q:=by
 obtain⟨cs,rfl,rfl,R2⟩:=ke R e1 hl
 match τ3,e2 with
 | .al i p::τ4,e2=>
  obtain⟨t,e3,e2⟩:=zb e2
  match t,e3,e2 with
  | .nd true .ls xs,e3,e2=>
   obtain⟨r,e4,e2⟩:=zb e2
   obtain⟨q',e5,e2⟩:=zb e2
   cases e2
   obtain⟨as,bs,R3⟩:=R2
   obtain⟨u,bs',rfl,hu,et,rfl,st,back⟩:=R3.place e3
   cases u with
   | lf t' v'=>
    have:=st.ok.1.1
    rw [show t' = _ from et] at this
    cases this
   | tp _ _=>cases et
   | nd pa k ys=>
    cases et
    have pm:(AT.nd pa .ls ys::(setS i p as (hole (.nd pa .ls ys))++(bs'++(cs++γ)))).Perm (AT.nd pa .ls ys::(cs++(setS i p as (hole (.nd pa .ls ys))++(bs'++γ)))):=by
     refine List.Perm.cons _ ?_
     rw [← ud,← ud,← ud,← ud]
     refine UN _ ?_
     rw [ud cs]
     exact uC
    refine zje (st.perm pm) e4 λF' H' us' w st' eu ew=>?_
    have st2:St W F' H' (.nd pa .ls us'::(setS i p as (hole (.nd pa .ls ys))++(bs'++(w::γ)))):=st'.perm (List.Perm.cons _ (by
     rw [← ud,← ud]
     exact uH.symm))
    have:=(back (γ':=w::γ) st2 rfl (by rw [show era (.nd pa .ls us')=.nd true .ls r.1 by rw [← eu];rfl];exact e5)).push
    rw [ew] at this
    exact q F' H' _ _ _ rfl this
theorem zjf {m:MU}{p:Xp}{es:List Xp}(h:E5 W E (.mu m p es) σ H Q):E5 W E p σ H λx H1=>tyV W.K "list" x H1/\A5 W E es σ H1 λus H2=>muR m x us H2 Q:=by
 obtain⟨F,s,τ,vs,γ,K,X4,R,h,q,x⟩:=h
 refine⟨F,s,τ,vs,γ,_,X4,R,h,λF1 H1 s1 y τ1 v1 R1 h1=>?_,x⟩
 rcases j7 h1 with⟨c,h1⟩ | ⟨_,z⟩
 ·refine⟨?_,F1,s1,y::τ1,v1::vs,γ,_,X4,R1,h1,λF2 H2 s2 τ2 us hl R2 h2=>?_,x.app [v1]⟩
  ·cases y with
   | no=>cases c
   | own t=>cases c
   | al i p=>
    obtain⟨as,bs,Rp⟩:=id R1
    obtain⟨xs,e⟩:∃ xs,getP s1 i p=some (.nd true .ls xs):=by
     simp only [ckL] at c
     split at c
     ·exact⟨_,by assumption⟩
     ·cases c
    obtain⟨a,g1,g2,g3⟩:=Rp.res (x:=.al i p) e
    obtain⟨pa,us,o,k1,k2,rfl,_⟩:=Jw R1.fh g1 g2
    rw [← g3,k1]
    exact .inl ⟨rfl,us,SqL.of k2⟩
  ·obtain⟨ts,τ3,e1,h2'⟩:=zi h2
   obtain⟨s3,τ4,e2,h3⟩:=zi h2'
   exact zhz R2 e1 hl e2 λF' H' y' τ'' w e R3=>by subst e;exact q F' H' s3 y' τ'' w R3 h3
 ·exact z.elim
end L5
namespace L5
open PySem L2 PySem.Spec PyProof.Rows
variable {W:Wd} {E:XS} {F H:Hp} {s τ:Sl} {σ:L2.St} {vs:List V} {γ:List AT} {K:KP} {X4:XP} {Q:VK}
theorem Qs:∀ {more kvs:List (Key×V)},((kvs++more).map (·.1)).Nodup->wW kvs more=kvs++more
 | [],kvs,_=>(uk _).symm
 | p::more,kvs,h=>by
  have h':=h
  rw [uA,uo,UB] at h'
  have hn:¬ (kvs.any λkv=>decide (kv.1=p.1))=true:=λz=>by
   obtain⟨kv,h1,h2⟩:=List.any_eq_true.mp z
   exact h'.2.2 kv.1 (Uh.mpr ⟨kv,h1,rfl⟩) p.1 uf (uy h2)
  have e:putK kvs p.1 p.2=kvs++[p]:=by
   unfold putK
   rw [uv hn]
  show wW (putK kvs p.1 p.2) more=_
  rw [e,Qs (by rw [ud];exact h),ud]
  rfl
noncomputable def Dsp (W:Wd):List (Lc×T)->List (Key×V)->Prop
 | [],kvs=>kvs=[]
 | p::d,kvs=>∃ v r,kvs=(.inr (S p.1),v)::r/\p.1.length<=16777216/\shr p.2=true/\(∀ F:Hp,IsV W F p.2 v)/\Dsp W d r
theorem Dsp.all:∀ {d:List (Lc×T)} {kvs:List (Key×V)},Dsp W d kvs->kvs.map (·.1)=d.map (λp=>.inr (S p.1))/\IsVs W F (d.map (·.2)) (kvs.map (·.2))/\shrs (d.map (·.2))=true/\kvs.length=d.length
 | [],_,h=>by rw [show _=[] from h];exact⟨rfl,rfl,rfl,rfl⟩
 | p::d,_,⟨v,r,e,_,h1,h2,h3⟩=>by
  subst e
  obtain⟨k1,k2,k3,k4⟩:=Dsp.all h3
  exact⟨congrArg _ k1,⟨v,_,rfl,h2 F,k2⟩,uF.mpr ⟨h1,k3⟩,congrArg (· + 1) k4⟩
noncomputable def cTrs (kvs:List (Key×V)):List (TE×TE):=kvs.map λkv=>(tC (kV kv.1),tC kv.2)
theorem zaq:∀ {kvs:List (Key×V)} {Q:List (V×V)->Hp->Prop},Q (kvs.map λkv=>(kV kv.1,kv.2)) H->Xw (cTrs kvs) σ H Q
 | [],_,h=>h
 | kv::kvs,_,h=>zaq (kvs:=kvs) h
theorem zhA {d:List (Lc×T)}{kvs:List (Key×V)}(hd:Dsp W d kvs)(hn:(kvs.map (·.1)).Nodup)(h15:d.length<=15)(h:E5 W E (.dsp d) σ H Q):zfC (cTrs kvs) σ H Q:=by
 obtain⟨F,s,τ,vs,γ,K,X4,R,h,q,x⟩:=h
 intro p hp
 obtain⟨k1,k2,k3,k4⟩:=Dsp.all (F:=F) hd
 refine zaq ⟨jY,kvs,rfl,by rw [k4];exact h15,?_⟩
 rw [zd0,Qs (by rw [UH];exact hn),UH]
 obtain⟨Γ,st,back⟩:=R.all
 obtain⟨g1,g2,g3⟩:=st.leaves k2 k3
 have st2:=St.node (k:=.dc (kvs.map (·.1))) (o:=.dK kvs) g1 hp ⟨kvs,rfl,rfl,g3.symm⟩
 have R2:=(back (γ':=.nd p (.dc (kvs.map (·.1))) (leaves _ _)::γ) st2).push
 rw [era,g2,k1] at R2
 exact q F _ s _ _ _ R2 h
theorem Rep.under {x y:Slot}{v u:V}(R:Rep W F H s (x::y::τ) σ (v::u::vs) γ):Rep W F H s (x::τ) σ (v::vs) γ:=by
 obtain⟨as,bs,R⟩:=R
 obtain⟨b,bs',rfl,m,st,R'⟩:=R.uncons
 obtain⟨b2,bs2,rfl,m2,st2,R2⟩:=R'.uncons
 refine⟨as,_,R2.cons ?_ m⟩
 have pm:(b::(as++(b2::bs2++γ))).Perm (b2::b::(as++(bs2++γ))):=(List.Perm.cons b vt.symm).trans qH
 exact(st.perm pm).tail
theorem zcQ {kvs:List (Key×V)}{k:Key}(h:(kvs.map (·.1)).findIdx? (λk'=>decide (k' = k))=none):valV kvs k=none:=by
 induction kvs with
 | nil=>rfl
 | cons a l ih=>
  rw [uo,Uj] at h
  cases c:decide (a.1=k) with
  | true=>rw [c] at h;cases h
  | false=>
   rw [c] at h
   rw [vq (uL c)]
   exact ih (by simpa using h)
theorem zjg {a k w:Xp}(h:E5 W E (.dg a k w) σ H Q):zcl (E5 W E a) (E5 W E k) (E5 W E w) σ H Q:=by
 obtain⟨F,s,τ,vs,γ,K,X4,R,h,q,x⟩:=h
 refine⟨F,s,τ,vs,γ,_,X4,R,h,λF1 H1 s1 y1 τ1 v1 R1 h1=>?_,x⟩
 rcases j7 h1 with⟨c,h1⟩ | ⟨_,z⟩
 case inr=>exact z.elim
 obtain⟨d,hd⟩:=Gh.mp (show((res s1 y1).bind dcO).isSome=true from c)
 obtain⟨t,e1,e2⟩:=zb hd
 obtain⟨as,bs,Rp⟩:=id R1
 obtain⟨b,g1,rfl,rfl⟩:=Rp.res e1
 obtain⟨o',e3⟩:=Z9 e2
 obtain⟨p,us,oo,k1,k2,⟨kvs,rfl,_,_⟩,_⟩:=Jw R1.fh g1 e3
 refine⟨p,k1,.inl ⟨kvs,.inl k2⟩,?_⟩
 refine⟨F1,s1,_,_,γ,_,X4,R1,h1,λF2 H2 s2 y2 τ2 v2 R2 h2=>?_,x.app [_]⟩
 refine⟨F2,s2,_,_,γ,_,X4,R2,h2,λF3 H3 s3 y3 τ3 v3 R3 h3=>?_,x.app [_,_]⟩
 obtain⟨τ4,f1,h4⟩:=zz h3
 match τ3,f1 with
 | y::x'::τ5,f1=>
  obtain⟨kt,f2,f1a⟩:=zb f1
  obtain⟨key,f3,f1b⟩:=zb f1a
  obtain⟨tt,f4,f1c⟩:=zb f1b
  obtain⟨dd,f5,f1d⟩:=zb f1c
  clear f1 f1a f1b f1c
  obtain⟨as2,bs2,Rk⟩:=id R3.pop
  obtain⟨ck,j1,rfl,rfl⟩:=Rk.res f2
  obtain⟨as3,bs3,Rd⟩:=id R3.pop.pop
  obtain⟨cd,j2,rfl,j3⟩:=Rd.res f4
  obtain⟨o2,f6⟩:=Z9 f5
  obtain⟨p2,us2,oo2,l1,l2,⟨kvs2,rfl,l3,l4⟩,_⟩:=Jw R3.fh j2 f6
  have ep:p2=p:=by
   rw [j3,k1] at l1;cases l1;rfl
  subst ep
  have hk:=XF j1 f3
  have fj:dcJ key (era cd)=dd.1.findIdx? λk'=>decide (k' = key):=by unfold dcJ;rw [f5];rfl
  rw [fj] at f1d
  cases fi:dd.1.findIdx? λk'=>decide (k' = key) with
  | none=>
   rw [fi] at f1d
   cases f1d
   refine⟨none,?_,q F3 H3 s3 _ _ _ R3.under.under h4⟩
   rw [hk,← zcQ (kvs:=kvs2) (k:=key) (by rw [l3];exact fi)]
   exact DGet.k l2
  | some n=>
   rw [fi] at f1d
   obtain⟨z,f7,f1d⟩:=zb f1d
   cases f1d
   obtain⟨t',p',us',n',w',r1,r2,r3,r4,_,R4⟩:=R3.pop.pop.part f7
   rw [k1] at r1;cases r1
   refine⟨some w',?_,q F3 H3 s3 _ _ _ R4 h4⟩
   rw [hk]
   obtain⟨d',r5,r6⟩:=zb r2
   obtain⟨o3,rfl⟩:=Z9 r5
   obtain⟨kvs3,c1,c2,rfl⟩:=r3
   rw [← zao (by rw [c2];exact r6) r4]
   exact DGet.k c1
end L5
namespace L5
open PySem L2 PySem.Spec PyProof.Rows
variable {W:Wd} {E:XS} {F H:Hp} {s τ:Sl} {σ:L2.St} {vs:List V} {γ:List AT} {K:KP} {X4:XP} {Q:VK}
noncomputable def kG:List Md->List V->List AT->Prop
 | .mu::ms,v::vs,bs=>∃ b bs',bs=b::bs'/\val b=v/\kG ms vs bs'
 | .mv::ms,_::vs,bs=>∃ b bs',bs=b::bs'/\b=.lf .non .non/\kG ms vs bs'
 | _,_,bs=>bs=[]
noncomputable def SpM (W:Wd)(ms:List Md)(f:Fn):Sp:=λvs H Q E=>∃ F as γ Q4 X4,St W F H (as++γ)/\vals as=vs/\as.length=ms.length/\f (eras as) Q4 X4 /\
 (∀ F' H' r bs,St W F' H' (r::(bs++γ))->kG ms vs bs->Q4 (era r) (eras bs)->Q (val r) H') /\
 ∀ x F' H' bs c d,St W F' H' (bs++γ)->kG ms vs bs->IsX W F' x c d->X4 x (eras bs)->E c d H'
theorem Ms.root {as as':List AT}{i:Nat}(h:∀ j,j≠i->as'[j]? = as[j]?):∀ {xs xs':Sl} {ρ:List (Option V)} {cs:List AT},Ms as xs ρ cs->mapO (j6 i 0) xs=some xs'->Ms as' xs' ρ cs/\∀ q,Slot.al i q∉xs':=λ{xs xs' ρ cs} m e=>by
 refine⟨m.kill (i:=i) (n:=0) (λj q u hl hu=>⟨u,?_,rfl⟩) e,λq=>?_⟩
 ·have:j≠i:=λz=>absurd (hl z) (gZ _)
  unfold getS at hu ⊢
  rw [h j this];exact hu
 ·clear m
  induction xs generalizing xs' with
  | nil=>cases e;intro z;cases z
  | cons x xs ih=>
   obtain⟨y,ys,k1,k2,k⟩:=zt e
   cases k
   intro z
   rcases um.mp z with z | z
   ·subst z
    cases x with
    | no=>cases k1
    | own _=>cases k1
    | al j p=>
     simp only [j6,xO] at k1
     cases c:(j == i&&Nat.ble 0 p.length) with
     | true=>rw [c] at k1;cases k1
     | false=>
      rw [c] at k1;cases k1
      rw [uW,gf,gz (uE _)] at c
      cases c
   ·exact ih k2 z
theorem pm3 {α:Type}{x:α}{a b c:List α}:(x::(a++(b++c))).Perm (a++(b++(x::c))):=by
 rw [← ud,← ud]
 exact uH.symm
theorem pm4 {α:Type}{x:α}{a b c d:List α}:(x::(a++(b++(c++d)))).Perm (a++(b++(c++(x::d)))):=by
 rw [← ud,← ud,← ud,← ud]
 exact uH.symm
theorem V1 {i n j:Nat}{q:Lc}:∀ {xs xs':Sl},mapO (j6 i n) xs=some xs'->Slot.al j q∈xs'->Slot.al j q∈xs
 | [],_,e,z=>by cases e;cases z
 | x::xs,_,e,z=>by
  obtain⟨y,ys,g1,g2,g⟩:=zt e
  cases g
  rcases um.mp z with z | z
  ·subst z
   cases x with
   | no=>cases g1
   | own _=>cases g1
   | al j' p'=>
    simp only [j6,xO] at g1
    cases cc:(j' == i&&n.ble p'.length)<;>rw [cc] at g1<;>cases g1
    exact uf
  ·exact uh _ (V1 g2 z)
theorem XM {i j:Nat}{p:Lc}{as:List AT}{w:AT}(h:j≠i):(setS i p as w)[j]? = as[j]?:=by
 unfold setS
 split
 ·rw [Ui (Ne.symm h)]
 ·rfl
theorem zeN {i:Nat}{p:Lc}{as:List AT}{t:T}{u:AT}(m:Ms as s σ as)(e:getP s i p=some t)(hu:getS i p as=some u):era u=t:=by
 obtain⟨y,k1,e⟩:=zb e
 obtain⟨r,k2,e⟩:=zb e
 obtain⟨a,e1,e2,_⟩:=jJ hu
 cases y with
 | no=>cases k2
 | al _ _=>cases k2
 | own r'=>
  cases k2
  obtain⟨o,a',g1,g2,g3,g4⟩:=m.get k1
  rw [e1] at g2;cases g2
  subst g3
  have e:getT p (era a)=some t:=e
  rw [QQ e2] at e;cases e;rfl
theorem take_ok:∀ {ms:List Md} {xs s τ s' τ':Sl} {us:List V} {as cs bs γ:List AT} {ts:List T} {ps:Pl},St W F H (as++(cs++(bs++γ)))->Ms as s σ as->Ms as xs (us.map some) cs->Ms as τ (vs.map some) bs->v9 ms xs s τ=some ((ts,ps),(s',τ')) ->
  ∃ A as',eras A=ts/\vals A=us/\A.length=ms.length/\St W F H (A++(as'++(bs++γ)))/\Ms as' s' σ as'/\Ms as' τ' (vs.map some) bs/\(∀ j,(∀ q,Slot.al j q∉xs)->as'[j]? = as[j]?) /\
   ∀ {F' H' Bs γ' s2 τ2},St W F' H' (Bs++(as'++(bs++γ')))->kG ms us Bs->wM ps (eras Bs) s' τ' = some (s2,τ2)->∃ as2,St W F' H' (as2++(bs++γ'))/\Ms as2 s2 σ as2/\Ms as2 τ2 (vs.map some) bs/\∀ j,(∀ q,Slot.al j q∉xs)->as2[j]? = as'[j]?
 | [],[],s,τ,s',τ',us,as,cs,bs,γ,ts,ps,st,m1,m2,m3,e=>by
  cases e
  obtain⟨e1,rfl⟩:=m2
  have:us=[]:=by cases us with | nil=>rfl | cons _ _=>cases e1
  subst this
  refine⟨[],as,rfl,rfl,rfl,st,m1,m3,λ_ _=>rfl,λ{F' H' Bs γ' s2 τ2} st' hb e=>?_⟩
  cases hb
  cases e
  exact⟨as,st',m1,m3,λ_ _=>rfl⟩
 | [],_::_,s,τ,s',τ',us,as,cs,bs,γ,ts,ps,st,m1,m2,m3,e=>by cases e
 | m::ms,[],s,τ,s',τ',us,as,cs,bs,γ,ts,ps,st,m1,m2,m3,e=>by cases m<;>cases e
 | m::ms,.no::xs,s,τ,s',τ',us,as,cs,bs,γ,ts,ps,st,m1,m2,m3,e=>by cases m<;>cases e
 | m::ms,.own t::xs,s,τ,s',τ',us,as,cs,bs,γ,ts,ps,st,m1,m2,m3,e=>by
  have e:((v9 ms xs s τ).bind λr=>some ((t::r.1.1,none::r.1.2),r.2))=some ((ts,ps),(s',τ')):=by cases m<;>exact e
  obtain⟨r,e1,e⟩:=zb e
  obtain⟨⟨ts1,ps1⟩,⟨s1,τ1⟩⟩:=r
  cases e
  obtain⟨o,ρ,c,cs',k1,k2,k3,k4⟩:=m2
  cases us with
  | nil=>cases k1
  | cons v us=>
   cases k1
   subst k2
   cases k3.2
   have pm:(as++(c::cs'++(bs++γ))).Perm (as++(cs'++(bs++(c::γ)))):=gA _ pm3
   obtain⟨A,as',h1,h2,h3,h4,h5,h6,h7,h8⟩:=take_ok (st.perm pm) m1 k4 m3 e1
   have pm2:(A++(as'++(bs++(c::γ)))).Perm (c::A++(as'++(bs++γ))):=pm4.symm
   refine⟨c::A,as',by rw [eras,h1,k3.1],by rw [vals,uo];exact congrArg _ h2,congrArg (· + 1) h3,h4.perm pm2,h5,h6,λj hj=>h7 j λq z=>hj q (uh _ z),λ{F' H' Bs γ' s2 τ2} st' hb e=>?_⟩
   have:∃ b bs',Bs=b::bs'/\kG ms us bs':=by cases m<;>(obtain⟨b,bs',e,_,h⟩:=hb;exact⟨b,bs',e,h⟩)
   obtain⟨b,Bs',rfl,hb'⟩:=this
   obtain⟨as2,g1,g2,g3,g4⟩:=h8 (St.tail st') hb' e
   exact⟨as2,g1,g2,g3,λj hj=>g4 j λq z=>hj q (uh _ z)⟩
 | .mv::ms,.al i p::xs,s,τ,s',τ',us,as,cs,bs,γ,ts,ps,st,m1,m2,m3,e=>by cases e
 | .mu::ms,.al i p::xs,s,τ,s',τ',us,as,cs,bs,γ,ts,ps,st,m1,m2,m3,e=>by
  obtain⟨t,e1,e⟩:=zb e
  obtain⟨q1,e2,e⟩:=zb e
  obtain⟨xs',e3,e⟩:=zb e
  obtain⟨r,e4,e⟩:=zb e
  obtain⟨⟨ts1,ps1⟩,⟨s1,τ1⟩⟩:=r
  cases e
  obtain⟨o,ρ,c,cs',k1,k2,⟨rfl,u,hu,hv⟩,k4⟩:=m2
  cases us with
  | nil=>cases k1
  | cons v us=>
   cases k1
   subst k2
   cases hv
   have et:=zeN m1 e1 hu
   obtain⟨n1,n2⟩:=Z5 (w:=hole u) m1 m3 hu rfl e2
   obtain⟨n3,n4⟩:=k4.root (as':=setS i p as (hole u)) (λj hj=>XM hj) e3
   have st1:St W F H (as++(cs'++(bs++γ))):=(st.perm (uH:(as++(nilA::cs'++(bs++γ))).Perm (nilA::(as++(cs'++(bs++γ)))))).tail
   have st2:=st1.outS hu
   have pm:(u::(setS i p as (hole u)++(cs'++(bs++γ)))).Perm (setS i p as (hole u)++(cs'++(bs++(u::γ)))):=pm4
   obtain⟨A,as',h1,h2,h3,h4,h5,h6,h7,h8⟩:=take_ok (st2.perm pm) n1 n3 n2 e4
   have pm2:(A++(as'++(bs++(u::γ)))).Perm (u::A++(as'++(bs++γ))):=pm4.symm
   have keep:∀ {j},(∀ q,Slot.al j q∉Slot.al i p::xs)->j≠i/\∀ q,Slot.al j q∉xs':=λ{j} hj=>by
    refine⟨λz=>hj p (by rw [z];exact uf),λq z=>hj q (uh _ ?_)⟩
    exact V1 e3 z
   refine⟨u::A,as',by rw [eras,h1,et],by rw [vals,uo];exact congrArg _ h2,congrArg (· + 1) h3,h4.perm pm2,h5,h6,λj hj=>?_,λ{F' H' Bs γ' s2 τ2} st' hb e=>?_⟩
   ·obtain⟨j1,j2⟩:=keep hj
    rw [h7 j j2,XM j1]
   ·obtain⟨b,Bs',rfl,hbv,hb'⟩:=hb
    obtain⟨q2,f1,e⟩:=zb e
    obtain⟨t',f2,e⟩:=zb e
    obtain⟨_,f3,e⟩:=zb e
    have pmB:(b::Bs'++(as'++(bs++γ'))).Perm (Bs'++(as'++(bs++(b::γ')))):=pm4
    obtain⟨as2,g1,g2,g3,g4⟩:=h8 (st'.perm pmB) hb' f1
    have hi2:as2[i]? = (setS i p as (hole u))[i]?:=by rw [g4 i n4,h7 i n4]
    have gs:getS i p as2=some (hole u):=by
     have:=(yt (w:=hole u) hu).1
     unfold getS at this ⊢
     rw [hi2];exact this
    have st4:St W F' H' (b::(as2++(bs++γ'))):=g1.perm pm3.symm
    have:=st4.inS gs rfl hbv
    obtain⟨p1,p2⟩:=Z5 (w:=b) g2 g3 gs hbv e
    refine⟨_,this,p1,p2,λj hj=>?_⟩
    obtain⟨j1,j2⟩:=keep hj
    rw [XM j1,g4 j j2]
end L5
namespace L5
open PySem L2 PySem.Spec PyProof.Rows
variable {W:Wd} {E:XS} {F H:Hp} {s τ:Sl} {σ:L2.St} {vs:List V} {γ:List AT} {K:KP} {X4:XP} {Q:VK}
theorem zar {as:List AT}:∀ {n:Nat} {τ τ' acc xs:Sl} {us ws av:List V} {bs ac:List AT},Ms as τ ((us.reverse++ws).map some) bs->Ms as acc (av.map some) ac->popS n τ acc=some (xs,τ')->us.length=n->∃ cs bs',Ms as xs ((us++av).map some) cs/\Ms as τ' (ws.map some) bs'/\(bs++ac).Perm (cs++bs')
 | 0,τ,τ',acc,xs,us,ws,av,bs,ac,m1,m2,e,hl=>by
  cases e
  have:us=[]:=UU hl
  subst this
  exact⟨ac,bs,m2,m1,uC⟩
 | n+1,[],τ',acc,xs,us,ws,av,bs,ac,m1,m2,e,hl=>by cases e
 | n+1,x::τ,τ',acc,xs,us,ws,av,bs,ac,m1,m2,e,hl=>by
  obtain⟨us0,u,rfl⟩:∃ us0 u,us=us0++[u]:=⟨us.dropLast,us.getLast (λz=>by rw [z] at hl;cases hl),(List.dropLast_concat_getLast _).symm⟩
  rw [gI] at m1
  obtain⟨o,ρ,b,bs',e1,e2,h1,h2⟩:=m1
  cases e1
  subst e2
  have hl':us0.length=n:=by simpa using hl
  obtain⟨cs,bs2,g1,g2,g3⟩:=zar (us:=us0) (ws:=ws) (acc:=x::acc) (av:=u::av) (ac:=b::ac) h2 ⟨_,_,_,_,rfl,rfl,h1,m2⟩ e hl'
  refine⟨cs,bs2,by rw [ud];exact g1,g2,List.Perm.trans ?_ g3⟩
  exact uH.symm
theorem zas {n:Nat}{ms:List Md}{us:List V}{xs τ1 s' τ':Sl}{ts:List T}{ps:Pl}(R:Rep W F H s τ σ (us.reverse++vs) γ)(e1:popS n τ []=some (xs,τ1))(hl:us.length=n)(e2:v9 ms xs s τ1=some ((ts,ps),(s',τ'))) :
  ∃ A δ,eras A=ts/\vals A=us/\A.length=ms.length/\St W F H (A++(δ++γ))/\∀ {F' H' Bs γ' s2 τ2},St W F' H' (Bs++(δ++γ'))->kG ms us Bs->wM ps (eras Bs) s' τ' = some (s2,τ2)->Rep W F' H' s2 τ2 σ vs γ':=by
 obtain⟨as,bs,R⟩:=R
 obtain⟨cs,bs',m2,m3,pm⟩:=zar (acc:=[]) (av:=[]) (ac:=[]) R.ts ⟨rfl,rfl⟩ e1 hl
 rw [uk] at m2 pm
 have st:St W F H (as++(cs++(bs'++γ))):=R.st.perm (gA _ (by rw [← ud];exact pm.append_right _))
 obtain⟨A,as',h1,h2,h3,h4,h5,h6,_,h8⟩:=take_ok st R.ls m2 m3 e2
 refine⟨A,as'++bs',h1,h2,h3,by rw [ud];exact h4,λ{F' H' Bs γ' s2 τ2} st' hb e=>?_⟩
 rw [ud] at st'
 obtain⟨as2,g1,g2,g3,_⟩:=h8 st' hb e
 exact⟨as2,bs',g1,g2,g3⟩
theorem pmA {α:Type}{r:α}{a b c:List α}:(r::(a++(b++c))).Perm (a++(b++(r::c))):=pm3
theorem zfL {n:Nat}{ms:List Md}{f:Fn}{us:List V}{xs τ1 s' τ':Sl}{ts:List T}{ps:Pl}(R:Rep W F H s τ σ (us.reverse++vs) γ)(e1:popS n τ []=some (xs,τ1))(hl:us.length=n)(e2:v9 ms xs s τ1=some ((ts,ps),(s',τ')))
  (h:f ts (λr ts'=>bnd2 (wM ps ts' s' τ') λs3 τ4=>K s3 (.own r::τ4)) (λx ts'=>bnd2 (wM ps ts' s' τ') (X4 x))) (q:∀ F' H' s' x τ' v,Rep W F' H' s' (x::τ') σ (v::vs) γ->K s' (x::τ')->Q v H') (x:XK W E σ vs γ X4):SpM W ms f us H Q λc d H'=>E c d σ H':=by
 obtain⟨A,δ,h1,h2,h3,h4,h5⟩:=zas R e1 hl e2
 subst h1
 refine⟨F,A,δ++γ,_,_,h4,h2,h3,h,λF' H' r bs st hb hq=>?_,λex F' H' bs c d st hb hx hq=>?_⟩
 ·obtain⟨s3,τ4,e,hq⟩:=zi hq
  exact q F' H' s3 _ _ _ (h5 (γ':=r::γ) (st.perm pmA) hb e).push hq
 ·obtain⟨s3,τ4,e,hq⟩:=zi hq
  exact x ex F' H' s3 τ4 [] c d (h5 st hb e) hx hq
theorem zat {y:Str}{ms:List Md}{f:Fn}{es:List Xp}(h:E5 W E (.call (.fn y) ms f es) σ H Q):Jd (SpM W ms f) E (A5 W E es) σ H Q:=by
 obtain⟨F,s,τ,vs,γ,K,X4,R,h,q,x⟩:=h
 have hh:WEs es s τ (λs1 τ1=>bnd2 (popS es.length τ1 []) λxs τ2=>bndT (v9 ms xs s1 τ2) λts ps s2 τ3=>f ts (λr ts'=>bnd2 (wM ps ts' s2 τ3) λs3 τ4=>K s3 (.own r::τ4)) (λx ts'=>bnd2 (wM ps ts' s2 τ3) (X4 x))) X4:=by
  cases es with
  | nil=>exact h
  | cons e es=>exact h
 refine⟨F,s,τ,vs,γ,_,X4,R,hh,λF1 H1 s1 τ1 us hl R1 h1=>?_,x⟩
 obtain⟨xs,τ2,e1,h1⟩:=zi h1
 obtain⟨ts,ps,s2,τ3,e2,h1⟩:=XD h1
 exact zfL R1 e1 hl e2 h1 q x
noncomputable def ckV (W:Wd)(c:Nat)(m:Str):V->Hp->Prop:=λx H=>∃ a dx fs,x=.ref a/\H a=some (.ins (W.cl c) dx fs)/\fs.lookup m=none
noncomputable def tCk (ck:V->Hp->Prop)(to:TE)(t:TA):TA:=λσ H Q=>to σ H λx H1=>ck x H1/\t σ H1 λxs H2=>Q (x::xs) H2
theorem zbu {kvs:List (Str×V)}{m:Str}(h:(kvs.map (·.1)).contains m=false):kvs.lookup m=none:=by
 induction kvs with
 | nil=>rfl
 | cons a l ih=>
  rw [uo,List.contains_cons,Bool.or_eq_false_iff] at h
  rw [uY,h.1]
  exact ih h.2
theorem zeO {c:Nat}{y:Str}{ms:List Md}{f:Fn}{o:Xp}{es:List Xp}(h:E5 W E (.call (.mt c y) ms f (o::es)) σ H Q):Jd (SpM W ms f) E (tCk (ckV W c y) (E5 W E o) (A5 W E es)) σ H Q:=by
 obtain⟨F,s,τ,vs,γ,K,X4,R,h,q,x⟩:=h
 refine⟨F,s,τ,vs,γ,_,X4,R,h,λF1 H1 s1 z τ1 v R1 h1=>?_,x⟩
 rcases j7 h1 with⟨ck,h1⟩ | ⟨_,z⟩
 ·refine⟨?_,F1,s1,z::τ1,v::vs,γ,_,X4,R1,h1,λF2 H2 s2 τ2 us hl R2 h2=>?_,x.app [v]⟩
  ·have ck:(match (res s1 z).bind obO with
    | some o=>o.1 == c&&!o.2.1.contains y
    | none=>false)=true:=ck
   cases e:(res s1 z).bind obO with
   | none=>rw [e] at ck;cases ck
   | some ob=>
    rw [e] at ck
    have ck:(ob.1 == c&&!ob.2.1.contains y)=true:=ck
    rw [uQ,Bool.not_eq_true'] at ck
    obtain⟨t,e1,e2⟩:=zb e
    obtain⟨as,bs,Rp⟩:=id R1
    obtain⟨a,g1,rfl,rfl⟩:=Rp.res e1
    obtain⟨o',e3⟩:=zhm e2
    obtain⟨p,us,oo,k1,k2,⟨dx,kvs,rfl,k3,_⟩,_⟩:=Jw R1.fh g1 e3
    exact⟨p,dx,kvs,k1,by rw [k2,eq_of_beq ck.1],zbu (by rw [k3];exact ck.2)⟩
  ·obtain⟨xs,τ3,e1,h2⟩:=zi h2
   obtain⟨ts,ps,s4,τ4,e2,h2⟩:=XD h2
   exact zfL (us:=v::us) (by rw [UM,ud];exact R2) e1 (congrArg (· + 1) hl) e2 h2 q x
 ·exact z.elim
noncomputable def zcR (C:Addr)(sp:Sp)(E:XS)(t:TA):TE:=λσ H Q=>t σ H λvs H1=>∀ x dx,H1 x=none->H1 dx=none->dx≠x ->
 sp (.ref x::vs) (upd (upd H1 dx (.own x)) x (.ins C dx [])) (λv H2=>v=.non/\Q (.ref x) H2) λc d H'=>E c d σ H'
theorem zeP {c:Nat}{y:Str}{ms:List Md}{f:Fn}{es:List Xp}(h:E5 W E (.call (.mk c y) ms f es) σ H Q):zcR (W.cl c) (SpM W (.mu::ms) f) E (A5 W E es) σ H Q:=by
 obtain⟨F,s,τ,vs,γ,K,X4,R,h,q,x⟩:=h
 have hh:WEs es s τ (λs1 τ1=>bnd2 (popS es.length τ1 []) λxs τ2=>bndT (v9 ms xs s1 τ2) λts ps s2 τ3=>f (.nd true (.ob c []) []::ts) (λr ts'=>match r,ts' with
     | .non,o::os=>bnd2 (wM ps os s2 τ3) λs3 τ4=>K s3 (.own o::τ4)
     | _,_=>False) (λx ts'=>bnd2 (wM ps ts'.tail s2 τ3) (X4 x))) X4:=by
  cases es with
  | nil=>exact h
  | cons e es=>exact h
 refine⟨F,s,τ,vs,γ,_,X4,R,hh,λF1 H1 s1 τ1 us hl R1 h1=>?_,x⟩
 obtain⟨xs,τ2,e1,h1⟩:=zi h1
 obtain⟨ts,ps,s2,τ3,e2,h1⟩:=XD h1
 intro a dx n1 n2 ne
 obtain⟨A,δ,g1,g2,g3,g4,g5⟩:=zas R1 e1 hl e2
 subst g1
 have st1:St W F1 (upd H1 dx (.own a)) (A++(δ++γ)):=g4.alloc n2
 have st2:=St.node (as:=[]) (k:=.ob c []) (o:=.ins (W.cl c) dx []) st1 (by rw [zU (Ne.symm ne)];exact n1) ⟨dx,[],rfl,rfl,rfl⟩
 refine⟨F1,.nd a (.ob c []) []::A,δ++γ,_,_,st2,by rw [vals,uo];exact congrArg _ g2,congrArg (· + 1) g3,h1,λF' H' r bs st hb hq=>?_,λex F' H' bs cc d st hb hx hq=>?_⟩
 ·obtain⟨b,bs',rfl,hbv,hb'⟩:=hb
  match er:era r,hq with
  | .non,hq=>
   have hv:val r=.non:=by
    cases r with
    | lf t v=>cases er;exact st.ok.1.2
    | tp _ _=>cases er
    | nd _ _ _=>cases er
   obtain⟨s3,τ4,e,hq⟩:=zi hq
   refine⟨hv,?_⟩
   rw [← hbv]
   exact q F' H' s3 _ _ _ (g5 (γ':=b::γ) ((St.tail st).perm pmA) hb' e).push hq
 ·obtain⟨b,bs',rfl,hbv,hb'⟩:=hb
  obtain⟨s3,τ4,e,hq⟩:=zi hq
  exact x ex F' H' s3 τ4 [] cc d (g5 (St.tail st) hb' e) hx hq
end L5
namespace L5
open PySem L2 PySem.Spec PyProof.Rows
variable {W:Wd} {E:XS} {F H:Hp} {s τ:Sl} {σ:L2.St} {vs:List V} {γ:List AT} {K:KP} {X4:XP} {Q:VK}
structure ItOk (W:Wd)(J:It)(us:List AT)(ds:List T):Prop where
 sh:shrs ds=true
 go:∀ i F H,i<ds.length->Same F H->OKs W F H us->J.go i H
 yld:∀ i F H x H',i<ds.length->Same F H->OKs W F H us->J.yld i H x H'->∃ d,ds[i]? = some d/\∀ γ,St W F H γ->∃ F',St W F' H' γ/\IsV W F' d x
 stop:∀ F H,Same F H->OKs W F H us->J.stop ds.length H
theorem QU {xs:List T}{us:List V}(q:Sq W F H xs us){i:Nat}(hi:i<(views xs).length):∃ d v,(views xs)[i]? = some d/\us[i]? = some v/\IsV W F d v:=by
 obtain⟨v,h1,h2⟩:=q.vw.get (uu hi)
 exact⟨_,v,uu hi,h1,h2⟩
theorem zjh {u:AT}{p:Addr}{ds:List T}(hp:val u=.ref p)(e:lsO (era u)=some ds):ItOk W (Itl W.K p) [u] (views ds):=by
 have key:∀ F H,Same F H->OKs W F H [u]->∃ vs,SqL W.K H p vs/\Sq W F H ds vs:=λF H g h=>by
  obtain⟨p',vs,h1,h2,h3⟩:=W2 g h.1 e
  rw [hp] at h1;cases h1
  exact⟨vs,h2,h3⟩
 refine⟨vL ds,λi F H hi g h=>?_,λi F H x H' hi g h y=>?_,λF H g h=>?_⟩
 ·obtain⟨vs,h1,h2⟩:=key F H g h
  obtain⟨d,v,_,h4,_⟩:=QU h2 hi
  exact⟨vs,v,h1,h4⟩
 ·obtain⟨rfl,y⟩:=y
  obtain⟨vs,h1,h2⟩:=key F _ g h
  obtain⟨d,v,h3,h4,h5⟩:=QU h2 hi
  have:=y vs h1
  rw [h4] at this;cases this
  exact⟨d,h3,λγ st=>⟨F,st,h5⟩⟩
 ·obtain⟨vs,h1,h2⟩:=key F H g h
  exact⟨vs,h1,Up (h2.len.trans (Z3 ds).symm)⟩
theorem zji {u:AT}{p:Addr}{ds:List T}(hp:val u=.ref p)(e:tpO (era u)=some ds):ItOk W (Itt W.K p) [u] (views ds):=by
 have key:∀ F H,Same F H->OKs W F H [u]->∃ vs,SqT W.K H p vs/\Sq W F H ds vs:=λF H g h=>by
  obtain⟨p',vs,h1,h2,h3,_⟩:=W3 g h.1 e
  rw [hp] at h1;cases h1
  exact⟨vs,h2,h3⟩
 refine⟨vL ds,λi F H hi g h=>?_,λi F H x H' hi g h y=>?_,λF H g h=>?_⟩
 ·obtain⟨vs,h1,h2⟩:=key F H g h
  obtain⟨d,v,_,h4,_⟩:=QU h2 hi
  exact⟨vs,v,h1,h4⟩
 ·obtain⟨rfl,y⟩:=y
  obtain⟨vs,h1,h2⟩:=key F _ g h
  obtain⟨d,v,h3,h4,h5⟩:=QU h2 hi
  have:=y vs h1
  rw [h4] at this;cases this
  exact⟨d,h3,λγ st=>⟨F,st,h5⟩⟩
 ·obtain⟨vs,h1,h2⟩:=key F H g h
  exact⟨vs,h1,Up (h2.len.trans (Z3 ds).symm)⟩
theorem signs_at {l:Lc}{i:Nat}(hi:i<(signs l).length):∃ c,l[i]? = some c/\(signs l)[i]? = some (.str [c]):=by
 unfold signs at hi ⊢
 rw [ue] at hi
 exact⟨l[i],uu hi,by rw [ux,uu hi];rfl⟩
theorem zhB {u:List AT}{l:Lc}:ItOk W (Its (S l)) u (signs l):=by
 refine⟨(IsVs.signs (W:=W) (F:=λ_=>none)).2,λi F H hi g h=>?_,λi F H x H' hi g h y=>?_,λF H g h=>?_⟩
 ·unfold signs at hi;rw [ue] at hi;exact(by simpa [Its,S] using hi)
 ·obtain⟨rfl,c,ec,rfl⟩:=y
  obtain⟨c',h1,h2⟩:=signs_at hi
  have ec:l[i]? = some c:=by simpa [S] using ec
  rw [ec] at h1;cases h1
  exact⟨_,h2,λγ st=>⟨F,st,rfl,by simp⟩⟩
 ·unfold signs;rw [ue];exact(by simp [Its,S])
theorem zcS {n:Nat}{f:Nat->Int}:shrs ((List.range n).map λk=>T.int (f k))=true:=z7.mpr λt ht=>by
 obtain⟨k,_,rfl⟩:=Uh.mp ht;rfl
theorem zcT {u:List AT}{lo:Int}{n:Nat}:ItOk W (Itr lo n) u ((List.range n).map λ(k:Nat)=>.int (lo+(k:Int))):=by
 refine⟨zcS,λi F H hi g _=>?_,λi F H x H' hi g _ y=>?_,λF H g _=>?_⟩
 ·simpa [Itr] using hi
 ·obtain⟨rfl,rfl⟩:=y
  have hi':i<n:=by simpa using hi
  exact⟨.int (lo+i),by simp [hi'],λγ st=>⟨F,st,rfl⟩⟩
 ·simp [Itr]
theorem kh:∀ (ds:List T) (n:Nat),(Zs n ds).length=ds.length
 | [],_=>rfl
 | _::ds,n=>by simp only [Zs,ub,kh ds]
theorem V2:∀ (ds:List T) (n i:Nat),(Zs n ds)[i]? = (ds[i]?).map λd=>.tp [.int ((n+i:Nat):Int),d]
 | [],_,_=>rfl
 | d::ds,n,0=>rfl
 | d::ds,n,i+1=>by
  simp only [Zs,gn]
  rw [V2 ds (n+1) i,show n+1+i=n+(i+1) by lia]
theorem V3:∀ {ds:List T} {n:Nat},shrs ds=true->shrs (Zs n ds)=true
 | [],_,_=>rfl
 | d::ds,n,h=>by
  obtain⟨h1,h2⟩:=uF.mp h
  exact uF.mpr ⟨by show(true&&(shr d&&true))=true;rw [h1];rfl,V3 h2⟩
theorem zeQ {p:Addr}{a b:T}{va vb:V}(st:St W F H γ)(hp:H p=none)(ha:IsV W F a va)(hb:IsV W F b vb):∃ F',St W F' (upd H p (.tup [va,vb])) γ/\IsV W F' (.tp [a,b]) (.ref p):=by
 have g:=vp (o:=HO.tup [va,vb]) (kQ st.fh hp)
 exact⟨_,st.allocF hp,p,_,rfl,jY,_,_,rfl,ha.mono g,_,_,rfl,hb.mono g,rfl⟩
theorem zcU {u:List AT}{l:Lc}:ItOk W (Ite (goS (S l)) (yvS (S l)) (stS (S l))) u (Zs 0 (signs l)):=by
 refine⟨V3 (IsVs.signs (W:=W) (F:=λ_=>none)).2,λi F H hi g _=>?_,λi F H x H' hi g _ y=>?_,λF H g _=>?_⟩
 ·rw [kh] at hi;unfold signs at hi;rw [ue] at hi;exact(by simpa [Ite,goS,S] using hi)
 ·rw [kh] at hi
  obtain⟨p',v,hp,⟨c,ec,rfl⟩,rfl,rfl⟩:=y
  obtain⟨c',h1,h2⟩:=signs_at hi
  have ec:l[i]? = some c:=by simpa [S] using ec
  rw [ec] at h1;cases h1
  exact⟨_,by rw [V2,h2,UE];rfl,λγ st=>zeQ st hp (a:=.int i) (b:=.str [c]) rfl ⟨rfl,by simp⟩⟩
 ·rw [kh];unfold signs;rw [ue];exact(by simp [Ite,stS,S])
def V4 (o:Option T)(us:List AT)(vs vs':List V):Prop:=(o=none/\vs' = vs)\/∃ u,o=some (era u)/\us=[u]/\vs' = val u::vs
theorem Rep.dropG {us:List AT}(R:Rep W F H s τ σ vs (us++γ)):Rep W F H s τ σ vs γ:=by
 obtain⟨Γ,st,back⟩:=R.all
 rw [ud] at st
 exact back st.right
theorem Rep.lend {i:Nat}{p:Lc}{v:V}{t:T}{s' τ':Sl}(R:Rep W F H s (.al i p::τ) σ (v::vs) γ)(e:getP s i p=some t)(e2:putSt s τ i p .any=some (s',τ')):∃ u,era u=t/\val u=v/\Rep W F H s' (.al i p::τ') σ (v::vs) (u::γ):=by
 obtain⟨as,bs,R⟩:=R
 obtain⟨u,bs',rfl,hu,et,ev,st,_⟩:=R.place e
 obtain⟨_,bs2,e0,_,_,R'⟩:=R.uncons
 cases e0
 obtain⟨m1,m2⟩:=Z5 (w:=hole u) R'.ls R'.ts hu rfl e2
 refine⟨u,et,ev,setS i p as (hole u),nilA::bs',?_,m1,_,_,_,_,rfl,rfl,⟨rfl,hole u,(yt hu).1,by rw [← ev];rfl⟩,m2⟩
 exact(st.perm pm3).nil.perm vt
theorem Rep.unlend {o:Option T}{us:List AT}{vs':List V}{s' τ':Sl}(R:Rep W F H s τ σ vs' (us++γ))(l:V4 o us vs vs')(e:unS o s τ=some (s',τ')):Rep W F H s' τ' σ vs γ:=by
 rcases l with⟨rfl,rfl⟩ | ⟨u,rfl,rfl,rfl⟩
 ·cases e;exact R.dropG
 ·match τ,e with
  | .no::τ1,e=>cases e;exact R.pop.dropG
  | .al i p::τ1,e=>
   obtain⟨t,e1,e⟩:=zb e
   obtain⟨_,e2,e⟩:=zb e
   obtain⟨as,bs,R⟩:=R
   obtain⟨u0,bs',rfl,hu,et,ev,st,back⟩:=R.place e1
   have st2:St W F H (u::(setS i p as (hole u0)++(bs'++γ))):=st.tail.perm pm3.symm
   exact back st2 rfl e
theorem zhC {k:IK}{n:Nat}{us:List V}{ds:List T}{o:Option T}{s' τ':Sl}(R:Rep W F H s τ σ (us.reverse++vs) γ)(hl:us.length=n)(e:itS k n s τ=some ((ds,o),(s',τ'))):∃ cs vs',vals cs=us/\itF k (eras cs)=some ds/\OKs W F H cs/\V4 o cs vs vs'/\Rep W F H s' τ' σ vs' (cs++γ):=by
 have own:∀ {r ds'},popO n τ []=some r->itF k r.1=some ds'->((ds',none),(s,r.2))=((ds,o),(s',τ'))->∃ cs vs',vals cs=us/\itF k (eras cs)=some ds/\OKs W F H cs/\V4 o cs vs vs'/\Rep W F H s' τ' σ vs' (cs++γ):=λ{r ds'} e1 e2 e3=>by
  obtain⟨ts,τ2⟩:=r
  cases e3
  obtain⟨cs,rfl,h2,R2⟩:=ke R e1 hl
  obtain⟨Γ,st,_⟩:=R2.all
  rw [ud] at st
  exact⟨cs,vs,h2,e2,st.left,.inl ⟨rfl,rfl⟩,R2⟩
 unfold itS at e
 split at e
 ·rename_i i p τ1
  obtain⟨t,e1,e⟩:=zb e
  obtain⟨ds',e2,e⟩:=zb e
  obtain⟨q,e3,e⟩:=zb e
  cases e
  match us,hl with
  | [v],_=>
   obtain⟨u,rfl,rfl,R2⟩:=Rep.lend (vs:=vs) R e1 e3
   obtain⟨Γ,st,_⟩:=R2.all
   exact⟨[u],_,rfl,e2,⟨st.ok.1,trivial⟩,.inr ⟨u,rfl,rfl,rfl⟩,R2⟩
 ·obtain⟨r,e1,e⟩:=zb e
  obtain⟨ds',e2,e⟩:=zb e
  exact own e1 e2 (uG e)
noncomputable def I5 (W:Wd)(E:XS)(k:IK)(its:List Xp):TI:=λσ H R=>∃ F s τ vs γ K X4,Rep W F H s τ σ vs γ/\WEs its s τ (λs1 τ1=>bndI (itS k its.length s1 τ1) K) X4 /\
 (∀ ds o s' τ' F' H' J us vs',ItOk W J us ds->V4 o us vs vs'->Rep W F' H' s' τ' σ vs' (us++γ)->K ds o s' τ'->R J H')/\XK W E σ vs γ X4
def itR (W:Wd)(k:IK)(us:List V)(H:Hp)(R:It->Hp->Prop):Prop:=∃ F cs ds,Same F H/\vals cs=us/\itF k (eras cs)=some ds/\OKs W F H cs/\∀ J,ItOk W J cs ds->R J H
theorem zau {k:IK}{its:List Xp}{R:It->Hp->Prop}(h:I5 W E k its σ H R):A5 W E its σ H λus H'=>itR W k us H' R:=by
 obtain⟨F,s,τ,vs,γ,K,X4,R0,h,q,x⟩:=h
 refine⟨F,s,τ,vs,γ,_,X4,R0,h,λF' H' s' τ' us hl R' h'=>?_,x⟩
 obtain⟨ds,o,s2,τ2,e,h'⟩:=zeD h'
 obtain⟨cs,vs',h1,h2,h3,h4,R2⟩:=zhC R' hl e
 exact⟨F',cs,ds,R2.fh,h1,h2,h3,λJ it=>q ds o s2 τ2 F' H' J cs vs' it h4 R2 h'⟩
section
variable {R:It->Hp->Prop}
theorem it1 {k:IK}{v:V}(h:itR W k [v] H R):∃ F c ds,Same F H/\val c=v/\itF k [era c]=some ds/\OK W F H c/\∀ J,ItOk W J [c] ds->R J H:=by
 obtain⟨F,cs,ds,g,h1,h2,h3,h4⟩:=h
 match cs,h1 with
 | [c],h1=>cases h1;exact⟨F,c,ds,g,rfl,h2,h3.1,h4⟩
theorem it2 {k:IK}{v w:V}(h:itR W k [v,w] H R):∃ F c d ds,Same F H/\val c=v/\val d=w/\itF k [era c,era d]=some ds/\OK W F H c/\OK W F H d/\∀ J,ItOk W J [c,d] ds->R J H:=by
 obtain⟨F,cs,ds,g,h1,h2,h3,h4⟩:=h
 match cs,h1 with
 | [c,d],h1=>cases h1;exact⟨F,c,d,ds,g,rfl,rfl,h2,h3.1,h3.2.1,h4⟩
theorem zeR {v:V}(h:itR W .seq [v] H R):(∃ a,v=.ref a/\(∃ xs,SqL W.K H a xs)/\R (Itl W.K a) H)\/(∃ z,v=.str z/\R (Its z) H)\/∃ a,v=.ref a/\(∃ xs,SqT W.K H a xs)/\R (Itt W.K a) H:=by
 obtain⟨F,c,ds,g,rfl,e,hc,q⟩:=it1 h
 rcases zN e with e | e
 ·obtain⟨l,e1,e⟩:=zb e
  cases e
  exact .inr (.inl ⟨_,(je hc (qj e1)).1,q _ zhB⟩)
 ·obtain⟨xs,e1,e2⟩:=zb e
  have e3:ds=views xs:=by
   cases z:shrs xs<;>rw [z] at e2<;>cases e2
   ·rfl
   ·exact(Jn z).symm
  subst e3
  rcases zcA e1 with e | e
  ·obtain⟨p,us,h1,h2,_⟩:=W2 g hc e
   exact .inl ⟨p,h1,⟨us,h2⟩,q _ (zjh h1 e)⟩
  ·obtain⟨p,us,h1,h2,_⟩:=W3 g hc e
   exact .inr (.inr ⟨p,h1,⟨us,h2⟩,q _ (zji h1 e)⟩)
theorem zcV {v:V}(h:itR W .rng [v] H R):∃ j:Int,[v]=[.int j]/\-(2 ^ 62)<=j/\j<2 ^ 62/\R (Itr 0 j.toNat) H:=by
 obtain⟨F,c,ds,g,rfl,e,hc,q⟩:=it1 h
 obtain⟨j,e1,e⟩:=zb e
 obtain⟨hb,rfl⟩:=zcx e
 have hb:=Kb hb
 have:=zcT (W:=W) (u:=[c]) (lo:=0) (n:=j.toNat)
 simp only [Int.zero_add] at this
 exact⟨j,by rw [zI hc e1],hb.1,hb.2,q _ this⟩
theorem zcW {v w:V}(h:itR W .rng [v,w] H R):∃ i j:Int,[v,w]=[.int i,.int j]/\(-(2 ^ 62)<=i/\i<2 ^ 62/\-(2 ^ 62)<=j/\j<2 ^ 62)/\R (Itr i (j - i).toNat) H:=by
 obtain⟨F,c,d,ds,g,rfl,rfl,e,hc,hd,q⟩:=it2 h
 obtain⟨i,j,e1,e2,e⟩:=zt e
 obtain⟨hb,rfl⟩:=zcx e
 obtain⟨hb1,hb2⟩:=uF.mp hb
 have hb:=And.intro (Kb hb1) (Kb hb2)
 exact⟨i,j,by rw [zI hc e1,zI hd e2],⟨hb.1.1,hb.1.2,hb.2.1,hb.2.2⟩,q _ zcT⟩
theorem zbv {v:V}(h:itR W .enumS [v] H R):∃ z,[v]=[.str z]/\R (Ite (goS z) (yvS z) (stS z)) H:=by
 obtain⟨F,c,ds,g,rfl,e,hc,q⟩:=it1 h
 obtain⟨l,e1,e⟩:=zb e
 cases e
 exact⟨_,by rw [(je hc (qj e1)).1],q _ zcU⟩
end
end L5
namespace L5
open PySem L2 PySem.Spec PyProof.Rows
def lcB (bnd:V->Hp->(List V->Prop)->Prop)(J:It)(tt:TT)(te:TE)(σ:L2.St)(H1:Hp)(Q:VK):Prop:=∀ D,H1 D=none->∃ I:Nat->Nat->List V->Hp->Prop,(∃ m,I 0 m [] (upd H1 D (.lst [])))/\∀ i m ys H',I i m ys H'->H' D=some (.lst ys) /\
 ((J.stop i H'/\Q (.ref D) H')\/(J.go i H'/\∀ v H2,J.yld i H' v H2->bnd v H2 λus=>tt (us.map some++σ) H2 λb H3=>
  if b=true then te (us.map some++σ) H3 λy H4=>H4 D=some (.lst ys)/\ys.length<sizeLine/\∃ m',m' < m/\I (i+1) m' (ys++[y]) (upd H4 D (.lst (ys++[y]))) else ∃ m',m' < m/\I (i+1) m' ys H3))
end L5
namespace L2
open PySem PySem.Spec PyProof.Rows
noncomputable def renL (xs:Lh)(y:Str):Str:=if y∈xs then Str.ofString "" else y
structure yu (X:Cx)(xs:Lh)(scope:Scope):Prop where
 nd:(xs++X.N.map (renL xs)).Nodup
 kind:scope.kind=.function
 cell:∀ y∈scope.names,y.2≠.cell
 names:∀ y∈scope.names,y.2=.local->scope.names.lookup y.1=some .local
 var:∀ x∈xs,scope.names.lookup x=some .local
 free:∀ y∈scope.names,y.2=.free->X.env.kindOf y.1=some .cell
 out:∀ y∈X.N.map (renL xs),scope.names.lookup y≠some .local
 blank:scope.names.lookup (Str.ofString "")=none
 calm:X.calm=true
noncomputable def blkG (X:Cx)(xs:Lh)(scope:Scope)(cl:List (Str×Addr))(C:Addr)(s3:Shared)(H3:Hp)(fp:Ld):Cx:=
 { X with N:=xs++X.N.map (renL xs),s₀:=s3,H₀:=H3,env:=compEnvC scope cl C X.env,outer:=X.stack,ex:=fp,fn:=λ_=>false,pn:=[],xe:=λ_ _=>False }
section
variable {X:Cx} {elt iter tg:Expr} {xs:Lh} {pos:Pos} {ifs:Lg} {scope:Scope} {wi:TI} {tt:TT} {te:TE} {g:TG} {bnd:V->Hp->(List V->Prop)->Prop}
theorem V5 {pins:List (Addr×Obj)}{σ:St}{H:Hp}{s:Shared}{E:Value->Shared->Prop}{Q:Value->Shared->Prop}{use:Option (Value->Sem Unit)}{QV:VK}(L:yu X xs scope)(I:Inv X pins σ H s)
  (hi:wpAny (model X.prog X.w) X.A (eval iter X.env) (λv s1=>wpAny (model X.prog X.w) X.A (pyIter v) (PIE X pins σ (tg) (λJ H1=>∀ D,H1 D=none->∃ W:Nat->Nat->List V->Hp->Prop,(∃ m,W 0 m [] (upd H1 D (.lst [])))/\∀ i m ys H',W i m ys H'->H' D=some (.lst ys) /\
 ((J.stop i H'/\QV (.ref D) H')\/(J.go i H'/\∀ v H2,J.yld i H' v H2->bnd v H2 λus=>tt (us.map some++σ) H2 λb H3=>
  if b=true then te (us.map some++σ) H3 λy H4=>H4 D=some (.lst ys)/\ys.length<sizeLine/\∃ m',m' < m/\W (i+1) m' (ys++[y]) (upd H4 D (.lst (ys++[y]))) else ∃ m',m' < m/\W (i+1) m' ys H3)))) E s1) E s)
  (ht:∀ cl C s3 H3 fp,PTs (blkG X xs scope cl C s3 H3 fp) ifs tt) (he:∀ cl C s3 H3 fp,PE (blkG X xs scope cl C s3 H3 fp) elt te)
  (hg:∀ cl C s3 H3 fp,PG (blkG X xs scope cl C s3 H3 fp) tg g) (hb:∀ v H (os:St) (K:List V->Prop),os.length=xs.length->bnd v H K->g v (os++σ) H λσ' H'=>∃ us,us.length=xs.length/\σ' = us.map some++σ/\H' = H/\K us)
  (hs:∀ x,foldedSetIterable iter X.env x=pure x)
  (fin:∀ (D C:Addr) (H':Hp) (s':Shared) (m:La),Inv X pins σ H' s'->FpOk X pins H' C->s'.heap.Ns C m->QV (.ref D) H'->compPost (model X.prog X.w) X.A E use Q (.ref D) C (.ok .next) s') :
  wpAny (model X.prog X.w) X.A (comprehension (.ListComp elt [⟨tg,iter,ifs,0⟩] scope pos) scope X.env (firstIterPos [⟨tg,iter,ifs,0⟩] pos) (newList []) false (eval iter X.env) use) Q E s:=by
 obtain⟨cl,hcl,cl1,cl2⟩:=YZ (env:=X.env) (scope:=scope) (λy hy hf=>I.ok.has y.1 (.inl (L.free y hy hf)))
 refine wpAny_comprehension_free (use:=use) rfl hs hcl L.kind L.names (wpAny_mono hi (λxv s₁ h₁=>wpAny_mono h₁ (λit s2 h₂=>?_) λ_ _ e=>e) λ_ _ e=>e)
 obtain⟨it,fp,tn,J,H2,rfl,I2,T,st2,f2,hW⟩:=h₂
 have fr2:H2 s2.heap.objs.size=none:=I2.hok.fresh (ui _)
 obtain⟨W,⟨m0,w0⟩,turn⟩:=hW _ fr2
 refine wpAny_newObj_type ?_
 have I3:Inv X pins σ (upd H2 s2.heap.objs.size (.lst [])) { s2 with heap:=s2.heap.push { cls:=.type "list",dict:=none,data:=.seq ([]:Lf).toArray } }:=
  I2.laid (t':=s2.toks) (o:=.lst []) (λb ob q=>Heap.get?_push_of_some _ q) (ui _) ⟨uE _,[],0,.nil,Heap.get?_push_size _ rfl⟩
 generalize hD:s2.heap.objs.size=D at I3 turn w0 fr2 ⊢
 generalize hH3:upd H2 D (.lst [])=H3 at I3 w0
 generalize hs3:({ s2 with heap:=s2.heap.push { cls:=.type "list",dict:=none,data:=.seq ([]:Lf).toArray } }:Shared)=s3 at I3 ⊢
 have k23:∀ b o,s2.heap.get? b=some o->s3.heap.get? b=some o:=λb o e=>by rw [← hs3];exact Heap.get?_push_of_some _ e
 have os3:s3.os=s2.os:=by rw [← hs3]
 have fpD:∀ b∈fp,b≠D:=λb hb z=>by
  obtain⟨o,e,_⟩:=T.obj _ _ st2 b hb
  exact absurd (Heap.lt_size e) (by rw [z,← hD];exact u9 _)
 have f3:∀ b∈fp,FpOk X pins H3 b:=λb hb=>⟨by rw [← hH3,zU (fpD b hb)];exact(f2 b hb).1,(f2 b hb).2⟩
 have st3:tn 0 s3.heap:=T.keep _ _ _ st2 λb hb o e=>k23 b o e
 refine wpAny_newFunctionEnv L.cell (λy hy=>by simp at hy) (λh₁ hns₁ hsb₁=>?_) L.kind
 generalize hC:s3.heap.objs.size=C at hns₁ hsb₁ ⊢
 have k34:∀ b o,s3.heap.get? b=some o->h₁.get? b=some o:=λb o e=>hsb₁.extBut b o (by rintro rfl;exact absurd (Heap.lt_size e) (by rw [hC];exact u9 _)) (Heap.get?_push_of_some _ e)
 let X':Cx:=blkG X xs scope cl C s3 H3 fp
 have relab:∀ y,X'.env.scope.names.lookup y=(scope.names.lookup y).map λk=>if (k == NameKind.free&&X.env.scope.kind == .function&&X.env.kindOf y == some .cell) then NameKind.cell else k:=λy=>xr y scope.names
 have visC:∀ y,(X'.env.kindOf y=some .cell\/X'.env.kindOf y=some .free)->scope.names.lookup y=some .free:=λy hy=>by
  have e:=relab y
  have hy:X'.env.scope.names.lookup y=some .cell\/X'.env.scope.names.lookup y=some .free:=hy
  rw [e] at hy
  cases q:scope.names.lookup y with
  | none=>rw [q] at hy;simp at hy
  | some k=>
   rw [q] at hy
   simp only [Uo,U6] at hy
   by_cases hf:k=.free
   ·rw [hf]
   ·have hb:(k == NameKind.free)=false:=by simpa using hf
    simp only [hb,Ge,gK,U2] at hy
    rcases hy with rfl | rfl
    ·exact absurd rfl (L.cell _ (u7 q))
    ·exact absurd rfl hf
 have okX':X'.Ok:=by
  refine⟨I3.ok.mod,?_,I3.ok.glob,I3.ok.blt,?_,?_,?_,?_,I3.ok.hd,I3.ok.frames,.inl rfl,?_,?_,?_,?_,?_,?_,?_⟩
  ·show(relabel scope X.env).kind=.function
   exact L.kind
  ·show s3.heap.objs.size<=C
   exact Up hC
  ·exact λa b c h1 h2=>I3.ok.inj a b c (cl1 a c h1) (cl1 b c h2)
  ·exact λy hy=>cl2 (y,.free) (u7 (visC y hy)) rfl
  ·exact λy c hf=>by cases hf
  ·refine λb hb=>⟨?_,λy c e z=>(f3 b hb).2.2.2.2.1 y c (cl1 y c e) z⟩
   show b≠C
   intro z
   obtain⟨o,e,_⟩:=T.obj _ _ st3 b hb
   exact absurd (Heap.lt_size e) (by rw [z,← hC];exact u9 _)
  ·exact λb o e=>I3.bs b o e
  ·exact uJ I3.ok.bsz I3.sz
  ·intro b o e hb
   rcases(f3 b hb).2.2.2.1 with z | z
   ·exact I3.ok.noex b o e z
   ·exact absurd (uI (Heap.lt_size e) (uJ I3.ok.bsz z)) (u9 _)
  ·intro b hb z
   rcases um.mp (I3.stkSub b z) with e | e
   ·exact(f3 b hb).2.1 e
   ·exact(f3 b hb).2.2.1 e
  ·exact I3.stack
  ·exact I3.stkFree
 have hfreeC:H3 C=none:=I3.hok.fresh (Up hC)
 have I4:Inv X' [] (List.replicate xs.length none++σ) H3 { s3 with heap:=h₁,toks:=s3.toks+([]:List (Str×Value)).length }:=by
  refine⟨okX',rfl,I3.bare,Un.kept k34,⟨_,hns₁,?_⟩,?_,hfreeC,?_,λp hp=>absurd (show p∈([]:List (Addr×Obj)) from hp) (by simp),I3.hok.kept k34,?_⟩
  ·intro i y v e1 e2 e3
   rcases Nat.lt_or_ge i xs.length with hlt | hge
   ·rw [Ul (by rw [Uk];exact hlt),Gj,uw hlt] at e2
    cases e2
   ·obtain⟨j,rfl⟩:∃ j,i=xs.length+j:=⟨i - xs.length,by lia⟩
    have e1:(X.N.map (renL xs))[j]? = some y:=by
     have z:(xs++X.N.map (renL xs))[xs.length+j]? = some y:=e1
     rwa [uV (by lia),UI] at z
    have e2:σ[j]? = some (some v):=by
     rwa [uV (by rw [Uk];lia),Uk,UI] at e2
    have hyN:y∈X.N.map (renL xs):=uK e1
    have hfr:scope.names.lookup y=some .free:=by
     rcases e3 with e3 | e3 | e3
     ·rw [relab y] at e3
      cases q:scope.names.lookup y with
      | none=>rw [q] at e3;simp at e3
      | some k=>
       rw [q] at e3
       simp only [Uo,U6] at e3
       by_cases hf:k=.free
       ·rw [hf]
       ·have hb:(k == NameKind.free)=false:=by simpa using hf
        simp only [hb,Ge,gK,U2] at e3
        exact absurd (by rw [q,e3]) (L.out y hyN)
     ·exact visC y (.inl e3)
     ·exact visC y (.inr e3)
    have e1:X.N[j]? = some y:=by
     rw [ux] at e1
     cases q0:X.N[j]? with
     | none=>rw [q0] at e1;cases e1
     | some y0=>
      rw [q0] at e1
      have e1:renL xs y0=y:=uG e1
      unfold renL at e1
      split at e1
      ·rw [← e1,L.blank] at hfr;cases hfr
      ·rw [e1]
    have hkc:=L.free (y,.free) (u7 hfr) rfl
    have hkc:X.env.kindOf y=some .cell:=hkc
    obtain⟨mX,_,hlX⟩:=I3.loc
    obtain⟨u,r,l⟩:=hlX j y v e1 e2 (.inr (.inl hkc))
    refine⟨u,r,?_⟩
    rcases l with⟨l,_⟩ | ⟨_,c,hc,hcell⟩
    ·rw [hkc] at l;cases l
    ·obtain⟨c',hc'⟩:=cl2 (y,.free) (u7 hfr) rfl
     have hc':cl.lookup y=some c':=hc'
     have:=cl1 y c' hc'
     rw [hc] at this
     cases this
     refine .inr ⟨?_,c,hc',?_⟩
     ·rcases e3 with e3 | e3 | e3
      ·rw [relab y,hfr] at e3
       simp only [Uo,U6] at e3
       split at e3<;>cases e3
      ·exact .inl e3
      ·exact .inr e3
     ·obtain⟨o,ho,hd⟩:=hcell
      exact⟨o,k34 _ _ ho,hd⟩
  ·intro y c e
   obtain⟨v,o,ho,hd⟩:=I3.cell y c (cl1 y c e)
   exact⟨v,o,k34 _ _ ho,hd⟩
  ·exact λy c e=>I3.freeC y c (cl1 y c e)
  ·show(List.replicate xs.length none++σ).length=(xs++X.N.map (renL xs)).length
   rw [ua,ua,Uk,ue,I3.len]
 have st4:tn 0 h₁:=T.keep _ _ _ st3 λb hb o e=>k34 b o e
 have stat:∀ {H':Hp},(∀ b∈fp,H' b=none)->∀ b∈fp,FpOk X' [] H' b:=λhn b hb=>by
  refine⟨hn b hb,(okX'.exf b hb).1,okX'.exfs b hb,.inl hb,(okX'.exf b hb).2,λp hp=>absurd (show p∈([]:List (Addr×Obj)) from hp) (by simp)⟩
 have loop:∀ s4:Shared,s4={ s3 with heap:=h₁,toks:=s3.toks+([]:List (Str×Value)).length } ->
   codeAny (model X.prog X.w) X.A (.compLoop (.ListComp elt [⟨tg,iter,ifs,0⟩] scope pos) 0 (.ref it) (.ref D) X'.env) (compPost (model X.prog X.w) X.A E use Q (.ref D) C) s4:=by
  rintro s4 rfl
  refine VL (λn s'=>∃ i ys os H',os.length=xs.length/\Inv X' [] (os++σ) H' s'/\tn i s'.heap/\(∀ b∈fp,H' b=none)/\W i n ys H') ?_ m0 ⟨0,[],List.replicate xs.length none,H3,Uk,I4,st4,λb hb=>(f3 b hb).1,w0⟩
  rintro n s5 ⟨i,ys,os,H5,hos,I5,st5,fr5,w5⟩
  obtain⟨hD5,turn5⟩:=turn i n ys H5 w5
  rcases turn5 with⟨stop,qn⟩ | ⟨go,step⟩
  ·refine wpAny_mono (T.done X' rfl rfl rfl L.calm i [] s5 (os++σ) H5 (λ_ _=>False) I5 (stat fr5) st5 stop) (λr s6 h6=>?_) λ_ _ z=>z
   obtain⟨rfl,I6⟩:=h6
   have un6:Un (frs X.stack) fp H3 H5 s3.heap s6.heap:=I6.base
   have IX:Inv X pins σ H5 s6:=I3.call' I6.os un6 I6.hok I6.bare λb hb=>⟨(f3 b hb).2.2.2.1,(f3 b hb).2.1,(f3 b hb).2.2.2.2.1,(f3 b hb).2.2.2.2.2⟩
   obtain⟨mC,hnC,_⟩:=I6.loc
   exact fin D C H5 s6 mC IX (I3.fpOk (H':=H5) (Up hC) I6.free) hnC qn
  ·refine wpAny_mono (T.item X' rfl rfl rfl L.calm i [] s5 (os++σ) H5 (λ_ _=>False) I5 (stat fr5) st5 go) (λr s6 h6=>?_) λ_ _ z=>z.elim
   obtain⟨u,rfl,h6⟩:=h6
   refine wpAny_mono h6 (λ_ s6 h6=>?_) λ_ _ z=>z
   obtain⟨v,H6,I6,r6,y6,st6,fr6⟩:=h6
   have I6':=I6.pinned (stat fr6) (T.obj _ _ st6)
   have hv6:=step v H6 y6
   show wpAny (model X'.prog X'.w) X'.A (assign tg X'.env u) _ _ s6
   refine wpAny_mono (Q:=λ_ s7=>∃ us:List V,us.length=xs.length/\Inv X' ([]++ZU fp s6.heap) (us.map some++σ) H6 s7/\tt (us.map some++σ) H6 λb H3=>if b=true then te (us.map some++σ) H3 λy H4=>H4 D=some (.lst ys)/\ys.length<sizeLine/\∃ m',m' < n/\W (i+1) m' (ys++[y]) (upd H4 D (.lst (ys++[y]))) else ∃ m',m' < n/\W (i+1) m' ys H3) (E:=λ_ _=>False) (wpAny_mono (hg cl C s3 H3 fp _ s6 _ H6 v u _ I6' r6 (hb v H6 os _ hos hv6)) (λ_ s7 h7=>?_) λ_ _ z=>z) (λ_ s7 h7=>?_) λ_ _ z=>z.elim
   ·obtain⟨σ7,H7,I7,us,hl,rfl,rfl,hk⟩:=h7
    exact⟨us,hl,I7,hk⟩
   obtain⟨us,hus,I7,hv6⟩:=h7
   refine wpAny_mono ((ht cl C s3 H3 fp) _ s7 _ H6 _ I7 hv6) (λb s8 h8=>?_) λ_ _ z=>z.elim
   obtain⟨H8,I8,q8⟩:=h8
   have done:∀ {ys':List V} {H9:Hp} {s9:Shared} {n':Nat},Inv X' ([]++ZU fp s6.heap) (us.map some++σ) H9 s9->W (i+1) n' ys' H9->∃ i ys os H',os.length=xs.length/\Inv X' [] (os++σ) H' s9/\tn i s9.heap/\(∀ b∈fp,H' b=none)/\W i n' ys H':=λ{ys' H9 s9 n'} I9 w9=>by
    refine⟨i+1,ys',us.map some,H9,by rw [ue];exact hus,I9.unpinned,T.keep _ _ _ st6 λb hb o e=>(I9.pin (b,o) (uB _ (uB _ (vG hb e)))).1,λb hb=>?_,w9⟩
    obtain⟨o,e,d⟩:=T.obj _ _ st6 b hb
    exact(I9.pin (b,o) (uB _ (uB _ (vG hb e)))).2.1
   cases b with
   | false=>
    have q8:∃ m',m' < n/\W (i+1) m' ys H8:=q8
    obtain⟨m',hm,w8⟩:=q8
    exact⟨m',hm,done I8 w8⟩
   | true=>
    have q8:te (us.map some++σ) H8 _:=q8
    refine wpAny_mono ((he cl C s3 H3 fp) _ s8 _ H8 _ I8 q8) (λyv s9 h9=>?_) λ_ _ z=>z.elim
    obtain⟨y,H9,I9,r9,hD9,hz9,m',hm,w9⟩:=h9
    refine wpAny_mono (WM (X:=X') _ s9 _ H9 (.ref D) [y] (.ref D) [yv] (λv' H'=>v' = .non/\H' = upd H9 D (.lst (ys++[y]))) I9 rfl (.cons r9 .nil) ⟨D,ys,y,rfl,rfl,hD9,hz9,rfl,rfl⟩) (λ_ s10 h10=>?_) λ_ _ z=>z.elim
    obtain⟨_,H10,I10,_,_,rfl⟩:=h10
    exact⟨m',hm,done I10 w9⟩
 exact codeAny_compStart_list (loop _ rfl) (T.self _ 0 _ _ _ st4 (loop _ rfl))
theorem zhD (L:yu X xs scope)(hi:PI X tg iter wi)(ht:∀ cl C s3 H3 fp,PTs (blkG X xs scope cl C s3 H3 fp) ifs tt)(he:∀ cl C s3 H3 fp,PE (blkG X xs scope cl C s3 H3 fp) elt te)
  (hg:∀ cl C s3 H3 fp,PG (blkG X xs scope cl C s3 H3 fp) tg g) (hb:∀ v H (os σ:St) (K:List V->Prop),os.length=xs.length->bnd v H K->g v (os++σ) H λσ' H'=>∃ us,us.length=xs.length/\σ' = us.map some++σ/\H' = H/\K us)
  (hs:∀ x,foldedSetIterable iter X.env x=pure x):PE X (.ListComp elt [⟨tg,iter,ifs,0⟩] scope pos) (λσ H Q=>wi σ H λJ H1=>L5.lcB bnd J tt te σ H1 Q):=by
 intro pins s σ H Q I h
 rw [eval_ListComp]
 refine V5 (use:=none) (QV:=Q) L I (hi pins s σ H _ I h) ht he hg (λv H os K=>hb v H os σ K) hs λD C H' s' m IX fC hn q=>?_
 refine⟨m,hn,λh' hs'=>⟨.ref D,H',IX.turned (t':=s'.toks) (λb o hb e=>hs'.extBut b o hb e) fC.1 fC.2.1 fC.2.2.2.1 fC.2.2.2.2.1 fC.2.2.2.2.2,rfl,q⟩⟩
theorem zbw {i:Nat}{z:Str}{pz spos:Pos}(hN:X.N.Nodup)(hi':X.N[i]? = some z)(hz:Loc X.env.scope z)(L:yu X xs scope)(hi:PI X tg iter wi)(ht:∀ cl C s3 H3 fp,PTs (blkG X xs scope cl C s3 H3 fp) ifs tt)(he:∀ cl C s3 H3 fp,PE (blkG X xs scope cl C s3 H3 fp) elt te)
  (hg:∀ cl C s3 H3 fp,PG (blkG X xs scope cl C s3 H3 fp) tg g) (hb:∀ v H (os σ:St) (K:List V->Prop),os.length=xs.length->bnd v H K->g v (os++σ) H λσ' H'=>∃ us,us.length=xs.length/\σ' = us.map some++σ/\H' = H/\K us)
  (hs:∀ x,foldedSetIterable iter X.env x=pure x) (hsw:swapsWith (.ListComp elt [⟨tg,iter,ifs,0⟩] scope pos) (some (.Name z pz)) spos.line X.env=pure true)
  (hf:X.fn z=true\/X.env.scope.names.lookup z=some .local):PS X (.Assign [.Name z pz] (.ListComp elt [⟨tg,iter,ifs,0⟩] scope pos) spos) (tAsg (λσ H Q=>wi σ H λJ H1=>L5.lcB bnd J tt te σ H1 Q) (vn i)):=by
 intro pins s σ H D I h
 rw [exec_Assign_Name_used _ _ _ _ hsw]
 refine wpAny_bind (wpAny_standAt (wpAny_bind ?_))
 show wpAny _ X.A (do let _ ← comprehension (.ListComp elt [⟨tg,iter,ifs,0⟩] scope pos) scope X.env _ (newList []) false (eval iter X.env) (some (assign (.Name z pz) X.env))) _ _ s
 refine wpAny_bind (wpAny_mono (V5 (use:=some (assign (.Name z pz) X.env)) (Q:=λ_ s'=>SP X pins D .next s') (QV:=λv H'=>D.nx (σ.set i (some v)) H') L I (hi pins s σ H _ I h) ht he hg (λv H os K=>hb v H os σ K) hs λD' C H' s' m IX fC hn q=>?_) (λ_ s' hq=>wpAny_pure (wpAny_pure hq)) λ_ _ e=>e)
 show wpAny _ X.A (assign (.Name z pz) X.env (.ref D')) _ _ s'
 refine wpAny_assign_Name (WG IX hN hi' hz (show RelV (.ref D') (.ref D') from rfl) (λs2 I2 hch=>?_) hf)
 obtain⟨a,sb,ha⟩:=hch
 have hCa:C≠a:=by
  rcases ha with e | e
  ·rw [e];exact fC.2.1
  ·intro z';exact fC.2.2.2.2.1 _ _ e z'.symm
 refine⟨m,hn.sameBut sb hCa,λh' hs'=>?_⟩
 exact⟨_,H',I2.turned (t':=s2.toks) (λb o hb e=>hs'.extBut b o hb e) fC.1 fC.2.1 fC.2.2.2.1 fC.2.2.2.2.1 fC.2.2.2.2.2,q⟩
theorem zhE {v:V}{H:Hp}{os σ:St}{K:List V->Prop}(hl:os.length=1)(h:K [v]):vn 0 v (os++σ) H λσ' H'=>∃ us:List V,us.length=1/\σ' = us.map some++σ/\H' = H/\K us:=by
 match os,hl with
 | [o],_=>exact⟨[v],rfl,rfl,rfl,h⟩
noncomputable def gN (off:Nat):Nat->TGs
 | 0=>gNil
 | n+1=>VF (vn off) (gN (off+1) n)
theorem zfM {H:Hp}{σ:St}{Q:St->Hp->Prop}:∀ {n:Nat} {us:List V} {pre os:St},os.length=n->us.length=n->Q (pre++(us.map some++σ)) H->gN pre.length n us (pre++(os++σ)) H Q
 | 0,[],pre,[],_,_,q=>⟨rfl,by simpa using q⟩
 | n+1,u::us,pre,o::os,h1,h2,q=>by
  refine⟨u,us,rfl,?_⟩
  have e:(pre++(o::os++σ)).set pre.length (some u)=(pre++[some u])++(os++σ):=by
   have z:∀ (l:List (Option V)) (r:List (Option V)),(l++o::r).set l.length (some u)=(l++[some u])++r:=λl r=>by
    rw [gB _ _ (ui _),UO]
    simp
   exact z pre (os++σ)
  show gN (pre.length+1) n us ((pre++(o::os++σ)).set pre.length (some u)) H Q
  rw [e,show pre.length+1=(pre++[some u]).length by simp]
  exact zfM (by simpa using h1) (by simpa using h2) (by simpa using q)
 | 0,_::_,_,_,_,h,_=>by cases h
 | 0,[],_,_::_,h,_,_=>by cases h
 | _+1,[],_,_,_,h,_=>by cases h
 | _+1,_::_,_,[],h,_,_=>by cases h
noncomputable def bndT (K:Le)(n:Nat):V->Hp->(List V->Prop)->Prop:=λv H k=>∃ pa us,v=.ref pa/\SqT K H pa us/\us.length=n/\k us
theorem zjj {C:Le}{n:Nat}{v:V}{H:Hp}{os σ:St}{K:List V->Prop}(hl:os.length=n)(h:bndT C n v H K):gTup C n (gN 0 n) v (os++σ) H λσ' H'=>∃ us:List V,us.length=n/\σ' = us.map some++σ/\H' = H/\K us:=by
 obtain⟨pa,us,rfl,h1,h2,h3⟩:=h
 exact⟨pa,us,rfl,h1,h2,zfM (pre:=[]) hl h2 ⟨us,h2,rfl,rfl,h3⟩⟩
end
end L2
namespace L5
open PySem L2 PySem.Spec PyProof.Rows
noncomputable def bndG (K:Le)(tup:Bool)(n:Nat):V->Hp->(List V->Prop)->Prop:=if tup=true then L2.bndT K n else λv _ k=>k [v]
noncomputable def gOf (K:Le)(tup:Bool)(n:Nat):TG:=if tup=true then gTup K n (gN 0 n) else vn 0
theorem zcX {K:Le}{tup:Bool}{n:Nat}(h:tup=decide (n≠1))(v:V)(H:Hp)(os σ:L2.St)(k:List V->Prop)(hl:os.length=n)(hb:bndG K tup n v H k):gOf K tup n v (os++σ) H λσ' H'=>∃ us:List V,us.length=n/\σ' = us.map some++σ/\H' = H/\k us:=by
 unfold gOf
 unfold bndG at hb
 cases tup with
 | true=>
  rw [uw rfl] at hb ⊢
  exact zjj hl hb
 | false=>
  have hn:n=1:=by
   have:=uL h.symm
   lia
  subst hn
  rw [uv (by decide)] at hb ⊢
  exact zhE hl hb
noncomputable def nms:Lg->Option (Lh)
 | []=>some []
 | e::es=>match e with
  | .Name x _=>(nms es).map (x::·)
  | _=>none
noncomputable def tgN (e:Expr):Option (Bool×Lh):=match e with
 | .Name x _=>some (false,[x])
 | .Tuple es _ _=>(nms es).map λl=>(true,l)
 | _=>none
theorem zav {X:Cx}(hN:X.N.Nodup)(hf:∀ x,X.fn x=false):∀ {es:Lg} {xs:Lh} {off:Nat},nms es=some xs->(∀ k x,xs[k]? = some x->X.N[off+k]? = some x)->(∀ x∈xs,X.env.scope.names.lookup x=some .local)->PGs X es (gN off xs.length)/\(assignEach es X.env).length=xs.length/\(assignEach es X.env).findIdx? (·.1)=none
 | [],xs,off,h,_,_=>by
  cases h
  exact⟨KL,rfl,rfl⟩
 | e::es,xs,off,h,hk,hx=>by
  simp only [nms] at h
  split at h
  ·rename_i x p
   rw [uz] at h
   obtain⟨ys,h1,rfl⟩:=h
   obtain⟨p1,p2,p3⟩:=zav hN hf (off:=off+1) h1 (λk y hy=>by
    have:=hk (k+1) y (by simpa using hy)
    rwa [show off+(k+1)=off+1+k by lia] at this) λy hy=>hx y (uh _ hy)
   have hv:=hx x uf
   have hn:PG X (.Name x p) (vn off):=Xl hN (hk 0 x rfl) (.inl hv) (.inr hv)
   have ac:(assignEach (.Name x p::es) X.env)=(false,assign (.Name x p) X.env)::assignEach es X.env:=rfl
   exact⟨VG hn p1 rfl,by rw [ac,ub,ub,p2],by rw [ac,Uj,p3];rfl⟩
  ·cases h
theorem zhF {X:Cx}{tg:Expr}{q:Bool×Lh}(hc:X.calm=true)(hN:X.N.Nodup)(hf:∀ x,X.fn x=false)(h:tgN tg=some q)(hk:∀ (k:Nat) x,q.2[k]? = some x->X.N[k]? = some x)(hx:∀ x∈q.2,X.env.scope.names.lookup x=some .local):PG X tg (gOf X.K q.1 q.2.length):=by
 unfold tgN at h
 split at h
 ·rename_i x p
  cases h
  have hv:=hx x uf
  exact Xl hN (hk 0 x rfl) (.inl hv) (.inr hv)
 ·rename_i es k p
  rw [uz] at h
  obtain⟨ys,h1,rfl⟩:=h
  obtain⟨p1,p2,p3⟩:=zav hN hf (off:=0) h1 (λk y hy=>by rw [UE];exact hk k y hy) hx
  exact zbP hc p1 p2 p3
 ·cases h
variable {W:Wd} {E:XS} {F H:Hp} {s τ:Sl} {σ:L2.St} {vs:List V} {γ:List AT} {K:KP} {X4:XP} {Q:VK}
noncomputable abbrev noE:XS:=λ_ _ _ _=>False
theorem zfN {vs:List V}:XK W noE σ vs γ noX:=λ_ _ _ _ _ _ _ _ _ _ h=>h.elim
theorem Ms.shift {as l:List AT}{n:Nat}(hl:l.length=n):∀ {s s':Sl} {ρ:List (Option V)} {cs:List AT},Ms as s ρ cs->mapO (shN n) s=some s'->Ms (l++as) s' ρ cs
 | [],_,_,_,h,e=>by cases e;exact h
 | x::s,_,_,_,⟨o,ρ,a,cs,e1,e2,h1,h2⟩,e=>by
  obtain⟨y,ys,k1,k2,k⟩:=zt e
  cases k
  refine⟨o,ρ,a,cs,e1,e2,?_,Ms.shift hl h2 k2⟩
  cases x with
  | no=>cases k1;exact h1
  | own t=>cases k1;exact h1
  | al i p=>
   cases k1
   obtain⟨hn,u,hu,ho⟩:=h1
   refine⟨hn,u,?_,ho⟩
   unfold getS at hu ⊢
   rw [uV (by lia),hl,UI];exact hu
theorem Ms.unshift {as:List AT}{n:Nat}:∀ {s s':Sl} {ρ:List (Option V)} {cs:List AT},Ms as s ρ cs->mapO (unN n) s=some s'->Ms (as.drop n) s' ρ cs
 | [],_,_,_,h,e=>by cases e;exact h
 | x::s,_,_,_,⟨o,ρ,a,cs,e1,e2,h1,h2⟩,e=>by
  obtain⟨y,ys,k1,k2,k⟩:=zt e
  cases k
  refine⟨o,ρ,a,cs,e1,e2,?_,Ms.unshift h2 k2⟩
  cases x with
  | no=>cases k1;exact h1
  | own t=>cases k1;exact h1
  | al i p=>
   simp only [unN,unSl] at k1
   cases c:n.ble i with
   | false=>rw [c] at k1;cases k1;exact h1.1
   | true=>
    rw [c] at k1;cases k1
    obtain⟨hn,u,hu,ho⟩:=h1
    refine⟨hn,u,?_,ho⟩
    unfold getS at hu ⊢
    rw [List.getElem?_drop,Nat.add_sub_cancel' (Nat.le_of_ble_eq_true c)];exact hu
theorem Ms.drop:∀ {as:List AT} {s:Sl} {ρ:List (Option V)} {cs:List AT} (n:Nat),Ms as s ρ cs->Ms as (s.drop n) (ρ.drop n) (cs.drop n)
 | _,_,_,_,0,h=>h
 | _,[],_,_,n+1,⟨h1,h2⟩=>by subst h1 h2;exact⟨rfl,rfl⟩
 | _,_::_,_,_,n+1,⟨_,_,_,_,e1,e2,_,h⟩=>by subst e1 e2;exact Ms.drop n h
theorem Ms.leaves {as:List AT}:∀ {ts:List T} {us:List V} {s:Sl} {ρ:List (Option V)} {cs:List AT},IsVs W F ts us->Ms as s ρ cs->Ms as (ts.map .own++s) (us.map some++ρ) (L5.leaves ts us++cs)
 | [],_,_,_,_,h,m=>by rw [show _=[] from h];exact m
 | _::_,_,_,_,_,⟨v,r,e,h1,h2⟩,m=>by subst e;exact⟨_,_,_,_,rfl,rfl,⟨rfl,rfl⟩,Ms.leaves h2 m⟩
theorem Rep.names {ts:List T}{us:List V}{s1 τ1:Sl}(R:Rep W F H s τ σ vs γ)(i:IsVs W F ts us)(sh:shrs ts=true)(e1:mapO (shN ts.length) s=some s1)(e2:mapO (shN ts.length) τ=some τ1):Rep W F H (ts.map .own++s1) τ1 (us.map some++σ) vs γ:=by
 obtain⟨as,bs,R⟩:=R
 have hl:(leaves ts us).length=ts.length:=by
  have:=congrArg List.length (Z4 (H:=H) i sh).2.1
  rw [zl,ue] at this
  exact this
 refine⟨leaves ts us++as,bs,?_,(R.ls.shift hl e1).leaves i,R.ts.shift hl e2⟩
 rw [ud]
 exact(R.st.leaves i sh).1
theorem Rep.unname {us:List V}{n:Nat}{s1 τ1:Sl}(R:Rep W F H s τ (us.map some++σ) vs γ)(hn:us.length=n)(e1:mapO (unN n) (s.drop n)=some s1)(e2:mapO (unN n) τ=some τ1):Rep W F H s1 τ1 σ vs γ:=by
 obtain⟨as,bs,R⟩:=R
 have m1:=(R.ls.drop n).unshift e1
 rw [gU (by rw [ue,hn];exact ui _),show(us.map some).drop n=[] by rw [← hn];exact gw (by rw [ue];exact ui _),UH] at m1
 refine⟨as.drop n,bs,?_,m1,R.ts.unshift e2⟩
 have:=R.st
 rw [← UA n as,ud] at this
 exact this.right
theorem zcY {n:Nat}{d:T}{l:Sl}{v:V}{Q:List V->Prop}(g:Same F H)(hs:shr d=true)(hd:IsV W F d v)(e:zcy n d=some l)(q:∀ us ts,l=ts.map .own->ts.length=n->IsVs W F ts us->shrs ts=true->Q us):bndG W.K (decide (n≠1)) n v H Q:=by
 by_cases hn:n=1
 ·subst hn
  cases e
  exact q [v] [d] rfl rfl ⟨v,[],rfl,hd,rfl⟩ (by show(shr d&&true)=true;rw [hs];rfl)
 ·rw [uS hn]
  have e:((tpO d).bind λxs=>cond (xs.length == n) (some (xs.map .own)) none)=some l:=by
   unfold zcy at e
   split at e
   ·exact absurd rfl hn
   ·exact e
  obtain⟨xs,e1,e⟩:=zb e
  cases c:xs.length == n with
  | false=>rw [c] at e;cases e
  | true=>
   rw [c] at e;cases e
   obtain⟨p,us,h1,h2,h3,_⟩:=W3 (a:=.lf d v) g ⟨hs,hd⟩ e1
   have sh:shrs xs=true:=by
    cases d with
    | tp _=>cases e1;exact hs
    | ks l _=>cases l<;>cases e1;obtain⟨_,_,_,_,h,_⟩:=hd;exact h
    | _=>cases e1
   exact⟨p,us,h1,h2,h3.len.trans (eq_of_beq c),q us xs rfl (eq_of_beq c) (h3.sh sh) sh⟩
theorem zfO {elt:Xp}{n:Nat}{k:IK}{its ifs:List Xp}(h:E5 W E (.lc elt n k its ifs) σ H Q):I5 W E k its σ H λJ H1=>lcB (bndG W.K (decide (n≠1)) n) J (TB5 W noE true ifs) (E5 W noE elt) σ H1 Q:=by
 obtain⟨F,s,τ,vs,γ,K,X4,R,h,q,x⟩:=h
 refine⟨F,s,τ,vs,γ,_,X4,R,h,λds o s1 τ1 F1 H1 J us vs' it lv R1 h1 D hD=>?_,x⟩
 let fin:List T->KP:=λacc s3 τ3=>bnd2 (unS o s3 τ3) λs4 τ4=>K s4 (.own (.nd true .ls acc)::τ4)
 let I:Nat->Nat->List V->Hp->Prop:=λi m ys H'=>m=ds.length - i/\i<=ds.length/\∃ F' acc s' τ',vals acc=ys/\Rep W F' H' s' τ' σ vs' (.nd D .ls acc::(us++γ))/\Jv n (λs τ K=>WTb true ifs s τ K noX) (λs τ K=>WE elt s τ K noX) (ds.drop i) (eras acc) s' τ' fin
 refine⟨I,⟨ds.length,by lia,uE _,F1,[],s1,τ1,rfl,?_,by rw [Gf];exact h1⟩,λi m ys H' hI=>?_⟩
 ·obtain⟨Γ,st,back⟩:=R1.all
  exact back (γ':=.nd D .ls []::(us++γ)) (St.node (as:=[]) st hD rfl)
 obtain⟨rfl,hle,F',acc,s',τ',rfl,R2,hp⟩:=hI
 obtain⟨Γ,st,back⟩:=id R2.all
 have okD:=st.ok.1
 have cellD:H' D=some (.lst (vals acc)):=by obtain⟨⟨o,h1,rfl⟩,_⟩:=okD;exact h1
 have oku:OKs W F' H' us:=by
  have:=St.tail (a:=.nd D .ls acc) (γ:=us++γ++Γ) st
  rw [ud] at this
  exact this.left
 refine⟨cellD,?_⟩
 by_cases hlt:i<ds.length
 ·refine .inr ⟨it.go i F' H' hlt st.fh oku,λv H2 y=>?_⟩
  obtain⟨d,ed,hd⟩:=it.yld i F' H' v H2 hlt st.fh oku y
  obtain⟨F2,st2,iv⟩:=hd _ st
  have R3:Rep W F2 H2 s' τ' σ vs' (.nd D .ls acc::(us++γ)):=back st2
  have edr:ds.drop i=d::ds.drop (i+1):=by
   rw [Um hlt]
   rw [uu hlt] at ed
   cases ed
   rfl
  rw [edr] at hp
  obtain⟨l,e1,hp⟩:=zz hp
  obtain⟨s2,e2,hp⟩:=zz hp
  obtain⟨τ2,e3,hp⟩:=zz hp
  refine zcY st2.fh (z7.mp it.sh d (uK ed)) iv e1 λws ts el hn hw sh=>?_
  subst el
  have hwl:ws.length=n:=by rw [hw.len,hn]
  have R4:=R3.names hw sh (by rw [hn];exact e2) (by rw [hn];exact e3)
  refine⟨F2,_,_,vs',_,_,noX,R4,hp,λb F3 H3 s3 τ3 R5 h3=>?_,zfN⟩
  rcases j7 h3 with⟨rfl,h3⟩ | ⟨rfl,h3⟩
  ·rw [uw rfl]
   refine⟨F3,s3,τ3,vs',_,_,noX,R5,h3,λF4 H4 s4 x4 τ4 w R6 h4=>?_,zfN⟩
   obtain⟨t,τ5,e4,hlen,h5'⟩:=zi h4
   obtain⟨s6,e5,h5''⟩:=zz h5'
   obtain⟨τ6,e6,h5⟩:=zz h5''
   clear h5' h5''
   cases x4<;>cases e4
   obtain⟨b,rfl,rfl,hb,R7⟩:=R6.opened
   have R8:=R7.unname hwl e5 e6
   obtain⟨Γ',st',back'⟩:=R8.all
   have cD:H4 D=some (.lst (vals acc)):=by obtain⟨⟨o,h1,rfl⟩,_⟩:=st'.ok.2.1;exact h1
   refine⟨cD,by rw [ue,sizeLine_eq];rw [zl,ue] at hlen;exact hlen,ds.length - (i+1),by lia,rfl,by lia,F4,acc++[b],s6,τ6,by simp [vals],?_,?_⟩
   ·refine back' (γ':=.nd D .ls (acc++[b])::(us++γ)) ?_
    have st3:St W F4 H4 (.nd D .ls acc::([b]++(us++γ++Γ'))):=st'.perm qH
    exact st3.mut (ys:=[b]) (zs:=acc++[b]) (ws:=[]) (by rw [uk]) (by show HO.lst _=.lst _;simp [vals])
   ·rw [zl,uA,← zl];exact h5
  ·rw [uv (by decide)]
   obtain⟨s6,e5,h5⟩:=zz h3
   obtain⟨τ6,e6,h5⟩:=zz h5
   exact⟨ds.length - (i+1),by lia,rfl,by lia,F3,acc,s6,τ6,rfl,R5.unname hwl e5 e6,h5⟩
 ·have hi':i=ds.length:=by lia
  subst hi'
  rw [List.drop_length] at hp
  have hp:fin (eras acc) s' τ':=hp
  obtain⟨s4,τ4,e4,h4⟩:=zi hp
  refine .inl ⟨it.stop F' H' st.fh oku,?_⟩
  have R4:Rep W F' H' s' τ' σ vs' (us++(.nd D .ls acc::γ)):=by
   refine back ?_
   refine st.perm (UN _ ?_)
   exact uH.symm
  exact q F' H' s4 _ _ _ (R4.unlend lv e4).push h4
end L5
namespace L5
open PySem L2 PySem.Spec PyProof.Rows
variable {W:Wd} {E:XS} {F H:Hp} {s τ:Sl} {σ:L2.St} {vs:List V} {γ:List AT} {K K4:KP} {X4:XP} {D:L2.Ends} {D4:Ends}
structure KO (W:Wd)(E:XS)(vs:List V)(γ:List AT)(K4:KP)(D4:Ends)(D:L2.Ends):Prop where
 nx:∀ F' H' s' τ' σ',Rep W F' H' s' τ' σ' vs γ->K4 s' τ'->D.nx σ' H'
 rt:∀ F' H' s' τ' σ' t v,Rep W F' H' s' (.own t::τ') σ' (v::vs) γ->D4.rt t s' τ'->D.rt v H'
 bk:∀ F' H' s' τ' σ',Rep W F' H' s' τ' σ' vs γ->D4.bk s' τ'->D.bk σ' H'
 ct:∀ F' H' s' τ' σ',Rep W F' H' s' τ' σ' vs γ->D4.ct s' τ'->D.ct σ' H'
 ex:∀ x F' H' s' τ' σ' ws c d,Rep W F' H' s' τ' σ' (ws++vs) γ->IsX W F' x c d->D4.ex x s' τ'->E c d σ' H'
theorem KO.xk (k:KO W E vs γ K4 D4 D):XK W E σ vs γ D4.ex:=λx F' H' s' τ' ws c d R=>k.ex x F' H' s' τ' σ ws c d R
noncomputable def S5 (W:Wd)(E:XS)(m:Sl->Sl->KP->Ends->Prop):TS:=λD σ H=>∃ F s τ vs γ K4 D4,Rep W F H s τ σ vs γ/\m s τ K4 D4/\KO W E vs γ K4 D4 D
theorem zcZ (h:S5 W E (WSs []) D σ H):zfw D σ H:=by
 obtain⟨F,s,τ,vs,γ,K4,D4,R,h,k⟩:=h
 exact k.nx F H s τ σ R h
theorem zaw {c:Cm}{cs:List Cm}(h:S5 W E (WSs (c::cs)) D σ H):tSeq (S5 W E (WS c)) (S5 W E (WSs cs)) D σ H:=by
 obtain⟨F,s,τ,vs,γ,K4,D4,R,h,k⟩:=h
 exact⟨F,s,τ,vs,γ,_,D4,R,h,λF' H' s' τ' σ' R' h'=>⟨F',s',τ',vs,γ,K4,D4,R',h',k⟩,k.rt,k.bk,k.ct,k.ex⟩
theorem zhG {e:Xp}(h:S5 W E (WS (.ret e)) D σ H):tRet (E5 W E e) D σ H:=by
 obtain⟨F,s,τ,vs,γ,K4,D4,R,h,k⟩:=h
 refine⟨F,s,τ,vs,γ,_,_,R,h,λF' H' s' x τ' v R' h'=>?_,k.xk⟩
 obtain⟨t,τ2,e1,h2⟩:=zi h'
 cases x<;>cases e1
 exact k.rt F' H' s' _ σ _ v R' h2
theorem zc0 {P:Prop}(h:S5 W E (WS .never) D σ H):P:=by
 obtain⟨F,s,τ,vs,γ,K4,D4,R,h,k⟩:=h
 exact h.elim
theorem zjk {e:Xp}(h:S5 W E (WS (.ex e)) D σ H):zfx (E5 W E e) D σ H:=by
 obtain⟨F,s,τ,vs,γ,K4,D4,R,h,k⟩:=h
 refine⟨F,s,τ,vs,γ,_,_,R,h,λF' H' s' x τ' v R' h'=>?_,k.xk⟩
 exact k.nx F' H' s' τ' σ R'.pop h'
theorem zhH {t:Xp}{a b:List Cm}(h:S5 W E (WS (.ife t a b)) D σ H):tIfS (T5 W E t) (S5 W E (WSs a)) (S5 W E (WSs b)) D σ H:=by
 obtain⟨F,s,τ,vs,γ,K4,D4,R,h,k⟩:=h
 refine⟨F,s,τ,vs,γ,_,_,R,h,λz F' H' s' τ' R' h'=>?_,k.xk⟩
 rcases j7 h' with⟨rfl,h'⟩ | ⟨rfl,h'⟩
 ·exact⟨F',s',τ',vs,γ,K4,D4,R',h',k⟩
 ·exact⟨F',s',τ',vs,γ,K4,D4,R',h',k⟩
theorem Ki {i:Nat}{e:Xp}(h:S5 W E (WS (.asg (.v i) e)) D σ H):tAsg (E5 W E e) (vn i) D σ H:=by
 obtain⟨F,s,τ,vs,γ,K4,D4,R,h,k⟩:=h
 refine⟨F,s,τ,vs,γ,_,_,R,h,λF' H' s' x τ' v R' h'=>?_,k.xk⟩
 obtain⟨s2,τ2,e1,h2⟩:=zi h'
 exact k.nx F' H' s2 τ2 _ (R'.setTop e1) h2
theorem Rep.untup {t:T}{v:V}{ts:List T}(R:Rep W F H s (.own t::τ) σ (v::vs) γ)(e:tpO t=some ts):∃ p cs,v=.ref p/\SqT W.K H p (vals cs)/\eras cs=ts/\Rep W F H s τ σ vs (cs++γ):=by
 obtain⟨b,rfl,rfl,hb,R2⟩:=R.opened
 have g:=R2.fh
 obtain⟨Γ,st,back⟩:=R2.all
 cases b with
 | nd p k ys=>cases k<;>cases e
 | tp p ys=>
  cases e
  exact⟨p,ys,rfl,SqT.of (g _ _ hb.1),rfl,back (γ':=ys++γ) (by rw [ud];exact St.openT st)⟩
 | lf t v=>
  obtain⟨p,us,k1,k2,k3,_⟩:=W3 g hb e
  have sh:shrs ts=true:=by
   cases t with
   | tp _=>cases e;exact hb.1
   | ks l _=>cases l<;>cases e;obtain⟨_,_,_,_,_,h,_⟩:=hb;exact h
   | _=>cases e
  obtain⟨k4,k5,k6⟩:=(St.tail (a:=.lf t v) (γ:=γ++Γ) st).leaves (k3.sh sh) sh
  exact⟨p,leaves ts us,k1,by rw [k6];exact k2,k5,back (γ':=leaves ts us++γ) (by rw [ud];exact k4)⟩
theorem W7:∀ {is:Lc} {cs:List AT} {s τ s' τ':Sl} {σ:L2.St} {Q:L2.St->Hp->Prop},Rep W F H s τ σ vs (cs++γ)->WZ is (eras cs) s τ=some (s',τ')->(∀ σ',Rep W F H s' τ' σ' vs γ->Q σ' H)->(is.foldr (λi g=>VF (vn i) g) gNil) (vals cs) σ H Q
 | [],[],s,τ,s',τ',σ,Q,R,e,q=>by cases e;exact⟨rfl,q σ R⟩
 | [],_::_,s,τ,s',τ',σ,Q,R,e,q=>by cases e
 | _::_,[],s,τ,s',τ',σ,Q,R,e,q=>by cases e
 | i::is,c::cs,s,τ,s',τ',σ,Q,R,e,q=>by
  obtain⟨r,e1,e⟩:=zb e
  exact⟨val c,vals cs,rfl,W7 (Rep.setTop (Rep.push R) e1) e q⟩
theorem W8:∀ {is:Lc} {ts:List T} {s τ:Sl} {r:Sl×Sl},WZ is ts s τ=some r->ts.length=is.length
 | [],[],_,_,_,_=>rfl
 | _::is,_::ts,_,_,_,h=>by obtain⟨_,_,h⟩:=zb h;exact congrArg (· + 1) (W8 h)
 | [],_::_,_,_,_,h=>by cases h
 | _::_,[],_,_,_,h=>by cases h
noncomputable def gNs (W:Wd)(is:Lc):TG:=gTup W.K is.length (is.foldr (λi g=>VF (vn i) g) gNil)
theorem V6 {is:Lc}{t:T}{v:V}{ts:List T}{s' τ':Sl}{Q:L2.St->Hp->Prop}(R:Rep W F H s (.own t::τ) σ (v::vs) γ)(e:tpO t=some ts)(e2:WZ is ts s τ=some (s',τ'))(q:∀ σ',Rep W F H s' τ' σ' vs γ->Q σ' H):gNs W is v σ H Q:=by
 obtain⟨p,cs,rfl,h1,rfl,R2⟩:=R.untup e
 refine⟨p,vals cs,rfl,h1,?_,W7 R2 e2 q⟩
 rw [← W8 e2,zl,ue,ue]
theorem zeS {is:Lc}{e:Xp}(h:S5 W E (WS (.asg (.tup is) e)) D σ H):tAsg (E5 W E e) (gNs W is) D σ H:=by
 obtain⟨F,s,τ,vs,γ,K4,D4,R,h,k⟩:=h
 refine⟨F,s,τ,vs,γ,_,_,R,h,λF' H' s' x τ' v R' h'=>?_,k.xk⟩
 obtain⟨s2,τ2,e1,h2⟩:=zi h'
 cases x with
 | no=>cases e1
 | al _ _=>cases e1
 | own t=>
  obtain⟨ts,e2,e3⟩:=zb e1
  exact V6 R' e2 e3 λσ' R2=>k.nx F' H' s2 τ2 σ' R2 h2
def putR (o i w:V)(H:Hp)(Q:Hp->Prop):Prop:=zfz o i w H Q\/∃ a H',o=.ref a/\DPut H a i w H'/\Q H'
theorem zc1 {X:Cx}(hu:X.A.units+64<cLine):PSet X putR:=by
 intro pins s σ H o i v ov iv u Q I ro ri rv h
 rcases h with h | ⟨a,H',rfl,g,q⟩
 ·exact set_list pins s σ H o i v ov iv u Q I ro ri rv h
 ·cases ro
  exact zbk (by lia) I g ri rv λs' I'=>⟨H',I',q⟩
theorem V7 {w:V}{k:Key}{o:T}(hw:IsV W F o w):∀ {xs:List T} {kvs:List (Key×V)},IsVs W F xs (kvs.map (·.2))->IsVs W F (((kvs.map (·.1)).zip xs).map λkv=>if kv.1=k then o else kv.2) ((kvs.map λkv=>if kv.1=k then(kv.1,w) else kv).map (·.2))
 | xs,[],h=>by rfl
 | [],_::_,h=>by cases h
 | x::xs,(k',v')::kvs,⟨v,r,e,h1,h2⟩=>by
  cases e
  refine⟨_,_,rfl,?_,V7 hw h2⟩
  by_cases hk:k' = k
  ·simp only [uw hk];exact hw
  ·simp only [uv hk];exact h1
theorem V8 {ts:List T}:∀ {xs:List T} {us vs:List V},IsVs W F xs us->IsVs W F ts vs->IsVs W F (xs++ts) (us++vs)
 | [],_,_,h,k=>by rw [show _=[] from h];exact k
 | _::_,_,_,⟨v,r,e,h1,h2⟩,k=>by subst e;exact⟨_,_,rfl,h1,V8 h2 k⟩
theorem zax {ks:List Key}{xs:List T}{k:Key}{o:T}{w:V}{kvs:List (Key×V)}(e:kvs.map (·.1)=ks)(h:IsVs W F xs (kvs.map (·.2)))(hw:IsV W F o w):(putK kvs k w).map (·.1)=(dput ks xs k o).1/\IsVs W F (dput ks xs k o).2 ((putK kvs k w).map (·.2)):=by
 subst e
 have ea:(kvs.any λkv=>decide (kv.1=k))=(kvs.map (·.1)).any λk'=>decide (k' = k):=by rw [List.any_map];rfl
 unfold dput putK
 rw [ea]
 split
 ·refine⟨?_,V7 hw h⟩
  rw [Uq]
  congr 1
  funext kv
  simp only [Function.comp]
  split<;>rfl
 ·rw [uA,uA]
  exact⟨rfl,V8 h ⟨w,[],rfl,hw,rfl⟩⟩
theorem zay {ks:List Key}{xs:List T}{k:Key}{o:T}(h:shrs xs=true)(ho:shr o=true):shrs (dput ks xs k o).2=true:=by
 unfold dput
 split
 ·refine z7.mpr λt ht=>?_
  obtain⟨kv,h1,rfl⟩:=Uh.mp ht
  by_cases hk:kv.1=k
  ·rw [uw hk];exact ho
  ·rw [uv hk];exact z7.mp h _ (UY h1).2
 ·refine z7.mpr λt ht=>?_
  rcases ur.mp ht with z | z
  ·exact z7.mp h _ z
  ·rw [ug.mp z];exact ho
theorem put_ok {p:Addr}{k:Kd}{xs Γ:List AT}{c ck:AT}{t':T}{Q:Hp->Prop}(st:St W F H (.nd p k xs::c::Γ))(hk:OK W F H ck)(e:subF (.nd true k (eras xs)) (era ck) (era c)=some t')(q:∀ H' k' us,St W F H' (.nd p k' us::Γ)->.nd true k' (eras us)=t'->Q H'):putR (.ref p) (val ck) (val c) H Q:=by
 obtain⟨⟨o,h1,h2⟩,h3⟩:=st.ok.1
 cases k with
 | ob c fs=>cases e
 | ls=>
  obtain⟨i,e1,e⟩:=zb e
  obtain⟨j,e2,e⟩:=zb e
  obtain⟨ys,e3,e⟩:=zb e
  cases e
  cases h2
  obtain⟨l,rfl⟩:=Zp e3
  have l':j<xs.length:=by rw [zl,ue] at l;exact l
  have el:(vals xs).length=(eras xs).length:=by rw [zl,ue,ue]
  refine .inl ⟨p,vals xs,i,j,rfl,zI hk e1,h1,by rw [el];exact e2,?_⟩
  have pm:=Zr (y:=c) (uu l')
  have st2:St W F H (.nd p .ls xs::([c]++Γ)):=st
  have:=st2.mut (k':=.ls) (o:=.lst ((vals xs).set j (val c))) (zs:=xs.set j c) (ws:=[xs[j]]) pm.symm (by show HO.lst _=.lst _;rw [vals,vals,gx])
  refine q _ .ls (xs.set j c) ?_ (by rw [zl,zl,gx])
  exact(this.perm qH).tail
 | dc ks=>
  obtain⟨key,e1,e⟩:=zb e
  obtain⟨⟨hl,hs⟩,e⟩:=qx e
  cases e
  obtain⟨sx,so⟩:=uF.mp hs
  obtain⟨kvs,rfl,rfl,e3⟩:=h2
  have iv:=(h3.leaf sx).2
  have ic:=(st.ok.2.1.leaf so).2
  rw [← e3] at iv
  obtain⟨f1,f2⟩:=zax (k:=key) rfl iv ic
  have hk':=XF hk e1
  refine .inr ⟨p,_,rfl,.inl ⟨kvs,key,h1,hk',by rw [sizeLine_eq];rw [ue] at hl;exact hl,rfl⟩,?_⟩
  have st0:St W F H (.nd p (.dc (kvs.map (·.1))) xs::Γ):=(st.perm qH).tail
  obtain⟨k4,k5,k6⟩:=st0.leaves f2 (zay sx so)
  have st1:=k4.perm (uH:(leaves _ _++AT.nd p (.dc (kvs.map (·.1))) xs::Γ).Perm (AT.nd p (.dc (kvs.map (·.1))) xs::(leaves _ _++Γ)))
  have st2:=st1.mut (k':=.dc (dput (kvs.map (·.1)) (eras xs) key (era c)).1) (o:=.dK (putK kvs key (val c))) (zs:=leaves _ _) (ws:=xs) uC ⟨_,rfl,f1,k6.symm⟩
  refine q _ _ _ ?_ (by rw [k5])
  exact(st2.perm (uH.symm:(AT.nd p _ _::(xs++Γ)).Perm (xs++AT.nd p _ _::Γ))).right
theorem zhI {p k e:Xp}(h:S5 W E (WS (.asg (.sub p k) e)) D σ H):tAsg (E5 W E e) (gSub (E5 W E p) (E5 W E k) putR) D σ H:=by
 obtain⟨F,s,τ,vs,γ,K4,D4,R,h,ko⟩:=h
 refine⟨F,s,τ,vs,γ,_,_,R,h,λF1 H1 s1 x1 τ1 v1 R1 h1=>?_,ko.xk⟩
 refine⟨F1,s1,_,_,γ,_,_,R1,h1,λF2 H2 s2 x2 τ2 v2 R2 h2=>?_,ko.xk.app [v1]⟩
 refine⟨F2,s2,_,_,γ,_,_,R2,h2,λF3 H3 s3 x3 τ3 v3 R3 h3=>?_,ko.xk.app [v2,v1]⟩
 obtain⟨s4,τ4,e1,h4⟩:=zi h3
 match τ3,e1 with
 | .al i q::.own o::τ5,e1=>
  obtain⟨kt,e2,e1a⟩:=zb e1
  obtain⟨t,e3,e1b⟩:=zb e1a
  obtain⟨t',e4,e1c⟩:=zb e1b
  clear e1 e1a e1b
  obtain⟨as,bs,Rp⟩:=id R3
  obtain⟨ck,k1,rfl,rfl⟩:=Rp.res e2
  obtain⟨as,bs,Rq⟩:=R3.pop
  obtain⟨u,bs',rfl,hu,et,rfl,st,_⟩:=id (Rq.place e3)
  obtain⟨_,bs2,e0,_,_,Rq'⟩:=Rq.uncons
  cases e0
  obtain⟨b,bs3,rfl,m,st',Rr⟩:=Rq'.uncons
  obtain⟨eb,evb⟩:=m
  cases evb
  cases u with
  | lf t0 v0=>
   have hs:=st.ok.1.1
   rw [show t0=t from et] at hs
   cases t with
   | nd o' k' xs'=>
    cases o'
    ·cases k'<;>cases e4
    ·cases hs
   | _=>cases e4
  | tp pa ys=>cases et;cases e4
  | nd pa kk ys=>
   cases et
   have st2:St W F3 H3 (.nd pa kk ys::b::(setS i q as (hole (.nd pa kk ys))++(bs3++γ))):=st.perm (List.Perm.cons _ (by exact uH))
   have hkk:OK W F3 H3 ck:=k1
   refine put_ok st2 hkk (by rw [eb];exact e4) λH' k' us st3 et=>?_
   obtain⟨n1,n2⟩:=Z5 (w:=.nd pa k' us) Rr.ls Rr.ts hu rfl (by rw [show era (.nd pa k' us)=_ from et];exact e1c)
   obtain⟨g1,g2⟩:=yt (w:=hole (.nd pa kk ys)) hu
   have:=st3.inS g1 rfl rfl
   rw [g2] at this
   exact ko.nx F3 H' s4 τ4 σ ⟨_,bs3,this,n1,n2⟩ h4
theorem V9 {f:Str}{c:AT}:∀ {fs:Lh} {xs:List AT} {r:Lh×List T},VW fs (eras xs) f (era c)=some r->∃ zs ws,eras zs=r.2/\(xs++[c]).Perm (zs++ws)/\∀ kvs:List (Str×V),kvs.map (·.1)=fs->kvs.map (·.2)=vals xs->(putF f (val c) kvs).map (·.1)=r.1/\(putF f (val c) kvs).map (·.2)=vals zs
 | [],[],r,h=>by
  cases h
  refine⟨[c],[],rfl,List.Perm.refl _,λkvs h1 _=>?_⟩
  cases kvs with
  | nil=>exact⟨rfl,rfl⟩
  | cons _ _=>cases h1
 | [],_::_,r,h=>by cases h
 | _::_,[],r,h=>by cases h
 | g::fs,x::xs,r,h=>by
  have h:cond (decide (g=f)) (some (g::fs,era c::eras xs)) ((VW fs (eras xs) f (era c)).bind λr=>some (g::r.1,era x::r.2))=some r:=h
  cases hd:decide (g=f) with
  | true=>
   rw [hd] at h
   cases h
   refine⟨c::xs,[x],rfl,(uC (l₁:=x::xs) (l₂:=[c])).trans ((uC (l₁:=[x]) (l₂:=xs)).cons c),λkvs h1 h2=>?_⟩
   cases kvs with
   | nil=>cases h1
   | cons a kvs=>
    simp only [uo,g9,vals] at h1 h2
    obtain⟨g',v'⟩:=a
    have eg:g' = g:=h1.1
    subst eg
    simp only [putF,uw (uy hd),uo,vals,h1.2,h2.2,and_self]
  | false=>
   rw [hd] at h
   obtain⟨r',e,h⟩:=zb h
   cases h
   obtain⟨zs,ws,k1,k2,k3⟩:=V9 e
   refine⟨x::zs,ws,by rw [eras,k1],k2.cons x,λkvs h1 h2=>?_⟩
   cases kvs with
   | nil=>cases h1
   | cons a kvs=>
    simp only [uo,g9,vals] at h1 h2
    obtain⟨g',v'⟩:=a
    obtain⟨f1,f2⟩:=k3 kvs h1.2 h2.2
    have eg:g' = g:=h1.1
    subst eg
    simp only [putF,uv (uL hd),uo,vals]
    exact⟨by rw [f1],by rw [f2,← h2.1]⟩
theorem zeT {t t' o:T}{c:Nat}{f:Str}(h:fldF t c f o=some t'):∃ fs xs r,t=.nd true (.ob c fs) xs/\fs.length<1000/\VW fs xs f o=some r/\t' = .nd true (.ob c r.1) r.2:=by
 unfold fldF at h
 split at h
 ·split at h
  ·rename_i hc
   obtain⟨rfl,hl⟩:=hc
   obtain⟨r,e,h⟩:=zb h
   cases h
   exact⟨_,_,r,rfl,hl,e,rfl⟩
  ·cases h
 ·cases h
theorem zhJ {p e:Xp}{c:Nat}{f:Str}(hc:Cls W.K (W.cl c))(hna:qY W.K (W.cl c) f)(h:S5 W E (WS (.asg (.fld p c f) e)) D σ H):sFld W.K (E5 W E p) (E5 W E e) f D σ H:=by
 obtain⟨F,s,τ,vs,γ,K4,D4,R,h,ko⟩:=h
 refine⟨F,s,τ,vs,γ,_,_,R,h,λF1 H1 s1 x1 τ1 v1 R1 h1=>?_,ko.xk⟩
 refine⟨F1,s1,_,_,γ,_,_,R1,h1,λF2 H2 s2 x2 τ2 v2 R2 h2=>?_,ko.xk.app [v1]⟩
 obtain⟨s4,τ4,e1,h4⟩:=zi h2
 match x2,τ2,e1 with
 | .al i q,.own o::τ5,e1=>
  obtain⟨t,e3,e1a⟩:=zb e1
  obtain⟨t',e4,e1c⟩:=zb e1a
  clear e1 e1a
  obtain⟨fs,xs,r,rfl,hl,e5,rfl⟩:=zeT e4
  obtain⟨as,bs,Rq⟩:=R2
  obtain⟨u,bs',rfl,hu,et,rfl,st,_⟩:=id (Rq.place e3)
  obtain⟨_,bs2,e0,_,_,Rq'⟩:=Rq.uncons
  cases e0
  obtain⟨b,bs3,rfl,m,st',Rr⟩:=Rq'.uncons
  obtain⟨eb,evb⟩:=m
  cases evb
  cases u with
  | lf t0 v0=>
   have hs:=st.ok.1.1
   rw [show t0=_ from et] at hs
   cases hs
  | tp pa ys=>cases et
  | nd pa kk ys=>
   cases et
   rw [← eb] at e5
   obtain⟨zs,ws,k1,k2,k3⟩:=V9 e5
   obtain⟨⟨oo,h1',dx,kvs,rfl,h5,h6⟩,_⟩:=st.ok.1
   obtain⟨f1,f2⟩:=k3 kvs h5 h6
   have st2:St W F2 H2 (.nd pa (.ob c fs) ys::([b]++(setS i q as (hole (.nd pa (.ob c fs) ys))++(bs3++γ)))):=st.perm (List.Perm.cons _ (by exact uH))
   have st3:=st2.mut (k':=.ob c r.1) (o:=.ins (W.cl c) dx (putF f (val b) kvs)) k2 ⟨dx,_,rfl,f1,f2⟩
   have st4:=(st3.perm (uH.symm:(AT.nd pa _ _::(ws++_)).Perm (ws++AT.nd pa _ _::_))).right
   obtain⟨n1,n2⟩:=Z5 (w:=.nd pa (.ob c r.1) zs) Rr.ls Rr.ts hu rfl (by rw [show era (.nd pa (.ob c r.1) zs)=.nd true (.ob c r.1) r.2 by rw [era,k1]];exact e1c)
   obtain⟨g1,g2⟩:=yt (w:=hole (.nd pa (.ob c fs) ys)) hu
   have:=st4.inS g1 rfl rfl
   rw [g2] at this
   refine⟨pa,_,dx,kvs,rfl,h1',hc,hna,by rw [← ue (f:=(·.1)),h5];exact hl,?_⟩
   exact ko.nx F2 _ s4 τ4 σ ⟨_,bs3,this,n1,n2⟩ h4
end L5
namespace L5
open PySem L2 PySem.Spec PyProof.Rows
variable {W:Wd} {E:XS} {F H:Hp} {s τ:Sl} {σ:L2.St} {vs:List V} {γ:List AT} {K K4:KP} {X4:XP} {D:L2.Ends} {D4:Ends}
noncomputable def augI:Op->Int->Int->Int
 | .sub=>λi j=>i - j
 | _=>λi j=>i+j
theorem zc2 {i:Nat}{o:Op}{e:Xp}(ho:o=.add\/o=.sub)(h:S5 W E (WS (.aug i o e)) D σ H):tAug i (E5 W E e) (ipI (augI o)) D σ H:=by
 obtain⟨F,s,τ,vs,γ,K4,D4,R,h,ko⟩:=h
 obtain⟨x,e1,h⟩:=zz h
 obtain⟨t,e2,h⟩:=zz h
 obtain⟨n,e3,h⟩:=zz h
 obtain⟨v,k1,R1⟩:=R.rd e1
 refine⟨v,k1,F,s,_,_,γ,_,_,R1,h,λF' H' s' y τ' u R' h'=>?_,ko.xk.app [v]⟩
 obtain⟨ts,τ2,e4,h2⟩:=zi h'
 obtain⟨z,e5,h3⟩:=zz h2
 obtain⟨m,e6,h4⟩:=zz h3
 obtain⟨s3,τ3,e7,h5⟩:=zi h4
 clear h' h2 h3 h4
 cases τ' with
 | nil=>obtain⟨_,_,e⟩:=zb e4;cases e
 | cons y0 τ'=>
  obtain⟨A,B,rfl,rfl,rfl,hc,rfl⟩:=Zv R' e4
  have fin:∀ {a b:Int},intO (era A)=some a->intO (era B)=some b->z=.int (augI o a b)->ipI (augI o) (val A) (val B) H' λz H2=>D.nx (σ.set i (some z)) H2:=λ{a b} ea eb ez=>by
   subst ez
   refine⟨a,b,zI hc.1 ea,zI hc.2.1 eb,?_⟩
   exact ko.nx F' H' s3 τ3 _ ((R'.pop.pop.leaf (t:=.int (augI o a b)) (v:=.int (augI o a b)) rfl rfl).setTop e7) h5
  rcases ho with rfl | rfl
  ·have e5:oAdd [era A,era B]=some z:=e5
   rcases zN e5 with e5 | e5
   ·obtain⟨a,b,ea,eb,ez⟩:=zt e5
    exact fin ea eb (uG ez).symm
   ·exfalso
    cases z<;>first | cases e6 | skip
    rcases zN e5 with e5 | e5
    ·obtain⟨_,_,_,_,ez⟩:=zt e5
     obtain⟨_,ez⟩:=qx ez;cases ez
    ·rcases zN e5 with e5 | e5
     ·obtain⟨_,_,_,_,ez⟩:=zt e5
      obtain⟨_,ez⟩:=qx ez;cases ez
     ·obtain⟨_,_,_,_,ez⟩:=zt e5
      obtain⟨_,ez⟩:=qx ez;cases ez
  ·have e5:int2 _ [era A,era B]=some z:=e5
   obtain⟨a,b,ea,eb,ez⟩:=zt e5
   exact fin ea eb (uG ez).symm
theorem KO.whole {vs':List V}{us:List AT}{o:Option T}{K5:KP}{D5:Ends}{D':L2.Ends}(ko:KO W E vs γ K4 D4 D)(l:V4 o us vs vs')(nx:∀ F' H' s' τ' σ',Rep W F' H' s' τ' σ' vs' (us++γ)->K5 s' τ'->D'.nx σ' H')(ct:∀ F' H' s' τ' σ',Rep W F' H' s' τ' σ' vs' (us++γ)->D5.ct s' τ'->D'.ct σ' H')
  (e1:D5.rt=λr s τ=>bnd2 (unS o s τ) (D4.rt r)) (e2:D5.bk=λs τ=>bnd2 (unS o s τ) K4) (e3:D5.ex=D4.ex) (e4:D'.rt=D.rt) (e5:D'.bk=D.nx):KO W E vs' (us++γ) K5 D5 D':=by
 refine⟨nx,λF' H' s' τ' σ' t v R h=>?_,λF' H' s' τ' σ' R h=>?_,ct,λx F' H' s' τ' σ' ws c d R hx h=>?_⟩
 ·rw [e1] at h
  rw [e4]
  obtain⟨s2,τ2,e,h⟩:=zi h
  obtain⟨b,rfl,rfl,_,R2⟩:=R.opened
  obtain⟨Γ,st,back⟩:=R2.all
  have R3:Rep W F' H' s' τ' σ' vs' (us++(b::γ)):=back (st.perm (UN _ uH.symm))
  exact ko.rt F' H' s2 τ2 σ' _ _ (R3.unlend l e).push h
 ·rw [e2] at h
  rw [e5]
  obtain⟨s2,τ2,e,h⟩:=zi h
  exact ko.nx F' H' s2 τ2 σ' (R.unlend l e) h
 ·rw [e3] at h
  rcases l with⟨rfl,rfl⟩ | ⟨u,rfl,rfl,rfl⟩
  ·exact ko.ex x F' H' s' τ' σ' ws c d R.dropG hx h
  ·exact ko.ex x F' H' s' τ' σ' (ws++[val u]) c d (by rw [ud];exact R.dropG) hx h
noncomputable def tgR (W:Wd):Tg->TG
 | .v i=>vn i
 | .tup is=>gNs W is
 | _=>λ_ _ _ _=>False
theorem zeU {t:Tg}{d:T}{x:V}{Q:L2.St->Hp->Prop}(R:Rep W F H s τ σ vs γ)(hs:shr d=true)(hd:IsV W F d x)(h:zaa t d s τ K)(q:∀ s' τ' σ',Rep W F H s' τ' σ' vs γ->K s' τ'->Q σ' H):tgR W t x σ H Q:=by
 cases t with
 | v i=>
  obtain⟨s',τ',e,h⟩:=zi h
  exact q s' τ' _ ((R.leaf hs hd).setTop e) h
 | tup is=>
  obtain⟨ds,e1,h⟩:=zz h
  obtain⟨s',τ',e,h⟩:=zi h
  exact V6 (R.leaf hs hd) e1 e λσ' R'=>q s' τ' σ' R' h
 | sub _ _=>exact h.elim
 | fld _ _ _=>exact h.elim
theorem zeV {t:Tg}{k:IK}{its:List Xp}{b:List Cm}(h:S5 W E (WS (.loop t k its b)) D σ H):tFor (I5 W E k its) (tgR W t) (S5 W E (WSs b)) D σ H:=by
 obtain⟨F,s,τ,vs,γ,K4,D4,R,h,ko⟩:=h
 refine⟨F,s,τ,vs,γ,_,_,R,h,λds o s1 τ1 F1 H1 J us vs' it lv R1 h1=>?_,ko.xk⟩
 let I:Nat->Nat->L2.St->Hp->Prop:=λi m σ' H'=>m=ds.length - i/\i<=ds.length/\∃ F' s' τ',Rep W F' H' s' τ' σ' vs' (us++γ)/\Z7 t o (WSs b) K4 D4 (ds.drop i) s' τ'
 refine⟨I,⟨ds.length,by lia,uE _,F1,s1,τ1,R1,h1⟩,λi m σ' H' hI=>?_⟩
 obtain⟨rfl,hle,F',s',τ',R2,hp⟩:=hI
 obtain⟨Γ,st,back⟩:=id R2.all
 have oku:OKs W F' H' us:=by
  rw [ud] at st
  exact st.left
 by_cases hlt:i<ds.length
 ·refine .inr ⟨it.go i F' H' hlt st.fh oku,I (i+1) (ds.length - (i+1)),λσ2 H2 z=>⟨_,by lia,z⟩,λx H2 y=>?_⟩
  obtain⟨d,ed,hd⟩:=it.yld i F' H' x H2 hlt st.fh oku y
  obtain⟨F2,st2,iv⟩:=hd _ st
  have R3:Rep W F2 H2 s' τ' σ' vs' (us++γ):=back st2
  have edr:ds.drop i=d::ds.drop (i+1):=by
   rw [Um hlt]
   rw [uu hlt] at ed
   cases ed
   rfl
  rw [edr] at hp
  refine zeU R3 (z7.mp it.sh d (uK ed)) iv hp λs4 τ4 σ4 R4 h4=>⟨F2,s4,τ4,vs',us++γ,_,_,R4,h4,ko.whole lv (λF5 H5 s5 τ5 σ5 R5 h5=>?_) (λF5 H5 s5 τ5 σ5 R5 h5=>?_) rfl rfl rfl rfl rfl⟩
  ·exact⟨rfl,by lia,F5,s5,τ5,R5,h5⟩
  ·exact⟨rfl,by lia,F5,s5,τ5,R5,h5⟩
 ·have hi':i=ds.length:=by lia
  subst hi'
  rw [List.drop_length] at hp
  obtain⟨s4,τ4,e4,h4⟩:=zi hp
  exact .inl ⟨it.stop F' H' st.fh oku,ko.nx F' H' s4 τ4 σ' (R2.unlend lv e4) h4⟩
theorem zhK {t:Xp}{b:List Cm}(h:S5 W E (WS (.whl t b)) D σ H):zbR (T5 W E t) (S5 W E (WSs b)) D σ H:=by
 obtain⟨F,s,τ,vs,γ,K4,D4,R,⟨m0,h⟩,ko⟩:=h
 let I:Nat->L2.St->Hp->Prop:=λm σ' H'=>∃ F' s' τ',Rep W F' H' s' τ' σ' vs γ/\W0 (λs τ K=>WT t s τ K D4.ex) (WSs b) K4 D4 m s' τ'
 refine⟨I,⟨m0,F,s,τ,R,h⟩,λm σ' H' hI=>?_⟩
 obtain⟨F',s',τ',R2,hp⟩:=hI
 cases m with
 | zero=>exact hp.elim
 | succ m=>
  refine⟨F',s',τ',vs,γ,_,_,R2,hp,λz F1 H1 s1 τ1 R3 h3=>?_,ko.xk⟩
  rcases j7 h3 with⟨rfl,h3⟩ | ⟨rfl,h3⟩
  ·rw [uw rfl]
   exact⟨I m,λσ2 H2 z=>⟨m,UQ m,z⟩,F1,s1,τ1,vs,γ,_,_,R3,h3,λF5 H5 s5 τ5 σ5 R5 h5=>⟨F5,s5,τ5,R5,h5⟩,ko.rt,ko.nx,λF5 H5 s5 τ5 σ5 R5 h5=>⟨F5,s5,τ5,R5,h5⟩,ko.ex⟩
  ·rw [uv (by decide)]
   exact ko.nx F1 H1 s1 τ1 σ' R3 h3
end L5
namespace L5
open PySem L2 PySem.Spec PyProof.Rows
variable {W:Wd} {E:XS} {F H:Hp} {s τ:Sl} {σ:L2.St} {vs:List V} {γ:List AT} {K K4:KP} {X4:XP} {D:L2.Ends} {D4:Ends} {Q:VK} {v:V}
theorem St.nils {γ:List AT}(h:St W F H γ):∀ n:Nat,St W F H (List.replicate n nilA++γ)
 | 0=>h
 | n+1=>(h.nils n).nil
end L5
namespace L5
open PySem L2 PySem.Spec PyProof.Rows
variable {W:Wd} {F H:Hp} {Γ:List AT} {Q:VK}
theorem zeW:bootBuiltins "dict" = some (.type "dict"):=by decide +kernel
theorem key_is {k:T}{key:Key}{v:V}(h:IsV W F k v)(e:keyO k=some key):v=kV key:=by
 unfold keyO at e
 split at e
 ·cases e;exact h.1
 ·cases e;exact h
 ·cases e
theorem Yb:∀ {xs:List T} {vs:List V} {ps:List (Key×T)},IsVs W F xs vs->kR xs=some ps->shrs xs=true ->
  ∃ (as:Ld) (kvs:List (Key×V)),vs=as.map V.ref/\as.length=kvs.length/\(∀ (i:Nat) (a:Addr),as[i]? = some a->∃ kv:Key×V,kvs[i]? = some kv/\F a=some (.tup [kV kv.1,kv.2])) /\
   kvs.map (·.1)=ps.map (·.1)/\IsVs W F (ps.map (·.2)) (kvs.map (·.2))/\shrs (ps.map (·.2))=true
 | [],_,_,h,e,_=>by
  cases e
  rw [show _=[] from h]
  exact⟨[],[],rfl,rfl,λi a z=>by simp at z,rfl,rfl,rfl⟩
 | d::ds,_,_,⟨v,r,e0,h1,h2⟩,e,s=>by
  obtain⟨p,ps,e1,e2,e⟩:=zt e
  cases e
  obtain⟨s1,s2⟩:=uF.mp s
  obtain⟨as,kvs,r1,r2,r3,r4,r5,r6⟩:=Yb h2 e2 s2
  unfold zfH at e1
  split at e1
  ·rename_i k x
   obtain⟨key,e3,e1⟩:=zb e1
   cases e1
   obtain⟨a,us,rfl,ha,v1,u1,rfl,hk,v2,u2,rfl,hx,z⟩:=h1
   cases (show u2=[] from z)
   rw [key_is hk e3] at ha
   obtain⟨_,s3⟩:=uF.mp s1
   obtain⟨s3,_⟩:=uF.mp s3
   refine⟨a::as,(key,v2)::kvs,by rw [e0,r1];rfl,congrArg (· + 1) r2,λi b e=>?_,congrArg _ r4,⟨_,_,rfl,hx,r5⟩,uF.mpr ⟨s3,r6⟩⟩
   cases i with
   | zero=>cases e;exact⟨_,rfl,ha⟩
   | succ i=>exact r3 i b (by simpa using e)
  ·cases e1
theorem W9:∀ {ps:List (Key×T)} {kvs old:List (Key×V)} {r:List Key×List T},kvs.map (·.1)=ps.map (·.1)->IsVs W F (ps.map (·.2)) (kvs.map (·.2))->shrs (ps.map (·.2))=true ->
  old.map (·.1)=r.1->IsVs W F r.2 (old.map (·.2))->shrs r.2=true ->
  (wW old kvs).map (·.1)=(jd ps r).1/\IsVs W F (jd ps r).2 ((wW old kvs).map (·.2))/\shrs (jd ps r).2=true
 | [],[],_,_,_,_,_,o1,o2,o3=>⟨o1,o2,o3⟩
 | p::ps,kv::kvs,old,r,h1,⟨v,u,e,h2,h3⟩,s,o1,o2,o3=>by
  obtain⟨s1,s2⟩:=uF.mp s
  cases e
  obtain⟨e1,e2⟩:=UG h1
  obtain⟨k,w⟩:=kv
  cases (show k=p.1 from e1)
  obtain⟨d1,d2⟩:=zax (k:=p.1) o1 o2 h2
  exact W9 (old:=putK old p.1 w) (r:=dput r.1 r.2 p.1 p.2) e2 h3 s2 d1 d2 (zay o3 s1)
theorem zhL {kvs:List (Key×V)}{ts:List T}(st:St W F H Γ)(q:∀ F' H' w,St W F' H' (w::Γ)->era w=.nd true (.dc (kvs.map (·.1))) ts->Q (val w) H')(s:shrs ts=true)(i:IsVs W F ts (kvs.map (·.2))):∀ p,H p=none->Q (.ref p) (upd H p (.dK kvs)):=λp hp=>by
 obtain⟨h1,h2,h3⟩:=st.leaves i s
 have:=h1.node (k:=.dc (kvs.map (·.1))) (o:=.dK kvs) hp ⟨kvs,rfl,rfl,h3.symm⟩
 exact q _ _ _ this (congrArg _ h2)
theorem zeX:BiOk W "dict" zfI:=λX e es t p pos hK hc hm ha hg hs h=>kc (xA (Y6 hc) λxs H Q h=>by
 obtain⟨F,a,Γ,z,g,ha,rfl,e,st,q⟩:=rN1 h (λ_=>nofun) (λ_ _ _ _=>nofun)
 obtain⟨xs,e1,e⟩:=zb e
 obtain⟨ps,e2,e⟩:=zb e
 obtain⟨hz,rfl⟩:=qx e
 obtain⟨e1,s⟩:=Kc e1
 obtain⟨p,vs,k1,k2,k3⟩:=W4 g ha e1
 obtain⟨as,kvs,rfl,r2,r3,r4,r5,r6⟩:=Yb (k3.sh s) e2 s
 obtain⟨m1,m2,m3⟩:=W9 (old:=[]) (r:=([],[])) r4 r5 r6 rfl rfl rfl
 refine⟨p,as,kvs,by rw [k1],SqL.of k2,r2,λi b e=>?_,?_,zhL st (λF' H' w z1 z2=>q F' H' w z1 ?_) m3 m2⟩
 ·obtain⟨kv,f1,f2⟩:=r3 i b e
  exact⟨kv,f1,SqT.of (g _ _ f2)⟩
 ·have:kvs.length=ps.length:=by rw [← ue (f:=(·.1)),r4,ue]
  rw [this,sizeLine_eq];exact hz
 ·rw [z2,m1];rfl) hg hm zeW ha (by decide) (by decide) hs h
theorem zc3:∀ {kvs:List (Key×V)} {ts:List T} {ds:List Dat},IsVs W H ts (kvs.map (·.2))->jD ts=some ds->(ds.all λd=>decide (depD d<=50))=true->DtV H kvs ds
 | [],[],_,_,e,_=>by cases e;rfl
 | [],_::_,_,⟨_,_,z,_⟩,_,_=>by cases z
 | _::_,[],_,h,_,_=>by cases h
 | kv::kvs,t::ts,_,⟨v,r,e0,h1,h2⟩,e,s=>by
  obtain⟨d,ds,e1,e2,e⟩:=zt e
  cases e
  cases e0
  rw [Ur] at s
  obtain⟨s1,s2⟩:=uF.mp s
  exact⟨d,ds,rfl,uy s1,QR h1 e1,zc3 h2 e2 s2⟩
theorem dct_is {x:T}{v:V}{d:List Key×List T}{ds:List Dat}(hx:IsV W H x v)(e:dcO x=some d)(k:dtsO d.2=some ds):∃ p kvs,v=.ref p/\H p=some (.dK kvs)/\kvs.map (·.1)=d.1/\DtV H kvs ds:=by
 obtain⟨o,rfl⟩:=Z9 e
 obtain⟨p,vs,q,h1,h2,⟨kvs,rfl,h3,rfl⟩,_,h4⟩:=hx
 obtain⟨es,e1,e2⟩:=zb k
 obtain⟨c,e2⟩:=qx e2
 cases e2
 exact⟨p,kvs,h1,h2,h3,zc3 h4 e1 c⟩
theorem zeY (n:Bool)(o:CmpOp)(op:∀ X:Cx,X.A.units+64<cLine->OpR X (compareOp o) λx y H Q=>∃ a b ka kb ds es,x=.ref a/\y=.ref b/\H a=some (.dK ka)/\H b=some (.dK kb)/\DtV H ka ds/\DtV H kb es/\Q (.bl (cond n (!eqDc (ka.map (·.1)) ds (kb.map (·.1)) es) (eqDc (ka.map (·.1)) ds (kb.map (·.1)) es))) H):xw W o (xu eqdO n):=λX _ hu=>jE (op X hu) λx y H Q h=>by
 obtain⟨F,a,b,Γ,z,g,ha,hb,rfl,rfl,e,st,q⟩:=yo h
 obtain⟨k,e',rfl⟩:=xy e
 obtain⟨d1,d2,e1,e2,e3⟩:=zt e'
 obtain⟨x1,x2,e4,e5,e6⟩:=zt e3
 cases e6
 obtain⟨p,ka,f1,f2,f3,f4⟩:=dct_is (ha.now g) e1 e4
 obtain⟨p',kb,g1,g2,g3,g4⟩:=dct_is (hb.now g) e2 e5
 refine⟨p,p',ka,kb,x1,x2,f1,g1,f2,g2,f4,g4,?_⟩
 rw [f3,g3]
 exact fin_bl st q
theorem zhM:xw W .NotEq oNed:=zeY true .NotEq λX hu=>zex hu
end L5
namespace L5
open PySem L2 PySem.Spec PyProof.Rows
noncomputable def chkC:T->Const->Bool
 | .non,.none=>true
 | .bl b,.bool c=>b == c
 | .int i,.int j=>i == j
 | .str t,.str x=>decide (x=S t)&&decide (t.length<=16777216)
 | _,_=>false
noncomputable def eName:Expr->Option Str
 | .Name x _=>some x
 | _=>none
noncomputable def eCon:Expr->Option (Const×Nat×Pos)
 | .Constant k j p=>some (k,j,p)
 | _=>none
noncomputable def eBin:Expr->Option (Expr×Operator×Expr)
 | .BinOp a o b _=>some (a,o,b)
 | _=>none
noncomputable def eUn:Expr->Option (UnaryOp×Expr)
 | .UnaryOp o a _=>some (o,a)
 | _=>none
noncomputable def eCmp:Expr->Option (Expr×List CmpOp×Lg)
 | .Compare a os bs _=>some (a,os,bs)
 | _=>none
noncomputable def eBo:Expr->Option (BoolOp×Lg)
 | .BoolOp o es _=>some (o,es)
 | _=>none
noncomputable def eIf:Expr->Option (Expr×Expr×Expr)
 | .IfExp t a b _=>some (t,a,b)
 | _=>none
noncomputable def eLst:Expr->Option (Lg)
 | .List es _=>some es
 | _=>none
noncomputable def eTup:Expr->Option (Lg)
 | .Tuple es _ _=>some es
 | _=>none
noncomputable def eSub:Expr->Option (Expr×Expr)
 | .Subscript a b _=>some (a,b)
 | _=>none
noncomputable def eSli:Expr->Option (Option Expr×Option Expr×Option Expr)
 | .Slice a b c _=>some (a,b,c)
 | _=>none
noncomputable def zc4:Expr->Option (Expr×Lg×List Keyword×Pos)
 | .Call f es ks p=>some (f,es,ks,p)
 | _=>none
noncomputable def eAtt:Expr->Option (Expr×Str×Pos)
 | .Attribute e x p=>some (e,x,p)
 | _=>none
noncomputable def eLc:Expr->Option (Expr×List Comprehension×Scope)
 | .ListComp e gs sc _=>some (e,gs,sc)
 | _=>none
noncomputable def eD0:Expr->Bool
 | .Dict [] [] _=>true
 | _=>false
theorem JE {e:Expr}{x:Str}(h:eName e=some x):∃ p,e=.Name x p:=by cases e<;>first | exact zJ h | (cases h;exact⟨_,rfl⟩)
theorem XN {e:Expr}{x:Const×Nat×Pos}(h:eCon e=some x):e=.Constant x.1 x.2.1 x.2.2:=by cases e<;>first | exact zJ h | (cases h;rfl)
theorem zeZ {e:Expr}{x:Expr×Operator×Expr}(h:eBin e=some x):∃ p,e=.BinOp x.1 x.2.1 x.2.2 p:=by cases e<;>first | exact zJ h | (cases h;exact⟨_,rfl⟩)
theorem Kj {e:Expr}{x:UnaryOp×Expr}(h:eUn e=some x):∃ p,e=.UnaryOp x.1 x.2 p:=by cases e<;>first | exact zJ h | (cases h;exact⟨_,rfl⟩)
theorem XO {e:Expr}{x:Expr×List CmpOp×Lg}(h:eCmp e=some x):∃ p,e=.Compare x.1 x.2.1 x.2.2 p:=by cases e<;>first | exact zJ h | (cases h;exact⟨_,rfl⟩)
theorem zc5 {e:Expr}{x:BoolOp×Lg}(h:eBo e=some x):∃ p,e=.BoolOp x.1 x.2 p:=by cases e<;>first | exact zJ h | (cases h;exact⟨_,rfl⟩)
theorem zhN {e:Expr}{x:Expr×Expr×Expr}(h:eIf e=some x):∃ p,e=.IfExp x.1 x.2.1 x.2.2 p:=by cases e<;>first | exact zJ h | (cases h;exact⟨_,rfl⟩)
theorem ze0 {e:Expr}{x:Lg}(h:eLst e=some x):∃ p,e=.List x p:=by cases e<;>first | exact zJ h | (cases h;exact⟨_,rfl⟩)
theorem QW {e:Expr}{x:Lg}(h:eTup e=some x):∃ k p,e=.Tuple x k p:=by cases e<;>first | exact zJ h | (cases h;exact⟨_,_,rfl⟩)
theorem XQ {e:Expr}{x:Expr×Expr}(h:eSub e=some x):∃ p,e=.Subscript x.1 x.2 p:=by cases e<;>first | exact zJ h | (cases h;exact⟨_,rfl⟩)
theorem ze1 {e:Expr}{x:Option Expr×Option Expr×Option Expr}(h:eSli e=some x):∃ p,e=.Slice x.1 x.2.1 x.2.2 p:=by cases e<;>first | exact zJ h | (cases h;exact⟨_,rfl⟩)
theorem Yc {e:Expr}{x:Expr×Lg×List Keyword×Pos}(h:zc4 e=some x):e=.Call x.1 x.2.1 x.2.2.1 x.2.2.2:=by cases e<;>first | exact zJ h | (cases h;rfl)
theorem XR {e:Expr}{x:Expr×Str×Pos}(h:eAtt e=some x):e=.Attribute x.1 x.2.1 x.2.2:=by cases e<;>first | exact zJ h | (cases h;rfl)
theorem zc6 {e:Expr}{x:Expr×List Comprehension×Scope}(h:eLc e=some x):∃ p,e=.ListComp x.1 x.2.1 x.2.2 p:=by cases e<;>first | exact zJ h | (cases h;exact⟨_,rfl⟩)
theorem zk {α:Type}{o:Option α}{f:α->Bool}(h:o.any f=true):∃ x,o=some x/\f x=true:=by
 cases o with
 | none=>cases h
 | some x=>exact⟨x,rfl,h⟩
noncomputable def one? {α:Type}:List α->Option α
 | [a]=>some a
 | _=>none
noncomputable def two? {α:Type}:List α->Option (α×α)
 | [a,b]=>some (a,b)
 | _=>none
theorem Zw {α:Type}{l:List α}{a:α}(h:one? l=some a):l=[a]:=by
 match l,h with
 | [_],h=>cases h;rfl
theorem XT {α:Type}{l:List α}{a:α×α}(h:two? l=some a):l=[a.1,a.2]:=by
 match l,h with
 | [_,_],h=>cases h;rfl
noncomputable def when (b:Bool){α:Type}(x:α):Option α:=cond b (some x) none
theorem jr {b:Bool}{α:Type}{x y:α}(h:when b x=some y):b=true/\x=y:=by
 cases b with
 | true=>exact⟨rfl,uG h⟩
 | false=>cases h
theorem zd {a b:Bool}(h:(a&&b)=true):a=true/\b=true:=uF.mp h
theorem dec_is {p:Prop} [Decidable p](h:decide p=true):p:=uy h
structure Sy where
 N:Lh
 sc:Scope
 cm:Bool
noncomputable def eDs:Expr->Option (List (Option Expr)×Lg)
 | .Dict ks vs _=>some (ks,vs)
 | _=>none
theorem zhO {e:Expr}{x:List (Option Expr)×Lg}(h:eDs e=some x):∃ p,e=.Dict x.1 x.2 p:=by cases e<;>first | exact zJ h | (cases h;exact⟨_,rfl⟩)
noncomputable def zc7:List (Lc×T)->List (Option Expr)->Lg->Bool
 | [],ks,vs=>ks.isEmpty&&vs.isEmpty
 | p::d,ks,vs=>match ks,vs with
  | some k::ks,v::vs=>(eCon k).any (λc=>chkC (.str p.1) c.1)&&((eCon v).any (λc=>chkC p.2 c.1)&&zc7 d ks vs)
  | _,_=>false
noncomputable def muN:MU->Str
 | .append=>"append"
 | .extend=>"extend"
 | .pop=>"pop"
 | .insert=>"insert"
 | .popI=>"pop"
noncomputable def muAr:MU->Nat
 | .append=>1
 | .extend=>1
 | .popI=>1
 | _=>0
noncomputable def chkV (Y:Sy)(i:Nat)(e:Expr):Bool:=(eName e).any λx=>decide (Y.N[i]? = some x)&&vis Y.sc x&&okN x
noncomputable def JF (sc:Scope)(x:Str)(e:Expr):Bool:=(eName e).any λy=>decide (y=x)&&glb sc y
noncomputable def zc8 (sc:Scope):List TyK->Lg->Bool
 | [],es=>es.isEmpty
 | k::ks,es=>match es with
  | e::es=>JF sc (tyN k) e&&zc8 sc ks es
  | []=>false
noncomputable def gen? (gs:List Comprehension):Option (Expr×Expr×Lg):=match gs with
 | [⟨t,i,fs,0⟩]=>some (t,i,fs)
 | _=>none
theorem zc9 {gs:List Comprehension}{x:Expr×Expr×Lg}(h:gen? gs=some x):gs=[⟨x.1,x.2.1,x.2.2,0⟩]:=by
 unfold gen? at h
 split at h
 ·cases h;rfl
 ·cases h
noncomputable def lcG (Y:Sy)(scope:Scope)(xs:Lh):Bool:=
 decide ((xs++Y.N.map (renL xs)).Nodup)&&(decide (scope.kind=.function)&&(decide (∀ y∈scope.names,y.2≠.cell)&&(decide (∀ y∈scope.names,y.2=.local->scope.names.lookup y.1=some .local)&&(decide (∀ x∈xs,scope.names.lookup x=some .local)
  && (decide (∀ y∈scope.names,y.2=.free->Y.sc.names.lookup y.1=some .cell)&&(decide (∀ y∈Y.N.map (renL xs),scope.names.lookup y≠some .local)&&decide (scope.names.lookup (Str.ofString "")=none)))))))
noncomputable def ikN:IK->Str
 | .seq=>""
 | .rng=>"range"
 | .enumS=>"enumerate"
noncomputable def ikAr:IK->Nat->Bool
 | .rng,n=>n == 1||n == 2
 | _,n=>n == 1
noncomputable def Qa (e:Expr):Bool:=(eTup e).isSome
noncomputable def bop:Op->Option Operator
 | .add=>some .Add
 | .sub=>some .Sub
 | .mul=>some .Mult
 | .fdiv=>some .FloorDiv
 | .mod=>some .Mod
 | .pow=>some .Pow
 | _=>none
noncomputable def cop:Op->Option CmpOp
 | .eq=>some .Eq
 | .ne=>some .NotEq
 | .lt=>some .Lt
 | .le=>some .LtE
 | .gt=>some .Gt
 | .ge=>some .GtE
 | .isin=>some .In
 | .notin=>some .NotIn
 | .is=>some .Is
 | .isnot=>some .IsNot
 | .ned=>some .NotEq
 | _=>none
noncomputable def bnm:Op->Option Str
 | .len=>some "len"
 | .int=>some "int"
 | .tuple=>some "tuple"
 | .all=>some "all"
 | .dict=>some "dict"
 | _=>none
noncomputable def Qt (sc:Scope)(x:Str)(e:Expr):Option (Lg):=(zc4 e).bind λp=>when (JF sc x p.1&&(p.2.2.1.isEmpty&&noSt p.2.1)) p.2.1
noncomputable def Xa (x:Str)(e:Expr):Option (Expr×Lg):=(zc4 e).bind λp=>(eAtt p.1).bind λq=>when (decide (q.2.1=x)&&((q.2.2.endLine == p.2.2.2.line)&&(p.2.2.1.isEmpty&&(noSt p.2.1&&decide (p.2.1.length<30))))) (q.1,p.2.1)
noncomputable def otA (Y:Sy)(e:Expr):Op->Option (Lg)
 | .neg=>(eUn e).bind λp=>when (decide (p.1=.USub)) [p.2]
 | .sl lo hi=>(eSub e).bind λp=>(eSli p.2).bind λq=>when (q.2.2.isNone&&(q.1.isSome == lo&&q.2.1.isSome == hi)) (p.1::(q.1.toList++q.2.1.toList))
 | .isi ks=>(Qt Y.sc "isinstance" e).bind λxs=>(two? xs).bind λq=>when ((one? ks).any (λk=>JF Y.sc (tyN k) q.2)||(decide (ks.length<=100)&&(eTup q.2).any λes=>zc8 Y.sc ks es)) [q.1]
 | .kget x _=>(Xa "get" e).bind λq=>when (JF Y.sc x q.1&&decide (q.2.length=2)) q.2
 | _=>none
noncomputable def opA (Y:Sy)(e:Expr)(o:Op):Option (Lg):=
 orO ((bop o).bind λq=>(eBin e).bind λp=>when (decide (p.2.1=q)) [p.1,p.2.2])
  (orO ((cop o).bind λq=>(eCmp e).bind λp=>(one? p.2.2).bind λb=>when (decide (p.2.1=[q])&&!behindInMarks q b) [p.1,b])
   (orO ((bnm o).bind λx=>(Qt Y.sc x e).bind λxs=>when (Y.cm&&!xs.isEmpty) xs) (otA Y e o)))
noncomputable def cmpA (e:Expr)(o:Op):Option (Lg):=(cop o).bind λq=>(eCmp e).bind λp=>(one? p.2.2).bind λb=>when (decide (p.2.1=[q])&&!behindInMarks q b) [p.1,b]
noncomputable def chnA (e:Expr)(o1 o2:Op):Option (Expr×Expr×Expr):=(eCmp e).bind λp=>(two? p.2.2).bind λq=>(cop o1).bind λc1=>(cop o2).bind λc2=>when (decide (p.2.1=[c1,c2])&&!lastMarks [c1,c2] [q.1,q.2]) (p.1,q.1,q.2)
noncomputable def hdA (Y:Sy)(e:Expr):Hd->Option (Lg)
 | .fn x=>Qt Y.sc x e
 | .mk _ x=>Qt Y.sc x e
 | .mt _ x=>(Xa x e).bind λq=>when (qS q.1&&!star q.1) (q.1::q.2)
noncomputable def itA (Y:Sy)(k:IK)(e:Expr)(tup:Bool):Option (Lg):=match k with
 | .seq=>some [e]
 | k=>(Qt Y.sc (ikN k) e).bind λxs=>when ((tup||decide (k=.rng))&&ikAr k xs.length) xs
mutual
noncomputable def chkE (Y:Sy):Xp->Expr->Bool
 | .v i=>λe=>chkV Y i e
 | .m i=>λe=>chkV Y i e
 | .c t=>λe=>(eCon e).any λk=>chkC t k.1
 | .g x _=>λe=>JF Y.sc x e
 | .fz a=>λe=>chkE Y a e
 | .ap o es=>λe=>(opA Y e o).any λxs=>ya Y es xs
 | .me m o es=>λe=>(Xa (meN m) e).any λq=>qS q.1&&(!q.2.isEmpty&&(chkE Y o q.1&&ya Y es q.2))
 | .chn o1 o2 a b c=>λe=>(chnA e o1 o2).any λx=>chkE Y a x.1&&(chkE Y b x.2.1&&chkE Y c x.2.2)
 | .bo k es=>λe=>(eBo e).any λp=>decide (p.1=if k then .And else .Or)&&(!es.isEmpty&&ya Y es p.2)
 | .not a=>λe=>(eUn e).any λp=>decide (p.1=.Not)&&chkE Y a p.2
 | .t _=>λ_=>false
 | .tn _=>λ_=>false
 | .tb _ _=>λ_=>false
 | .ife t a b=>λe=>(eIf e).any λp=>chkT Y t p.1&&(chkE Y a p.2.1&&chkE Y b p.2.2)
 | .lst es=>λe=>(eLst e).any λp=>noSt p&&(decide (p.length<=1000)&&ya Y es p)
 | .tup es=>λe=>(eTup e).any λp=>noSt p&&(decide (p.length<=1000)&&ya Y es p)
 | .dct=>λe=>eD0 e
 | .dsp d=>λe=>!d.isEmpty&&(decide (d.length<=15)&&(decide ((d.map (·.1)).Nodup)&&(eDs e).any λp=>zc7 d p.1 p.2))
 | .dg a k w=>λe=>(Xa "get" e).any λq=>qS q.1&&(two? q.2).any λr=>chkE Y a q.1&&(chkE Y k r.1&&chkE Y w r.2)
 | .tpl a=>λe=>Y.cm&&(Qt Y.sc "tuple" e).any λxs=>(one? xs).any λx=>chkE Y a x
 | .ix a k=>λe=>(eSub e).any λp=>QO p.2&&(chkE Y a p.1&&chkE Y k p.2)
 | .at a _ f=>λe=>(eAtt e).any λp=>decide (p.2.1=f)&&(qS p.1&&chkE Y a p.1)
 | .call h _ _ es=>λe=>Y.cm&&(hdA Y e h).any λxs=>ya Y es xs
 | .mu m o es=>λe=>(Xa (muN m) e).any λq=>decide (m≠.insert)&&(qS q.1&&(decide (q.2.length=muAr m)&&(chkE Y o q.1&&ya Y es q.2)))
 | .lc elt n k its ifs=>λe=>(eLc e).any λp=>(gen? p.2.1).any λg=>Y.cm&&(zcs g.2.1&&(decide (g.2.2.length<=1)&&((itA Y k g.2.1 (Qa g.1)).any (λxs=>ya Y its xs) &&
   (tgN g.1).any λq=>decide (q.2.length=n)&&(decide (q.1=decide (n≠1))&&(lcG Y p.2.2 q.2&&(chkE ⟨q.2++Y.N.map (renL q.2),relS p.2.2 Y.sc,true⟩ elt p.1&&zaz ⟨q.2++Y.N.map (renL q.2),relS p.2.2 Y.sc,true⟩ ifs g.2.2))))))
noncomputable def ya (Y:Sy):List Xp->Lg->Bool
 | []=>λes=>es.isEmpty
 | c::cs=>λes=>match es with
  | e::es=>chkE Y c e&&ya Y cs es
  | []=>false
noncomputable def chkT (Y:Sy):Xp->Expr->Bool
 | .t a=>λe=>plainT e&&chkE Y a e
 | .tn a=>λe=>(eUn e).any λp=>decide (p.1=.Not)&&chkT Y a p.2
 | .tb k es=>λe=>(eBo e).any λp=>decide (p.1=if k then .And else .Or)&&(!es.isEmpty&&zaz Y es p.2)
 | .ap o es=>λe=>(cmpA e o).any λxs=>ya Y es xs
 | .chn o1 o2 a b c=>λe=>(chnA e o1 o2).any λx=>chkE Y a x.1&&(chkE Y b x.2.1&&chkE Y c x.2.2)
 | _=>λ_=>false
noncomputable def zaz (Y:Sy):List Xp->Lg->Bool
 | []=>λes=>es.isEmpty
 | c::cs=>λes=>match es with
  | e::es=>chkT Y c e&&zaz Y cs es
  | []=>false
end
variable (W:Wd)
noncomputable def zaA:Op->Prop
 | .isi ks=>W.mg "isinstance" = none/\∀ k∈ks,W.mg (tyN k)=none
 | .kget x d=>KGet W x d
 | o=>match bnm o with
  | some x=>W.mg x=none
  | none=>True
def GlV (x:Str)(t:T):Prop:=shr t=true/\∃ v,(∀ F:Hp,IsV W F t v)/\∃ u,W.mg x=some u/\RelV v u
structure OkMt (k:Nat)(C:Addr)(m:Str)(ps:Lh)(sp:Sp):Prop where
 ex:∃ (f:Addr) (fd:FuncData),Cls W.K C/\Meth W.K C m f/\Binds W.K fd ps []/\FnOk W.P W.w W.K W.mg W.base (CXE W.P W.w) k f fd ps sp
structure OkMk (k:Nat)(C:Addr)(x:Str)(ps:Lh)(sp:Sp):Prop where
 ex:∃ (f:Addr) (fd:FuncData),Mk W.K C f/\Binds W.K fd ps []/\W.mg x=some (.ref C)/\FnOk W.P W.w W.K W.mg W.base (CXE W.P W.w) k f fd ps sp
variable (k:Nat)
noncomputable def zjl:Hd->List Md->Fn->Prop
 | .fn x,ms,f=>∃ k' ps,k'<=k/\OkX W.P W.w W.K W.mg W.base k' x ps (SpM W ms f)
 | .mt c x,ms,f=>∃ k' ps,k'<=k/\OkMt W k' (W.cl c) x ps (SpM W ms f)
 | .mk c x,ms,f=>∃ k' ps,k' + 1<=k/\OkMk W k' (W.cl c) x ps (SpM W (.mu::ms) f)
noncomputable def zda:IK->Prop
 | .seq=>True
 | k=>W.mg (ikN k)=none
mutual
noncomputable def Need:Xp->Prop
 | .g x t=>GlV W x t
 | .fz a=>Need a
 | .ap o es=>zaA W o/\xP es
 | .me _ o es=>Need o/\xP es
 | .chn _ _ a b c=>Need a/\Need b/\Need c
 | .bo _ es=>xP es
 | .not a=>Need a
 | .t a=>Need a
 | .tn a=>Need a
 | .tb _ es=>xP es
 | .ife t a b=>Need t/\Need a/\Need b
 | .lst es=>xP es
 | .tup es=>xP es
 | .dg a k w=>Need a/\Need k/\Need w
 | .tpl a=>W.mg "tuple" = none/\Need a
 | .ix a k=>Need a/\Need k
 | .at a c f=>(Cls W.K (W.cl c)/\qY W.K (W.cl c) f)/\Need a
 | .call h ms f es=>zjl W k h ms f/\xP es
 | .mu _ o es=>Need o/\xP es
 | .lc elt _ i its ifs=>zda W i/\Need elt/\xP its/\xP ifs
 | _=>True
noncomputable def xP:List Xp->Prop
 | []=>True
 | e::es=>Need e/\xP es
end
end L5
namespace L5
open PySem L2 PySem.Spec PyProof.Rows
variable {W:Wd} {E:XS} {k:Nat} {X:Cx} {Y:Sy} {H:Hp} {σ:L2.St} {Q:VK}
structure Ctx (W:Wd)(k:Nat)(X:Cx)(Y:Sy)(E:XS):Prop where
 hP:X.prog=W.P
 hw:X.w=W.w
 hK:X.K=W.K
 hmg:X.mg=W.mg
 hb:X.base=W.base
 hN:X.N=Y.N
 nd:Y.N.Nodup
 hs:X.env.scope=Y.sc
 hc:X.calm=Y.cm
 rm:Y.cm=true->Room k X.A
 hu:X.A.units+64<cLine
 th:Thr X E
theorem zfP {x:Str}(h:okN x=true):(x == ("__debug__":Str))=false/\(x == ("__classdict__":Str))=false:=by
 obtain⟨h1,h2⟩:=zd h
 exact⟨by simpa using h1,by simpa using h2⟩
theorem Ctx.gl (C:Ctx W k X Y E){x:Str}{e:Expr}(h:JF Y.sc x e=true):∃ p,e=.Name x p/\Gl X x/\(x == ("__debug__":Str))=false:=by
 obtain⟨y,h1,h2⟩:=zk h
 obtain⟨p,rfl⟩:=JE h1
 obtain⟨h3,h4⟩:=zd h2
 obtain⟨h5,h6⟩:=zd h4
 have h7:=dec_is h3
 subst h7
 refine⟨p,rfl,?_,(zfP h6).1⟩
 show X.env.scope.names.lookup _=_
 rw [C.hs];exact dec_is h5
theorem Ctx.var (C:Ctx W k X Y E){e:Expr}{i:Nat}(h:chkV Y i e=true):PE X e (tVar i):=by
 obtain⟨x,h1,h2⟩:=zk h
 obtain⟨pos,rfl⟩:=JE h1
 obtain⟨h3,h4⟩:=zd h2
 obtain⟨h1,h2⟩:=zd h3
 obtain⟨d1,d2⟩:=zfP h4
 refine pv i (by rw [C.hN];exact dec_is h1) ?_ d1 d2
 rw [C.hs]
 rcases Ut.mp h2 with z | z
 ·rcases Ut.mp z with z | z
  ·exact .inl (dec_is z)
  ·exact .inr (.inl (dec_is z))
 ·exact .inr (.inr (dec_is z))
theorem Ctx.blk {scope:Scope}{xs:Lh}(C:Ctx W k X Y E)(hcm:Y.cm=true)(h:lcG Y scope xs=true):yu X xs scope/\∀ (cl:List (Str×Addr)) (Ca:Addr) (s3:Shared) (H3:Hp) (fp:Ld),Ctx W k (blkG X xs scope cl Ca s3 H3 fp) ⟨xs++Y.N.map (renL xs),relS scope Y.sc,true⟩ noE:=by
 obtain⟨h1,h⟩:=zd h
 obtain⟨h2,h⟩:=zd h
 obtain⟨h3,h⟩:=zd h
 obtain⟨h4,h⟩:=zd h
 obtain⟨h5,h⟩:=zd h
 obtain⟨h6,h⟩:=zd h
 obtain⟨h7,h8⟩:=zd h
 refine⟨⟨by rw [C.hN];exact dec_is h1,dec_is h2,dec_is h3,dec_is h4,dec_is h5,λy hy hf=>?_,by rw [C.hN];exact dec_is h7,dec_is h8,C.hc.trans hcm⟩,λcl Ca s3 H3 fp=>?_⟩
 ·show X.env.scope.names.lookup y.1=some .cell
  rw [C.hs];exact dec_is h6 y hy hf
 exact⟨C.hP,C.hw,C.hK,C.hmg,C.hb,by show xs++X.N.map (renL xs)=_;rw [C.hN],dec_is h1,by rw [← C.hs];rfl,C.hc.trans hcm,λ_=>C.rm hcm,C.hu,λe s' z=>by
  obtain⟨_,_,_,_,_,_,_,_,_,_,_,_,z⟩:=z
  exact z.elim⟩
theorem Ctx.tgt {scope:Scope}{tg:Expr}{q:Bool×Lh}(C:Ctx W k X Y E)(L:yu X q.2 scope)(h:tgN tg=some q):∀ (cl:List (Str×Addr)) (Ca:Addr) (s3:Shared) (H3:Hp) (fp:Ld),PG (blkG X q.2 scope cl Ca s3 H3 fp) tg (gOf W.K q.1 q.2.length):=λcl Ca s3 H3 fp=>by
 rw [← C.hK]
 refine zhF (X:=blkG X q.2 scope cl Ca s3 H3 fp) L.calm L.nd (λ_=>rfl) h (λk x hx=>?_) λx hx=>?_
 ·show(q.2++X.N.map (renL q.2))[k]? = some x
  rw [Ul (uN.mp hx).1];exact hx
 ·have e:(blkG X q.2 scope cl Ca s3 H3 fp).env.scope.names.lookup x=(scope.names.lookup x).map λk=>if (k == NameKind.free&&X.env.scope.kind == .function&&X.env.kindOf x == some .cell) then NameKind.cell else k:=xr x scope.names
  rw [e,L.var x hx]
  rfl
theorem Kk {t:T}{c:Const}{j:Nat}{pos:Pos}(h:chkC t c=true):shr t=true/\∃ v,(∀ X,PE X (.Constant c j pos) (tC v))/\∀ F:Hp,IsV W F t v:=by
 cases t with
 | non=>cases c<;>first | exact zH h | exact⟨rfl,.non,λX=>zgg,λF=>rfl⟩
 | bl b=>
  cases c<;>first | exact zH h | skip
  rename_i c
  cases (eq_of_beq h:b=c)
  exact⟨rfl,.bl b,λX=>zit,λF=>rfl⟩
 | int i=>
  cases c<;>first | exact zH h | skip
  rename_i c
  cases (eq_of_beq h:i=c)
  exact⟨rfl,.int i,λX=>zgf,λF=>rfl⟩
 | str l=>
  cases c<;>first | exact zH h | skip
  obtain⟨h1,h2⟩:=zd h
  exact⟨rfl,.str (S l),λX=>pe_S (dec_is h1),λF=>⟨rfl,dec_is h2⟩⟩
 | _=>cases c<;>exact zH h
noncomputable def PEs (X:Cx)(W:Wd)(E:XS):List Xp->Lg->Prop
 | [],es=>es=[]
 | c::cs,es=>∃ e r,es=e::r/\PE X e (E5 W E c)/\PEs X W E cs r
theorem vv:∀ {cs:List Xp} {es:Lg},PEs X W E cs es->noSt es=true->PA X es (A5 W E cs)
 | [],_,h,_=>by rw [show _=[] from h];exact zak Q8 λσ H Q=>JB
 | c::cs,_,⟨e,r,h,h1,h2⟩,hs=>by
  subst h
  obtain⟨s1,s2⟩:=zM hs
  exact zak (vH h1 (vv h2 s2) (zj s1)) λσ H Q=>zeL
theorem pes1 {cs:List Xp}{a:Expr}(h:PEs X W E cs [a]):∃ c,cs=[c]/\PE X a (E5 W E c):=by
 match cs,h with
 | [c],⟨e,r,h,h1,_⟩=>cases h;exact⟨c,rfl,h1⟩
 | _::_::_,⟨e,r,h,h1,e2,r2,h2,_⟩=>cases h;cases h2
theorem pes2 {cs:List Xp}{a b:Expr}(h:PEs X W E cs [a,b]):∃ c d,cs=[c,d]/\PE X a (E5 W E c)/\PE X b (E5 W E d):=by
 match cs,h with
 | c::cs,⟨e,r,h,h1,h2⟩=>
  cases h
  obtain⟨d,rfl,h3⟩:=pes1 h2
  exact⟨c,d,rfl,h1,h3⟩
theorem pes3 {cs:List Xp}{a b c:Expr}(h:PEs X W E cs [a,b,c]):∃ x y z,cs=[x,y,z]/\PE X a (E5 W E x)/\PE X b (E5 W E y)/\PE X c (E5 W E z):=by
 match cs,h with
 | x::cs,⟨e,r,h,h1,h2⟩=>
  cases h
  obtain⟨y,z,rfl,h3,h4⟩:=pes2 h2
  exact⟨x,y,z,rfl,h1,h3,h4⟩
noncomputable abbrev tAp (W:Wd)(E:XS)(o:Op)(es:List Xp):TE:=λσ H Q=>A5 W E es σ H λus H'=>rN W (opF o) us H' Q
theorem zhP {o:Op}{q:Operator}(h:bop o=some q):Qr W q (opF o):=by
 cases o<;>first | exact zJ h | cases h
 ·exact zhc
 ·exact zg5
 ·exact zg6
 ·exact zg7
 ·exact zg8
 ·exact zg9
theorem Qb {o:Op}{q:CmpOp}(h:cop o=some q):xw W q (opF o):=by
 cases o<;>first | exact zJ h | cases h
 ·exact ziV
 ·exact ziW
 ·exact ziX
 ·exact ziY
 ·exact ziZ
 ·exact zi0
 ·exact zi1
 ·exact zhe
 ·exact zi2
 ·exact zhf
 ·exact zhM
theorem zjm {o:Op}{x:Str}(h:bnm o=some x)(n:zaA W o):BiOk W x (opF o)/\W.mg x=none:=by
 cases o<;>first | exact zJ h | cases h
 ·exact⟨zhi,n⟩
 ·exact⟨zeG,n⟩
 ·exact⟨zcJ,n⟩
 ·exact⟨zhj,n⟩
 ·exact⟨zeX,n⟩
theorem Ctx.call (C:Ctx W k X Y E){x:Str}{e:Expr}{xs:Lg}(h:Qt Y.sc x e=some xs):∃ p pos,e=.Call (.Name x p) xs [] pos/\Gl X x/\(x == ("__debug__":Str))=false/\noSt xs=true:=by
 obtain⟨p,h1,h2⟩:=zb h
 obtain⟨h3,rfl⟩:=jr h2
 obtain⟨h4,h5⟩:=zd h3
 obtain⟨h6,h7⟩:=zd h5
 obtain⟨q,hq,g1,g2⟩:=C.gl h4
 refine⟨q,p.2.2.2,?_,g1,g2,h7⟩
 rw [Yc h1,hq,uZ.mp h6]
theorem Zx {x:Str}{e:Expr}{q:Expr×Lg}(h:Xa x e=some q):∃ apos pos,e=.Call (.Attribute q.1 x apos) q.2 [] pos/\(apos.endLine == pos.line)=true/\noSt q.2=true/\q.2.length<30:=by
 obtain⟨p,h1,h2⟩:=zb h
 obtain⟨r,h3,h4⟩:=zb h2
 obtain⟨h5,rfl⟩:=jr h4
 obtain⟨h6,h7⟩:=zd h5
 obtain⟨h8,h9⟩:=zd h7
 obtain⟨h10,h11⟩:=zd h9
 obtain⟨h12,h13⟩:=zd h11
 refine⟨r.2.2,p.2.2.2,?_,h8,h12,dec_is h13⟩
 rw [Yc h1,XR h3,dec_is h6,uZ.mp h10]
theorem zfQ (C:Ctx W k X Y E){t:TyK}{e:Expr}(h:JF Y.sc (tyN t) e=true)(hb:W.mg (tyN t)=none):star e=false/\PE X e (tC (.ty (tyN t))):=by
 obtain⟨pos,rfl,hg,_⟩:=C.gl h
 refine⟨rfl,?_⟩
 rw [← C.hmg] at hb
 cases t
 ·exact ZY hb zgN rfl hg (by decide) (by decide)
 ·exact ZY hb zcf rfl hg (by decide) (by decide)
 ·exact ZY hb zen rfl hg (by decide) (by decide)
 ·exact ZY hb zeo rfl hg (by decide) (by decide)
 ·exact ZY hb Jl rfl hg (by decide) (by decide)
 ·exact ZY hb (by rfl) rfl hg (by decide) (by decide)
theorem zdb (C:Ctx W k X Y E):∀ {ks:List TyK} {es:Lg},zc8 Y.sc ks es=true->(∀ t∈ks,W.mg (tyN t)=none)->PA X es (tTys (ks.map tyN))
 | [],es,h,_=>by
  rw [uZ.mp h]
  exact Q8
 | t::ks,[],h,hb=>zH h
 | t::ks,e::es,h,hb=>by
  obtain⟨h1,h2⟩:=zd h
  obtain⟨p1,p2⟩:=zfQ C h1 (hb t uf)
  exact vH p2 (zdb C h2 λk' hk=>hb k' (uh _ hk)) (zj p1)
noncomputable def IsP:Option V->Value->Prop
 | none,u=>u=.none
 | some v,u=>RelV v u
noncomputable abbrev TV:=L2.St->Hp->(Option V->Hp->Prop)->Prop
def PV (X:Cx)(e:Option Expr)(t:TV):Prop:=∀ (pins:List (Addr×Obj)) (s:Shared) (σ:L2.St) (H:Hp) (Q:Option V->Hp->Prop),Inv X pins σ H s->t σ H Q->wpAny (model X.prog X.w) X.A (evalPart e X.env) (λu s'=>∃ o H',Inv X pins σ H' s'/\IsP o u/\Q o H') X.xe s
theorem QX:PV X none (λ_ H Q=>Q none H):=by
 intro pins s σ H Q I h
 rw [evalPart_none]
 exact wpAny_pure ⟨none,H,I,rfl,h⟩
theorem QY {e:Expr}{te:TE}(h:PE X e te):PV X (some e) (λσ H Q=>te σ H λx H1=>Q (some x) H1):=by
 intro pins s σ H Q I hw
 rw [evalPart_some]
 exact thn (h pins s σ H _ I hw) λu s1 ⟨x,H1,I1,r1,q1⟩=>⟨some x,H1,I1,r1,q1⟩
noncomputable def intP:Option V->Option Int->Prop
 | none,i=>i=none
 | some v,i=>∃ j,v=.int j/\i=some j
theorem zaB {o:Option V}{u:Value}{i:Option Int}(r:IsP o u)(h:intP o i):IsPart u i:=by
 cases o with
 | none=>cases r;cases h;exact .none
 | some v=>
  obtain⟨j,rfl,rfl⟩:=h
  obtain⟨t,rfl⟩:=r
  exact .int j t
theorem ki {r:V->Option Int->Option Int->Hp->VK->Prop}{e:Expr}{te:TE}{lo hi:Option Expr}{tl th:TV}{pos p2:Pos}(hr:SlR X r)(he:PE X e te)(hl:PV X lo tl)(hu:PV X hi th):PE X (.Subscript e (.Slice lo hi none p2) pos) (λσ H Q=>te σ H λx H1=>tl σ H1 λl H2=>th σ H2 λu H3=>∃ i j,intP l i/\intP u j/\r x i j H3 Q):=by
 intro pins s σ H Q I h
 refine Subscript_ (thn (he pins s σ H _ I h) λv s1 ⟨x,H1,I1,r1,q1⟩=>?_)
 refine wpAny_Slice (thn (hl pins s1 σ H1 _ I1 q1) λvl s2 ⟨l,H2,I2,pl,q2⟩=>thn (hu pins s2 σ H2 _ I2 q2) λvu s3 ⟨u,H3,I3,pu,i,j,k1,k2,q3⟩=>?_)
 rw [evalPart_none]
 refine wpAny_pure ?_
 have I4:Inv X pins σ H3 { s3 with heap:=s3.heap.push { cls:=.type "slice",data:=.fields #[vl,vu,.none] } }:=I3.kept (t':=s3.toks) λb ob q=>Heap.get?_push_of_some _ q
 obtain⟨T,id,hT,ht,hg⟩:=hr pins { s3 with heap:=s3.heap.push { cls:=.type "slice",data:=.fields #[vl,vu,.none] } } σ H3 x v vl vu i j s3.heap.objs.size Q I4 r1 (Heap.IsSliceOf.new ..) (zaB pl k1) (zaB pu k2) q3
 show wpAny (model X.prog X.w) X.A (subscriptTail e (.Slice lo hi none p2) v (.ref s3.heap.objs.size)) (EP X pins σ Q) X.xe { s3 with heap:=s3.heap.push { cls:=.type "slice",data:=.fields #[vl,vu,.none] } }
 exact tail_any (ops:=[.ref s3.heap.objs.size,v]) ht hT hg (by with_unfolding_all rfl)
theorem zdc {c d e:Xp}{Q:List V->Hp->Prop}(h:A5 W E [c,d,e] σ H Q):E5 W E c σ H λx H1=>E5 W E d σ H1 λy H2=>E5 W E e σ H2 λz H3=>Q [x,y,z] H3:=by
 obtain⟨F,s,τ,vs,γ,K,X4,R,h,q,x⟩:=h
 refine⟨F,s,τ,vs,γ,_,X4,R,h,λF' H' s' y τ' v R' h'=>?_,x⟩
 refine⟨F',s',y::τ',v::vs,γ,_,X4,R',h',λF2 H2 s2 y2 τ2 u R2 h2=>?_,x.app [v]⟩
 exact⟨F2,s2,y2::τ2,u::v::vs,γ,_,X4,R2,h2,λF3 H3 s3 y3 τ3 w R3 h3=>q F3 H3 s3 _ [v,u,w] rfl R3 h3,x.app [u,v]⟩
end L5
namespace L5
open PySem L2 PySem.Spec PyProof.Rows
variable {W:Wd} {E:XS} {k:Nat} {X:Cx} {Y:Sy} {H:Hp} {σ:L2.St} {Q:VK}
theorem zaC {F:Hp}{a:AT}{Γ:List AT}{z:T}{lo hi:Option Int}(ha:OK W F H a)(e:slO (era a) lo hi=some z)(st:St W F H Γ)(q:∀ F' H' w,St W F' H' (w::Γ)->era w=z->Q (val w) H'):rSl W (val a) lo hi H Q:=⟨F,[a],Γ,z,⟨ha,trivial⟩,rfl,e,st,q⟩
theorem sl1 {x:V}(h:rN W (oSl false false) [x] H Q):rSl W x none none H Q:=by
 obtain⟨F,as,Γ,z,h1,h2,h3,h4,h5⟩:=h
 match as,h2 with
 | [a],h2=>cases h2;exact zaC h1.1 h3 h4 h5
theorem sl2 {lo:Bool}{x y:V}(h:rN W (oSl lo !lo) [x,y] H Q):∃ i:Int,y=.int i/\rSl W x (cond lo (some i) none) (cond lo none (some i)) H Q:=by
 obtain⟨F,as,Γ,z,h1,h2,h3,h4,h5⟩:=h
 match as,h2 with
 | [a,b],h2=>
  cases h2
  cases lo with
  | true=>
   obtain⟨i,e1,e⟩:=zb h3
   exact⟨i,zI h1.2.1 e1,zaC h1.1 e h4 h5⟩
  | false=>
   obtain⟨i,e1,e⟩:=zb h3
   exact⟨i,zI h1.2.1 e1,zaC h1.1 e h4 h5⟩
theorem sl3 {x y w:V}(h:rN W (oSl true true) [x,y,w] H Q):∃ i j:Int,y=.int i/\w=.int j/\rSl W x (some i) (some j) H Q:=by
 obtain⟨F,as,Γ,z,h1,h2,h3,h4,h5⟩:=h
 match as,h2 with
 | [a,b,c],h2=>
  cases h2
  obtain⟨i,j,e1,e2,e⟩:=zt h3
  exact⟨i,j,zI h1.2.1 e1,zI h1.2.2.1 e2,zaC h1.1 e h4 h5⟩
theorem zjn (C:Ctx W k X Y E){o:Op}{e:Expr}{xs:Lg}{es:List Xp}(h:otA Y e o=some xs)(n:zaA W o)(p:PEs X W E es xs):PE X e (tAp W E o es):=by
 cases o with
 | neg=>
  obtain⟨q,h1,h2⟩:=zb h
  obtain⟨h3,rfl⟩:=jr h2
  obtain⟨pos,rfl⟩:=Kj h1
  obtain⟨c,rfl,p1⟩:=pes1 p
  rw [dec_is h3]
  exact zo (ziA zhg p1) λσ H Q h=>JC h
 | sl lo hi=>
  obtain⟨q,h1,h2⟩:=zb h
  obtain⟨r,h3,h4⟩:=zb h2
  obtain⟨h5,rfl⟩:=jr h4
  obtain⟨h6,h7⟩:=zd h5
  obtain⟨h8,h9⟩:=zd h7
  obtain⟨pos,rfl⟩:=XQ h1
  obtain⟨pos2,hq⟩:=ze1 h3
  rw [hq,Option.isNone_iff_eq_none.mp h6]
  obtain⟨rlo,rhi,rst⟩:=r
  cases (eq_of_beq h8:rlo.isSome=lo)
  cases (eq_of_beq h9:rhi.isSome=hi)
  cases rlo with
  | none=>
   cases rhi with
   | none=>
    obtain⟨c,rfl,p1⟩:=pes1 p
    exact zo (ki (zag C.hK) p1 QX QX) λσ H Q h=>wu (JC h) λx H1 h=>⟨none,none,rfl,rfl,sl1 h⟩
   | some hi=>
    obtain⟨c,d,rfl,p1,p2⟩:=pes2 p
    exact zo (ki (zag C.hK) p1 QX (QY p2)) λσ H Q h=>wu (JD h) λx H1 h=>wu h λy H2 h=>by
     obtain⟨i,e,h⟩:=sl2 (lo:=false) h
     exact⟨none,some i,rfl,⟨i,e,rfl⟩,h⟩
  | some lo=>
   cases rhi with
   | none=>
    obtain⟨c,d,rfl,p1,p2⟩:=pes2 p
    exact zo (ki (zag C.hK) p1 (QY p2) QX) λσ H Q h=>wu (JD h) λx H1 h=>wu h λy H2 h=>by
     obtain⟨i,e,h⟩:=sl2 (lo:=true) h
     exact⟨some i,none,⟨i,e,rfl⟩,rfl,h⟩
   | some hi=>
    obtain⟨c,d,f,rfl,p1,p2,p3⟩:=pes3 p
    exact zo (ki (zag C.hK) p1 (QY p2) (QY p3)) λσ H Q h=>wu (zdc h) λx H1 h=>wu h λy H2 h=>wu h λz H3 h=>by
     obtain⟨i,j,e1,e2,h⟩:=sl3 h
     exact⟨some i,some j,⟨i,e1,rfl⟩,⟨j,e2,rfl⟩,h⟩
 | isi ks=>
  obtain⟨ys,h1,h2⟩:=zb h
  obtain⟨q,h3,h4⟩:=zb h2
  obtain⟨h5,rfl⟩:=jr h4
  obtain⟨np,pos,rfl,hg,hd,hs⟩:=C.call h1
  obtain⟨c,rfl,p1⟩:=pes1 p
  rw [XT h3] at hs ⊢
  obtain⟨s1,s2⟩:=zM hs
  have hb:X.mg "isinstance" = none:=by rw [C.hmg];exact n.1
  rcases Ut.mp h5 with h5 | h5
  ·obtain⟨t,h6,h7⟩:=zk h5
   cases Zw h6
   obtain⟨t1,t2⟩:=zfQ C h7 (n.2 t (ug.mpr rfl))
   exact zo (Zl (zbm C.hK) hg hb kE (vH p1 (vH t2 Q8 (zj t1)) (zj s1)) (by decide) (by decide) (zj s1) (qQ s2)) λσ H Q h=>wu (JC h) λx H1 h=>zeI h
  ·obtain⟨hl,h5⟩:=zd h5
   obtain⟨es,h6,h7⟩:=zk h5
   obtain⟨kk,pt,hx2⟩:=QW h6
   have hst:star q.2=false:=(zM s2).1
   refine zo (Zl (zcq (ns:=ks.map tyN) C.hK) hg hb kE (vH p1 (vH (by rw [hx2];exact zbZ (zdb C h7 n.2)) Q8 (zj hst)) (zj s1)) (by decide) (by decide) (zj s1) (qQ s2)) λσ H Q h=>wu (JC h) λx H1 h=>?_
   have:=dec_is hl
   exact⟨by rw [ue,ue,sizeLine_eq];lia,λp hp=>zeJ h p hp⟩
 | kget x d=>
  obtain⟨q,h1,h2⟩:=zb h
  obtain⟨h5,rfl⟩:=jr h2
  obtain⟨h6,h7⟩:=zd h5
  obtain⟨apos,pos,rfl,hl,hs,_⟩:=Zx h1
  obtain⟨np,hx,g1,g2⟩:=C.gl h6
  obtain⟨a,kvs,k1,k2,k3⟩:=n
  have h2l:q.2.length=2:=dec_is h7
  rw [hx]
  revert p hs h2l
  match q.2 with
  | [e1,e2]=>
   intro p hs h2l
   exact zo (zct ⟨a,by rw [C.hmg];exact k1,by rw [C.hw,C.hK];exact k2⟩ (vv p hs) g1 g2 hs hl) λσ H Q h=>zhn h λus H1 h=>zeK k3 h
  | []=>intro _ _ h2l;cases h2l
  | [_]=>intro _ _ h2l;cases h2l
  | _::_::_::_=>intro _ _ h2l;cases h2l
 | _=>exact zJ h
theorem zjo (C:Ctx W k X Y E){o:Op}{e:Expr}{xs:Lg}{es:List Xp}(h:opA Y e o=some xs)(n:zaA W o)(p:PEs X W E es xs):PE X e (tAp W E o es):=by
 rcases zN h with h | h
 ·obtain⟨q,h1,h⟩:=zb h
  obtain⟨r,h2,h⟩:=zb h
  obtain⟨h3,rfl⟩:=jr h
  obtain⟨pos,rfl⟩:=zeZ h2
  obtain⟨c,d,rfl,p1,p2⟩:=pes2 p
  rw [dec_is h3]
  exact zo (ziz (zhP h1 X) p1 p2) λσ H Q h=>JD h
 rcases zN h with h | h
 ·obtain⟨q,h1,h⟩:=zb h
  obtain⟨r,h2,h⟩:=zb h
  obtain⟨b,h4,h⟩:=zb h
  obtain⟨h3,rfl⟩:=jr h
  obtain⟨h5,h6⟩:=zd h3
  obtain⟨pos,rfl⟩:=XO h2
  obtain⟨c,d,rfl,p1,p2⟩:=pes2 p
  rw [dec_is h5,Zw h4]
  exact zo (zd9 (Qb h1 X C.hK C.hu) p1 p2 (by simpa using h6)) λσ H Q h=>JD h
 rcases zN h with h | h
 ·obtain⟨x,h1,h⟩:=zb h
  obtain⟨ys,h2,h⟩:=zb h
  obtain⟨h3,rfl⟩:=jr h
  obtain⟨h4,h5⟩:=zd h3
  obtain⟨np,pos,rfl,hg,hd,hs⟩:=C.call h2
  obtain⟨b1,b2⟩:=zjm h1 n
  cases ys with
  | nil=>exact zH h5
  | cons e0 es0=>
   obtain⟨s1,s2⟩:=zM hs
   exact b1 X e0 es0 _ np pos C.hK (C.hc.trans h4) (by rw [C.hmg];exact b2) (vv p hs) hg (zj s1) (qQ s2)
 ·exact zjn C h n p
end L5
namespace L5
open PySem L2 PySem.Spec PyProof.Rows
variable {W:Wd} {E:XS} {k:Nat} {X:Cx} {Y:Sy} {H:Hp} {σ:L2.St} {Q:VK}
section
variable {j:Nat} {C:Addr} {x m:Str} {ps:Lh} {sp:Sp} {p pos apos:Pos} {e o:Expr} {es:Lg} {to:TE} {t:TA} {c:Nat}
theorem zbx (hx:Thr X E)(F:OkX X.prog X.w X.K X.mg X.base j x ps sp)(hr:Room k X.A)(hk:j<=k)(hg:Gl X x)(hdb:(x == ("__debug__":Str))=false):PE X (.Call (.Name x p) [] [] pos) (Jd sp E tNil):=by
 intro pins s σ H Q I h
 obtain⟨f,fd,kp,b,m,G⟩:=F.ex
 refine wpAny_Call_Name_kw (Zj I hg m ?_ hdb)
 exact gJ I.kIn kp (QN (us:=[]) G (hr.mono hk) b hx I .nil h)
theorem zby {env:Env}(hb:qS o=true)(hs:noSt es=true)(hn:es.length<30)(hl:(apos.endLine == pos.line)=true):eval (.Call (.Attribute o m apos) es [] pos) env=(do
   let ov ← eval o env
   standAt apos.atName
   let (f,first) ← holding [ov] (getMethod ov m (do
    let b ← importBound o env
    pure (b.getD true)))
   callWith pos f first (backTo pos (starEach es env)) (backToKw pos (keywordEach [] env))):=by
 show(do
  let ov ← attributeBase o m env (eval o env)
  standAt apos.atName
  methodCall o m apos pos env ov (es.length+([]:List Keyword).length) (backTo pos (starEach es env)) (backToKw pos (keywordEach [] env)))=_
 rw [z5 hb]
 have hf:methodCallForm (es.length+([]:List Keyword).length) (backTo pos (starEach es env)) (backToKw pos (keywordEach [] env))=true:=vK hs hn
 unfold methodCall
 rw [hf]
 simp only [calleeOf,methodCallPos,hl,U5,Bool.not_true,U9,pure_bind]
theorem zdd (Cx:Ctx W k X Y E)(hcm:Y.cm=true)(F:OkMt W j (W.cl c) m ps sp)(hk:j<=k)(ho:PE X o to)(ha:PA X es t)(h0:es=[]->∀ σ H Q,t σ H Q->tNil σ H Q)(hb:qS o=true)(hs:noSt es=true)(hn:es.length<30)(hl:(apos.endLine == pos.line)=true) :
  PE X (.Call (.Attribute o m apos) es [] pos) (Jd sp E (tCk (ckV W c m) to t)):=by
 intro pins s σ H Q I h
 obtain⟨f,fd,cl,hm,b,G⟩:=F.ex
 have hr:=(Cx.rm hcm).mono hk
 have hx:=Cx.th
 rw [← Cx.hK] at cl hm b G
 rw [← Cx.hP,← Cx.hw,← Cx.hmg,← Cx.hb] at G
 refine PySem.W.methodCall_KW (thn (ho pins s σ H _ I h) λu s1 ⟨x,H1,I1,rx,⟨a,dx,fs,ex,ea,l⟩,q⟩=>?_) (zby hb hs hn hl)
 subst ex
 obtain rfl:u=Value.ref a:=rx
 refine YR I1 ea cl hm l ?_
 cases es with
 | nil=>
  have q:=h0 rfl _ _ _ q
  exact gJ (first:=[.ref a]) I1.kIn hm.kp (QN (us:=[.ref a]) (vs:=[.ref a]) G hr b hx I1 (.cons rfl .nil) q)
 | cons e es=>
  obtain⟨s1',s2⟩:=zM hs
  refine gM (first:=[.ref a]) (h₀:=X.base) I.ok.mod.kin hm.kp (thn (ha pos pins s1 σ H1 _ I1 q) λus s2 ⟨vs,H2,I2,r,q2⟩=>⟨I2.kIn,?_⟩) (zj s1') (qQ s2)
  exact QN (us:=.ref a::us) (vs:=.ref a::vs) G hr b hx I2 (.cons rfl r) q2
theorem Xb {f:Addr}{fd:FuncData}{pins:List (Addr×Obj)}{s:Shared}{us:Lf}{vs:List V}(M:Mk X.K C f)(F:FnOk X.prog X.w X.K X.mg X.base (CXE X.prog X.w) j f fd ps sp)(hr:Room (j+1) X.A)(hb:Binds X.K fd ps [])
  (hx:Thr X E) (I:Inv X pins σ H s) (r:Vals vs us)
  (h:∀ x dx,H x=none->H dx=none->dx≠x->sp (.ref x::vs) (upd (upd H dx (.own x)) x (.ins C dx [])) (λv H2=>v=.non/\Q (.ref x) H2) λc d H'=>E c d σ H') :
  wpAny (model X.prog X.w) X.A (call (.ref C) us) (EP X pins σ Q) X.xe s:=by
 have hq:=h (s.heap.objs.size+1) s.heap.objs.size (I.hok.fresh (UT _)) (I.hok.fresh (ui _)) (uP (UQ _))
 have I2:=Inv.made (C:=C) I
 have r2:Vals (V.ref (s.heap.objs.size+1)::vs) (Value.ref (s.heap.objs.size+1)::us):=.cons rfl r
 have hl:(Value.ref (s.heap.objs.size+1)::us++[]).length=ps.length:=by
  have e:=r2.length
  rw [F.len _ _ _ _ hq] at e
  rw [uk]
  exact e.symm
 have hb':=hb _ (Value.ref (s.heap.objs.size+1)::us) I2.kIn hl
 rw [uk] at hb'
 refine wpAny_call (zbY (f:=f) I.kIn M.makes M.init (gr.mp M.fn) (codeAny_mono (F.run _ X.stack _ _ ⟨Value.ref (s.heap.objs.size+1)::us,[]⟩ (Value.ref (s.heap.objs.size+1)::us) _ _ _ (hr.make C us [])
  (I2.env0.make C us []) hb' r2 hq) λr s' hq'=>?_))
 cases r with
 | error e=>exact hx e s' (K3 I2 hq')
 | ok fl=>
  cases fl with
  | ret u=>
   obtain⟨v,H',I3,rv,ev,q3⟩:=I2.after hq'
   subst ev
   exact⟨rv,⟨V.ref (s.heap.objs.size+1),H',I3,rfl,q3⟩⟩
  | next=>exact False.elim hq'
  | brk=>exact False.elim hq'
  | cont=>exact False.elim hq'
theorem zde (Cx:Ctx W k X Y E)(hcm:Y.cm=true)(F:OkMk W j C x ps sp)(hk:j+1<=k)(ha:PA X es t)(h0:es=[]->∀ σ H Q,t σ H Q->tNil σ H Q)(hs:noSt es=true)(hg:Gl X x)(hdb:(x == ("__debug__":Str))=false):PE X (.Call (.Name x p) es [] pos) (zcR C sp E t):=by
 intro pins s σ H Q I h
 obtain⟨f,fd,M,b,m,G⟩:=F.ex
 have hr:=(Cx.rm hcm).mono hk
 have hx:=Cx.th
 rw [← Cx.hK] at M b G
 rw [← Cx.hP,← Cx.hw,← Cx.hmg,← Cx.hb] at G
 rw [← Cx.hmg] at m
 refine wpAny_Call_Name_kw (Zj I hg m ?_ hdb)
 cases es with
 | nil=>exact gJ I.kIn M.kp (Xb (us:=[]) M G hr b hx I .nil (h0 rfl _ _ _ h))
 | cons e es=>
  obtain⟨s1',s2⟩:=zM hs
  refine gM (h₀:=X.base) I.ok.mod.kin M.kp (thn (ha pos pins s σ H _ I h) λus s1 ⟨vs,H1,I1,r,q⟩=>⟨I1.kIn,?_⟩) (zj s1') (qQ s2)
  exact Xb M G hr b hx I1 r q
theorem zjp {oc:Xp}{ec:List Xp}(m:MU)(hm:m≠.insert)(hK:X.K=W.K)(ho:PE X o (E5 W E oc))(ha:PA X es (A5 W E ec))(hb:qS o=true)(hl:(apos.endLine == pos.line)=true)(hs:noSt es=true)(hn:es.length=muAr m)(h0:es=[]->ec=[]) :
  PE X (.Call (.Attribute o (muN m) apos) es [] pos) (λσ H Q=>E5 W E oc σ H λx H1=>tyV W.K "list" x H1/\A5 W E ec σ H1 λxs H2=>muR m x xs H2 Q):=by
 match m,es,hn,ha,hs,h0 with
 | .append,[e],_,ha,hs,_=>exact ZZ hK UJ PySem.F.slot_list_append PySem.F.type_list_append WM ho ha (z5 hb) (vK hs (by simp)) hl (zj (zM hs).1) rfl
 | .extend,[e],_,ha,hs,_=>exact ZZ hK UJ PySem.F.slot_list_extend PySem.F.type_list_extend za9 ho ha (z5 hb) (vK hs (by simp)) hl (zj (zM hs).1) rfl
 | .popI,[e],_,ha,hs,_=>exact ZZ hK UJ PySem.F.slot_list_pop PySem.F.type_list_pop zb7 ho ha (z5 hb) (vK hs (by simp)) hl (zj (zM hs).1) rfl
 | .pop,[],_,ha,hs,h0=>
  cases h0 rfl
  exact zo (zet hK UJ PySem.F.slot_list_pop PySem.F.type_list_pop zgJ ho (z5 hb) hl) λσ H Q h=>wu h λx H1 h=>⟨h.1,JB h.2⟩
 | .insert,_,_,_,_,_=>exact absurd rfl hm
end
end L5
namespace L5
open PySem L2 PySem.Spec PyProof.Rows
variable {W:Wd} {E:XS} {k:Nat} {X:Cx} {Y:Sy} {H:Hp} {σ:L2.St}
def SE (W:Wd)(k:Nat)(c:Xp):Prop:=∀ {X:Cx} {Y:Sy} {E:XS} {e:Expr},Ctx W k X Y E->chkE Y c e=true->Need W k c->PE X e (E5 W E c)
def ST (W:Wd)(k:Nat)(c:Xp):Prop:=∀ {X:Cx} {Y:Sy} {E:XS} {e:Expr},Ctx W k X Y E->chkT Y c e=true->Need W k c->PT X e (T5 W E c)
def SEs (W:Wd)(k:Nat)(cs:List Xp):Prop:=∀ {X:Cx} {Y:Sy} {E:XS} {es:Lg},Ctx W k X Y E->ya Y cs es=true->xP W k cs->PEs X W E cs es
noncomputable def PTL (X:Cx)(W:Wd)(E:XS):List Xp->Lg->Prop
 | [],es=>es=[]
 | c::cs,es=>∃ e r,es=e::r/\PT X e (T5 W E c)/\PTL X W E cs r
def STs (W:Wd)(k:Nat)(cs:List Xp):Prop:=∀ {X:Cx} {Y:Sy} {E:XS} {es:Lg},Ctx W k X Y E->zaz Y cs es=true->xP W k cs->PTL X W E cs es
theorem zfR {kk:Bool}{pos:Pos}:∀ {cs:List Xp} {es:Lg},PEs X W E cs es->cs.isEmpty=false->PE X (.BoolOp (if kk then .And else .Or) es pos) (B5 W E kk cs)
 | [],_,_,h=>zH h.symm
 | [c],_,⟨e,r,h,h1,h2⟩,_=>by
  subst h
  rw [show r=[] from h2]
  exact zgl h1
 | c::d::cs,_,⟨e,r,h,h1,h2⟩,_=>by
  subst h
  have ih:=zfR (kk:=kk) (pos:=pos) h2 rfl
  obtain⟨e2,r2,rfl,_,_⟩:=h2
  cases kk with
  | true=>exact zo (zgm h1 ih) λσ H Q=>zhu
  | false=>exact zo (ziv h1 ih) λσ H Q=>zja
theorem zfS {kk:Bool}{pos:Pos}:∀ {cs:List Xp} {es:Lg},PTL X W E cs es->cs.isEmpty=false->PW X (.BoolOp (if kk then .And else .Or) es pos) (TB5 W E kk cs)
 | [],_,_,h=>zH h.symm
 | [c],_,⟨e,r,h,h1,h2⟩,_=>by
  subst h
  rw [show r=[] from h2]
  cases kk with
  | true=>exact zd5 h1
  | false=>exact zgi h1
 | c::d::cs,_,⟨e,r,h,h1,h2⟩,_=>by
  subst h
  have ih:=zfS (kk:=kk) (pos:=pos) h2 rfl
  obtain⟨e2,r2,rfl,_,_⟩:=h2
  cases kk with
  | true=>exact zaj (zgj h1 ih) λσ H Q=>zhv
  | false=>exact zaj (ziu h1 ih) λσ H Q=>zjc
theorem zdf {cs:List Xp}{es:Lg}(h:PTL X W E cs es)(hl:es.length<=1):PTs X es (TB5 W E true cs):=by
 match cs,h with
 | [],h=>
  rw [show es=[] from h]
  intro pins s σ H Q I h
  obtain⟨F,s,τ,vs,γ,K,X4,R,h,q,x⟩:=h
  exact zei pins _ σ H Q I (q true F H s τ R h)
 | [c],⟨e,r,h,h1,h2⟩=>
  rw [h,show r=[] from h2]
  exact zej h1
 | c::d::cs,⟨e,r,h,h1,e2,r2,h2,_⟩=>
  rw [h,h2] at hl
  exact absurd hl (by simp)
theorem QZ {cs:List Xp}{es:Lg}(h:PEs X W E cs es)(e:es=[]):cs=[]:=by
 cases cs with
 | nil=>rfl
 | cons c cs=>obtain⟨_,_,h,_⟩:=h;rw [e] at h;cases h
theorem XU:∀ {cs:List Xp} {es:Lg},PEs X W E cs es->es.length=cs.length
 | [],_,h=>by rw [show _=[] from h];rfl
 | _::_,_,⟨_,_,h,_,h2⟩=>by rw [h];exact congrArg (· + 1) (XU h2)
theorem zhQ {o:Op}{es:List Xp}(ih:SEs W k es):SE W k (.ap o es)/\ST W k (.ap o es):=by
 refine⟨λ{X Y E e} C h n=>?_,λ{X Y E e} C h n=>?_⟩
 ·obtain⟨xs,h1,h2⟩:=zk h
  exact zo (zjo C h1 n.1 (ih C h2 n.2)) λσ H Q=>zi5
 ·obtain⟨xs,h1,h2⟩:=zk h
  obtain⟨q,h3,h⟩:=zb h1
  obtain⟨r,h4,h⟩:=zb h
  obtain⟨b,h5,h⟩:=zb h
  obtain⟨h6,rfl⟩:=jr h
  obtain⟨h7,h8⟩:=zd h6
  obtain⟨pos,rfl⟩:=XO h4
  obtain⟨c,d,rfl,p1,p2⟩:=pes2 (ih C h2 n.2)
  rw [dec_is h7,Zw h5]
  exact QT (zea (Qb h3 X C.hK C.hu) p1 p2 (by simpa using h8)) λσ H Q h=>JD (zjd h)
theorem zdg (C:Ctx W k X Y E){o1 o2:Op}{a b c:Xp}{e:Expr}{x:Expr×Expr×Expr}(h:chnA e o1 o2=some x)(pa:PE X x.1 (E5 W E a))(pb:PE X x.2.1 (E5 W E b))(pc:PE X x.2.2 (E5 W E c)):PE X e (ZV (r2 W (opF o1)) (r2 W (opF o2)) (E5 W E a) (E5 W E b) (E5 W E c))/\PT X e (KW (ZV (r2 W (opF o1)) (r2 W (opF o2)) (E5 W E a) (E5 W E b) (E5 W E c))):=by
 obtain⟨p,h1,h⟩:=zb h
 obtain⟨q,h2,h⟩:=zb h
 obtain⟨c1,h3,h⟩:=zb h
 obtain⟨c2,h4,h⟩:=zb h
 obtain⟨h5,rfl⟩:=jr h
 obtain⟨h6,h7⟩:=zd h5
 obtain⟨pos,rfl⟩:=XO h1
 have hm:lastMarks [c1,c2] [q.1,q.2]=false:=by simpa using h7
 rw [dec_is h6,XT h2]
 exact⟨zbU (Qb h3 X C.hK C.hu) (Qb h4 X C.hK C.hu) pa pb pc hm,zbV (Qb h3 X C.hK C.hu) (Qb h4 X C.hK C.hu) pa pb pc hm⟩
theorem ze2 {o1 o2:Op}{a b c:Xp}(ha:SE W k a)(hb:SE W k b)(hc:SE W k c):SE W k (.chn o1 o2 a b c)/\ST W k (.chn o1 o2 a b c):=by
 refine⟨λ{X Y E e} C h n=>?_,λ{X Y E e} C h n=>?_⟩
 ·obtain⟨x,h1,h2⟩:=zk h
  obtain⟨h3,h4⟩:=zd h2
  obtain⟨h5,h6⟩:=zd h4
  exact zo (zdg C h1 (ha C h3 n.1) (hb C h5 n.2.1) (hc C h6 n.2.2)).1 λσ H Q=>zhw
 ·obtain⟨x,h1,h2⟩:=zk h
  obtain⟨h3,h4⟩:=zd h2
  obtain⟨h5,h6⟩:=zd h4
  exact QT (zdg C h1 (ha C h3 n.1) (hb C h5 n.2.1) (hc C h6 n.2.2)).2 λσ H Q=>zhx
theorem tup_is {tg:Expr}(h:Qa tg=true):∃ l kk pp,tg=.Tuple l kk pp:=by
 cases hq:eTup tg with
 | none=>unfold Qa at h;rw [hq] at h;cases h
 | some l=>obtain⟨kk,pp,z⟩:=QW hq;exact⟨l,kk,pp,z⟩
theorem zdh (C:Ctx W k X Y E){i:IK}{its:List Xp}{e tg:Expr}{xs:Lg}(h:itA Y i e (Qa tg)=some xs)(n:zda W i)(p:PEs X W E its xs):PI X tg e (I5 W E i its):=by
 have mono:∀ {t:TI},PI X tg e t->(∀ σ H R,I5 W E i its σ H R->t σ H R)->PI X tg e (I5 W E i its):=λ{t} h k pins s σ H R I z=>h pins s σ H R I (k σ H R z)
 by_cases hq:i=.seq
 ·subst hq
  cases h
  obtain⟨c,rfl,p1⟩:=pes1 p
  exact mono (zg2 C.hK p1) λσ H R h=>wu (JC (zau h)) λv H1 h=>zeR h
 have h':((Qt Y.sc (ikN i) e).bind λxs=>when ((Qa tg||decide (i=.rng))&&ikAr i xs.length) xs)=some xs:=by
  cases i<;>first | exact absurd rfl hq | exact h
 obtain⟨ys,h1,h2⟩:=zb h'
 obtain⟨h3,rfl⟩:=jr h2
 obtain⟨h4,h5⟩:=zd h3
 obtain⟨np,pos,rfl,hg,hd,hs⟩:=C.call h1
 have hb:X.mg (ikN i)=none:=by
  rw [C.hmg]
  cases i<;>first | exact absurd rfl hq | exact n
 have one:ys.length=1->∃ e1,ys=[e1]:=λz=>by
  match ys,z with
  | [e1],_=>exact⟨e1,rfl⟩
 have two:ys.length=2->∃ e1 e2,ys=[e1,e2]:=λz=>by
  match ys,z with
  | [e1,e2],_=>exact⟨e1,e2,rfl⟩
 cases i with
 | seq=>exact absurd rfl hq
 | rng=>
  rcases Ut.mp h5 with z | z
  ·obtain⟨e1,rfl⟩:=one (eq_of_beq z)
   obtain⟨c,rfl,p1⟩:=pes1 p
   exact mono (zaZ hg hb (vv p hs) (zj (zM hs).1)) λσ H R h=>zal (zau h) λv H1 h=>zcV h
  ·obtain⟨e1,e2,rfl⟩:=two (eq_of_beq z)
   obtain⟨c,d,rfl,p1,p2⟩:=pes2 p
   obtain⟨s1,s2⟩:=zM hs
   have st2:starEach [e2] X.env=[(false,eval e2 X.env)]:=zj (zM s2).1
   exact mono (za0 hg hb (vv p hs) (by rw [zj s1,st2]) st2) λσ H R h=>zeM (zau h) λv u H1 h=>zcW h
 | enumS=>
  obtain⟨e1,rfl⟩:=one (eq_of_beq h5)
  obtain⟨c,rfl,p1⟩:=pes1 p
  obtain⟨l,kk,pp,rfl⟩:=tup_is (tg:=tg) (by simpa using h4)
  exact mono (zch hg hb (vv p hs) (zj (zM hs).1)) λσ H R h=>zal (zau h) λv H1 h=>zbv h
theorem zhR {m:ME}{o:Xp}{es:List Xp}(io:SE W k o)(ih:SEs W k es):SE W k (.me m o es):=λ{X Y E e} C h n=>by
 obtain⟨q,h1,h2⟩:=zk h
 obtain⟨h3,h4⟩:=zd h2
 obtain⟨h5,h6⟩:=zd h4
 obtain⟨h7,h8⟩:=zd h6
 obtain⟨apos,pos,rfl,hl,hs,hn⟩:=Zx h1
 have p:=ih C h8 n.2
 revert h5 hs hn p
 match q.2 with
 | []=>intro h5;exact zH h5
 | e0::es0=>intro h5 hs hn p;exact zo (zi3 m C.hK (io C h7 n.1) (vv p hs) h3 hl hs hn) λσ H Q=>zi9
theorem zdi {hd:Hd}{ms:List Md}{f:Fn}{es:List Xp}(ih:SEs W k es):SE W k (.call hd ms f es):=λ{X Y E e} C h n=>by
 obtain⟨hcm,h⟩:=zd h
 obtain⟨xs,h1,h2⟩:=zk h
 have p:=ih C h2 n.2
 cases hd with
 | fn x=>
  obtain⟨np,pos,rfl,hg,hdb,hs⟩:=C.call h1
  obtain⟨k',ps,hk,F⟩:=n.1
  rw [← C.hP,← C.hw,← C.hK,← C.hmg,← C.hb] at F
  cases xs with
  | nil=>
   cases QZ p rfl
   exact zo (zbx C.th F (C.rm hcm) hk hg hdb) λσ H Q h=>JB (zat h)
  | cons e0 es0=>
   obtain⟨s1,s2⟩:=zM hs
   exact zo (zcg C.th F (C.rm hcm) hk (vv p hs) hg hdb (zj s1) (qQ s2)) λσ H Q=>zat
 | mk c x=>
  obtain⟨np,pos,rfl,hg,hdb,hs⟩:=C.call h1
  obtain⟨k',ps,hk,F⟩:=n.1
  exact zo (zde C hcm F hk (vv p hs) (λz=>by cases QZ p z;exact λσ H Q=>JB) hs hg hdb) λσ H Q=>zeP
 | mt c x=>
  obtain⟨q,h3,h4⟩:=zb h1
  obtain⟨h5,rfl⟩:=jr h4
  obtain⟨h6,h7⟩:=zd h5
  obtain⟨apos,pos,rfl,hl,hs,hn⟩:=Zx h3
  obtain⟨k',ps,hk,F⟩:=n.1
  cases es with
  | nil=>cases p
  | cons o es=>
   obtain⟨e0,r,e1,p1,p2⟩:=p
   cases e1
   exact zo (zdd C hcm F hk p1 (vv p2 hs) (λz=>by cases QZ p2 z;exact λσ H Q=>JB) h6 hs hn hl) λσ H Q=>zeO
theorem zhS {m:MU}{o:Xp}{es:List Xp}(io:SE W k o)(ih:SEs W k es):SE W k (.mu m o es):=λ{X Y E e} C h n=>by
 obtain⟨q,h1,h2⟩:=zk h
 obtain⟨h3,h4⟩:=zd h2
 obtain⟨h5,h6⟩:=zd h4
 obtain⟨h7,h8⟩:=zd h6
 obtain⟨h9,h10⟩:=zd h8
 obtain⟨apos,pos,rfl,hl,hs,hn⟩:=Zx h1
 have p:=ih C h10 n.2
 exact zo (zjp m (dec_is h3) C.hK (io C h9 n.1) (vv p hs) h5 hl hs (dec_is h7) (QZ p)) λσ H Q=>zjf
theorem ze3 {a:Xp}(ih:SE W k a):SE W k (.tpl a):=λ{X Y E e} C h n=>by
 obtain⟨hc,h⟩:=zd h
 obtain⟨xs,h1,h2⟩:=zk h
 obtain⟨x,h3,h4⟩:=zk h2
 obtain⟨np,pos,rfl,hg,hdb,hs⟩:=C.call h1
 rw [Zw h3] at hs ⊢
 obtain⟨s1,s2⟩:=zM hs
 have hb:X.mg "tuple" = none:=by rw [C.hmg];exact n.1
 exact zo (kc kD hg hb Jl (vH (ih C h4 n.2) Q8 (zj s1)) (by decide) (by decide) (zj s1) (qQ s2)) λσ H Q h=>wu (zhr h) λv H1 ⟨p,ys,e,h1,h2⟩=>by rw [← C.hK] at h1;exact⟨p,ys,congrArg (λz=>[z]) e,.inl ⟨h1,h2⟩⟩
theorem zhT {elt:Xp}{n:Nat}{i:IK}{its ifs:List Xp}(he:SE W k elt)(hi:SEs W k its)(ht:STs W k ifs):SE W k (.lc elt n i its ifs):=λ{X Y E e} C h nn=>by
 obtain⟨p,h1,h⟩:=zk h
 obtain⟨g,h2,h⟩:=zk h
 obtain⟨hc,h⟩:=zd h
 obtain⟨h3,h⟩:=zd h
 obtain⟨h4,h⟩:=zd h
 obtain⟨h5,h⟩:=zd h
 obtain⟨q,h6,h⟩:=zk h
 obtain⟨h7,h⟩:=zd h
 obtain⟨h8,h⟩:=zd h
 obtain⟨h9,h⟩:=zd h
 obtain⟨h10,h11⟩:=zd h
 obtain⟨xs,h12,h13⟩:=zk h5
 obtain⟨pos,rfl⟩:=zc6 h1
 obtain⟨L,bl⟩:=C.blk hc h9
 obtain rfl:q.2.length=n:=dec_is h7
 rw [zc9 h2]
 have t1:q.1=decide (q.2.length≠1):=dec_is h8
 refine zo (zhD L (zdh C h12 nn.1 (hi C h13 nn.2.2.1)) (λcl Ca s3 H3 fp=>zdf (ht (bl cl Ca s3 H3 fp) h11 nn.2.2.2) (dec_is h4)) (λcl Ca s3 H3 fp=>he (bl cl Ca s3 H3 fp) h10 nn.2.1) (C.tgt L h6) (zcX t1) (Y8 h3)) λσ H Q h=>?_
 rw [t1]
 exact zfO h
theorem zfT {pos:Pos}:∀ {d:List (Lc×T)} {ks:List (Option Expr)} {vs:Lg},zc7 d ks vs=true->∃ kvs,Dsp W d kvs/\PPs X pos ks vs (cTrs kvs)/\ks.all (·.isSome)=true/\ks.length=vs.length/\ks.length=d.length
 | [],ks,vs,h=>by
  obtain⟨h1,h2⟩:=zd h
  rw [uZ.mp h1,uZ.mp h2]
  exact⟨[],rfl,zer,rfl,rfl,rfl⟩
 | p::d,ks,vs,h=>by
  match ks,vs,h with
  | some k::ks,v::vs,h=>
   obtain⟨h1,h2⟩:=zd h
   obtain⟨h2,h3⟩:=zd h2
   obtain⟨c,g1,g2⟩:=zk h1
   obtain⟨c',g3,g4⟩:=zk h2
   obtain⟨kvs,k1,k2,k3,k4,k5⟩:=zfT h3
   obtain⟨_,v1,f1,f2⟩:=Kk (W:=W) (j:=c.2.1) (pos:=c.2.2) g2
   obtain⟨s1,v2,f3,f4⟩:=Kk (W:=W) (j:=c'.2.1) (pos:=c'.2.2) g4
   obtain⟨f5,f6⟩:=f2 λ_=>none
   subst f5
   rw [XN g1,XN g3]
   exact⟨(.inr (S p.1),v2)::kvs,⟨v2,kvs,rfl,f6,s1,f4,k1⟩,zck (f1 X) (f3 X) k2,k3,congrArg (· + 1) k4,congrArg (· + 1) k5⟩
theorem ze4 {d:List (Lc×T)}:SE W k (.dsp d):=λ{X Y E e} C h n=>by
 obtain⟨h0,h⟩:=zd h
 obtain⟨h1,h⟩:=zd h
 obtain⟨h2,h⟩:=zd h
 obtain⟨p,h3,h4⟩:=zk h
 obtain⟨pos,rfl⟩:=zhO h3
 obtain⟨kvs,k1,k2,k3,k4,k5⟩:=zfT (W:=W) (X:=X) (pos:=pos) h4
 have l:=dec_is h1
 refine zo (zes k2 k3 k4 (λz=>?_) (by lia)) λσ H Q=>zhA k1 ?_ l
 ·rw [z] at k5
  cases d with
  | nil=>exact zH h0
  | cons _ _=>cases k5
 ·rw [(Dsp.all (F:=λ_=>none) k1).1]
  have hn:=dec_is h2
  rw [show(d.map λp=>(Sum.inr (S p.1):Key))=(d.map (·.1)).map λl=>.inr (S l) by rw [Uq];rfl]
  exact List.pairwise_map.mpr (List.Pairwise.imp (λh z=>h (zfF (Sum.inr.inj z))) hn)
theorem zhU {a b w:Xp}(ia:SE W k a)(ib:SE W k b)(iw:SE W k w):SE W k (.dg a b w):=λ{X Y E e} C h n=>by
 obtain⟨q,h1,h2⟩:=zk h
 obtain⟨h3,h4⟩:=zd h2
 obtain⟨r,h5,h6⟩:=zk h4
 obtain⟨h7,h8⟩:=zd h6
 obtain⟨h9,h10⟩:=zd h8
 obtain⟨apos,pos,rfl,hl,hs,hn⟩:=Zx h1
 rw [XT h5] at hs hn ⊢
 obtain⟨s1,s2⟩:=zM hs
 obtain⟨s3,s4⟩:=zM s2
 have hu:=C.hu
 refine zo (zcm (by lia) (ia C h7 n.1) (ib C h9 n.2.1) (iw C h10 n.2.2) ⟨z5 h3,vK hs hn,hl,?_⟩) λσ H Q=>zjg
 rw [zj s1,zj s3]
 rfl
theorem noT {c:Xp}(h:∀ Y e,chkT Y c e=true->False):ST W k c:=λ{X Y E e} C z _=>(h Y e z).elim
theorem snd (c:Xp):SE W k c/\ST W k c:=by
 refine Xp.rec (motive_1:=λc=>SE W k c/\ST W k c) (motive_2:=λcs=>SEs W k cs/\STs W k cs) ?_ ?_ ?_ ?_ ?_ ?_ ?_ ?_ ?_ ?_ ?_ ?_ ?_ ?_ ?_ ?_ ?_ ?_ ?_ ?_ ?_ ?_ ?_ ?_ ?_ ?_ ?_ c
 ·exact λi=>⟨λ{X Y E e} C h n=>zo (C.var h) λσ H Q=>e5_v,noT λ_ _=>zH⟩
 ·exact λi=>⟨λ{X Y E e} C h n=>zo (C.var h) λσ H Q=>e5_m,noT λ_ _=>zH⟩
 ·refine λt=>⟨λ{X Y E e} C h n=>?_,noT λ_ _=>zH⟩
  obtain⟨c,h1,h2⟩:=zk h
  obtain⟨s1,v,k1,k2⟩:=Kk (W:=W) (j:=c.2.1) (pos:=c.2.2) h2
  rw [XN h1]
  exact zo (k1 X) λσ H Q=>zcM (λ_ _ _ _ z=>z) s1 k2
 ·refine λx t=>⟨λ{X Y E e} C h n=>?_,noT λ_ _=>zH⟩
  obtain⟨p,rfl,g1,g2⟩:=C.gl h
  obtain⟨s1,v,k1,u,k2,k3⟩:=n
  exact zo (ziM (by rw [C.hmg];exact⟨u,k2,k3⟩) g1 g2) λσ H Q=>zcM (λ_ _ _ _ z=>z) s1 k1
 ·exact λa ih=>⟨λ{X Y E e} C h n=>zo (ih.1 C h n) λσ H Q=>zi6,noT λ_ _=>zH⟩
 ·exact λo es ih=>zhQ ih.1
 ·exact λm o es io ih=>⟨zhR io.1 ih.1,noT λ_ _=>zH⟩
 ·exact λo1 o2 a b c ha hb hc=>ze2 ha.1 hb.1 hc.1
 ·refine λkk es ih=>⟨λ{X Y E e} C h n=>?_,noT λ_ _=>zH⟩
  obtain⟨p,h1,h2⟩:=zk h
  obtain⟨h3,h4⟩:=zd h2
  obtain⟨h5,h6⟩:=zd h4
  obtain⟨pos,rfl⟩:=zc5 h1
  rw [dec_is h3]
  exact zfR (ih.1 C h6 n) (by simpa using h5)
 ·refine λa ih=>⟨λ{X Y E e} C h n=>?_,noT λ_ _=>zH⟩
  obtain⟨p,h1,h2⟩:=zk h
  obtain⟨h3,h4⟩:=zd h2
  obtain⟨pos,rfl⟩:=Kj h1
  rw [dec_is h3]
  exact zo (zgn (ih.1 C h4 n)) λσ H Q=>zht
 ·refine λa ih=>⟨λ{X Y E e} C h n=>zH h,λ{X Y E e} C h n=>?_⟩
  obtain⟨h3,h4⟩:=zd h
  exact QT (zbl C.hK (ih.1 C h4 n) (zeB h3)) λσ H Q=>t5_t
 ·refine λa ih=>⟨λ{X Y E e} C h n=>zH h,λ{X Y E e} C h n=>?_⟩
  obtain⟨p,h1,h2⟩:=zk h
  obtain⟨h3,h4⟩:=zd h2
  obtain⟨pos,rfl⟩:=Kj h1
  rw [dec_is h3]
  exact QT (zgk (ih.2 C h4 n)) λσ H Q=>zjb
 ·refine λkk es ih=>⟨λ{X Y E e} C h n=>zH h,λ{X Y E e} C h n=>?_⟩
  obtain⟨p,h1,h2⟩:=zk h
  obtain⟨h3,h4⟩:=zd h2
  obtain⟨h5,h6⟩:=zd h4
  obtain⟨pos,rfl⟩:=zc5 h1
  rw [dec_is h3]
  exact(zfS (ih.2 C h6 n) (by simpa using h5)).pt
 ·refine λt a b it ia ib=>⟨λ{X Y E e} C h n=>?_,noT λ_ _=>zH⟩
  obtain⟨p,h1,h2⟩:=zk h
  obtain⟨h3,h4⟩:=zd h2
  obtain⟨h5,h6⟩:=zd h4
  obtain⟨pos,rfl⟩:=zhN h1
  exact zo (zbO (it.2 C h3 n.1) (ia.1 C h5 n.2.1) (ib.1 C h6 n.2.2)) λσ H Q=>zhy
 ·refine λes ih=>⟨λ{X Y E e} C h n=>?_,noT λ_ _=>zH⟩
  obtain⟨p,h1,h2⟩:=zk h
  obtain⟨h3,h4⟩:=zd h2
  obtain⟨h5,h6⟩:=zd h4
  obtain⟨pos,rfl⟩:=ze0 h1
  have pp:=ih.1 C h6 n
  have hl:=XU pp
  have h7:=dec_is h5
  exact zo (zgE (vv pp h3)) λσ H Q=>zho (by lia)
 ·refine λes ih=>⟨λ{X Y E e} C h n=>?_,noT λ_ _=>zH⟩
  obtain⟨p,h1,h2⟩:=zk h
  obtain⟨h3,h4⟩:=zd h2
  obtain⟨h5,h6⟩:=zd h4
  obtain⟨kk,pos,rfl⟩:=QW h1
  have pp:=ih.1 C h6 n
  have hl:=XU pp
  have h7:=dec_is h5
  exact zo (zbZ (vv pp h3)) λσ H Q=>zhp (by lia)
 ·refine⟨λ{X Y E e} C h n=>?_,noT λ_ _=>zH⟩
  have h:eD0 e=true:=h
  unfold eD0 at h
  split at h
  ·exact zo ziO λσ H Q=>zhq
  ·exact zH h
 ·exact λd=>⟨ze4,noT λ_ _=>zH⟩
 ·exact λa b w ia ib iw=>⟨zhU ia.1 ib.1 iw.1,noT λ_ _=>zH⟩
 ·exact λa ih=>⟨ze3 ih.1,noT λ_ _=>zH⟩
 ·refine λa b ia ib=>⟨λ{X Y E e} C h n=>?_,noT λ_ _=>zH⟩
  obtain⟨p,h1,h2⟩:=zk h
  obtain⟨h3,h4⟩:=zd h2
  obtain⟨h5,h6⟩:=zd h4
  obtain⟨pos,rfl⟩:=XQ h1
  exact zo (ziI (zhs C.hK C.hu) (ia.1 C h5 n.1) (ib.1 C h6 n.2) (zcr h3)) λσ H Q=>zi7
 ·refine λa c f ia=>⟨λ{X Y E e} C h n=>?_,noT λ_ _=>zH⟩
  obtain⟨p,h1,h2⟩:=zk h
  obtain⟨h3,h4⟩:=zd h2
  obtain⟨h5,h6⟩:=zd h4
  rw [XR h1,dec_is h3]
  refine zo (zgC (ia.1 C h6 n.2) (z5 h5)) λσ H Q h=>?_
  rw [C.hK]
  exact zi8 n.1.1 n.1.2 h
 ·exact λhd ms f es ih=>⟨zdi ih.1,noT λ_ _=>zH⟩
 ·exact λm o es io ih=>⟨zhS io.1 ih.1,noT λ_ _=>zH⟩
 ·exact λelt n i its ifs he hi ht=>⟨zhT he.1 hi.1 ht.2,noT λ_ _=>zH⟩
 ·exact⟨λ{X Y E es} C h n=>uZ.mp h,λ{X Y E es} C h n=>uZ.mp h⟩
 ·refine λc cs hc hs=>⟨λ{X Y E es} C h n=>?_,λ{X Y E es} C h n=>?_⟩
  ·cases es with
   | nil=>exact zH h
   | cons e es=>
    obtain⟨h1,h2⟩:=zd h
    exact⟨e,es,rfl,hc.1 C h1 n.1,hs.1 C h2 n.2⟩
  ·cases es with
   | nil=>exact zH h
   | cons e es=>
    obtain⟨h1,h2⟩:=zd h
    exact⟨e,es,rfl,hc.2 C h1 n.1,hs.2 C h2 n.2⟩
theorem snds (cs:List Xp):SEs W k cs:=by
 induction cs with
 | nil=>exact λ{X Y E es} C h n=>uZ.mp h
 | cons c cs ih=>
  refine λ{X Y E es} C h n=>?_
  cases es with
  | nil=>exact zH h
  | cons e es=>
   obtain⟨h1,h2⟩:=zd h
   exact⟨e,es,rfl,(snd c).1 C h1 n.1,ih C h2 n.2⟩
end L5
namespace L5
open PySem L2 PySem.Spec PyProof.Rows
variable {W:Wd} {E:XS} {k:Nat} {X:Cx} {Y:Sy} {H:Hp} {σ:L2.St}
noncomputable def sRet:Stmt->Option (Option Expr)
 | .Return e _=>some e
 | _=>none
noncomputable def sAsg:Stmt->Option (Lg×Expr×Pos)
 | .Assign tg e p=>some (tg,e,p)
 | _=>none
noncomputable def sAug:Stmt->Option (Expr×Operator×Expr)
 | .AugAssign t o e _=>some (t,o,e)
 | _=>none
noncomputable def sIf:Stmt->Option (Expr×List Stmt×List Stmt)
 | .If t a b _=>some (t,a,b)
 | _=>none
noncomputable def sFor:Stmt->Option (Expr×Expr×List Stmt)
 | .For t i b [] _=>some (t,i,b)
 | _=>none
noncomputable def sWh:Stmt->Option (Expr×List Stmt)
 | .While t b [] _=>some (t,b)
 | _=>none
noncomputable def sEx:Stmt->Option Expr
 | .Expr e _=>some e
 | _=>none
theorem ze5 {s:Stmt}{x:Option Expr}(h:sRet s=some x):∃ p,s=.Return x p:=by cases s<;>first | exact zJ h | (cases h;exact⟨_,rfl⟩)
theorem ze6 {s:Stmt}{x:Lg×Expr×Pos}(h:sAsg s=some x):s=.Assign x.1 x.2.1 x.2.2:=by cases s<;>first | exact zJ h | (cases h;rfl)
theorem ze7 {s:Stmt}{x:Expr×Operator×Expr}(h:sAug s=some x):∃ p,s=.AugAssign x.1 x.2.1 x.2.2 p:=by cases s<;>first | exact zJ h | (cases h;exact⟨_,rfl⟩)
theorem zhV {s:Stmt}{x:Expr×List Stmt×List Stmt}(h:sIf s=some x):∃ p,s=.If x.1 x.2.1 x.2.2 p:=by cases s<;>first | exact zJ h | (cases h;exact⟨_,rfl⟩)
theorem ze8 {s:Stmt}{x:Expr×Expr×List Stmt}(h:sFor s=some x):∃ p,s=.For x.1 x.2.1 x.2.2 [] p:=by
 cases s with
 | For t i b e p=>
  cases e with
  | nil=>cases h;exact⟨_,rfl⟩
  | cons _ _=>cases h
 | _=>cases h
theorem zhW {s:Stmt}{x:Expr×List Stmt}(h:sWh s=some x):∃ p,s=.While x.1 x.2 [] p:=by
 cases s with
 | While t b e p=>
  cases e with
  | nil=>cases h;exact⟨_,rfl⟩
  | cons _ _=>cases h
 | _=>cases h
theorem zhX {s:Stmt}{x:Expr}(h:sEx s=some x):∃ p,s=.Expr x p:=by cases s<;>first | exact zJ h | (cases h;exact⟨_,rfl⟩)
noncomputable def locN (Y:Sy)(i:Nat)(e:Expr):Bool:=(eName e).any λx=>decide (Y.N[i]? = some x)&&(decide (Y.sc.names.lookup x=some .local)||decide (Y.sc.names.lookup x=some .cell))
noncomputable def Yd (Y:Sy):Lc->Lg->Bool
 | [],es=>es.isEmpty
 | i::is,es=>match es with
  | e::es=>locN Y i e&&Yd Y is es
  | []=>false
noncomputable def isLc:Xp->Bool
 | .lc _ _ _ _ _=>true
 | _=>false
noncomputable def plainS (tg e:Expr):Bool:=Xz e&&(!star tg&&(noTL tg||zfE e))
noncomputable def chkG (Y:Sy)(t:Tg)(e:Xp)(tg e':Expr):Bool:=
 match t with
 | .v i=>(plainS tg e'||isLc e)&&(locN Y i tg&&chkE Y e e')
 | .tup is=>plainS tg e'&&(Y.cm&&((eTup tg).any (λes=>Yd Y is es)&&chkE Y e e'))
 | .sub p k=>plainS tg e'&&((eSub tg).any (λq=>QO q.2&&(chkE Y p q.1&&chkE Y k q.2))&&chkE Y e e')
 | .fld p _ f=>Xz e'&&((eAtt tg).any (λq=>decide (q.2.1=f)&&chkE Y p q.1)&&chkE Y e e')
noncomputable def chkL (Y:Sy)(t:Tg)(tg:Expr):Bool:=
 match t with
 | .v i=>locN Y i tg
 | .tup is=>(eTup tg).any λes=>Yd Y is es
 | _=>false
noncomputable def opN:Op->Option Operator
 | .add=>some .Add
 | .sub=>some .Sub
 | _=>none
mutual
noncomputable def chkS (Y:Sy):Cm->Stmt->Bool
 | .ret e=>λs=>(sRet s).any λo=>o.any λe'=>chkE Y e e'
 | .asg t e=>λs=>(sAsg s).any λp=>(one? p.1).any λtg=>chkG Y t e tg p.2.1
 | .aug i op e=>λs=>(sAug s).any λp=>decide (opN op=some p.2.1)&&(locN Y i p.1&&chkE Y e p.2.2)
 | .ife t a b=>λs=>(sIf s).any λp=>chkT Y t p.1&&(zw Y a p.2.1&&zw Y b p.2.2)
 | .loop t k its b=>λs=>(sFor s).any λp=>Y.cm&&(zcs p.2.1&&(chkL Y t p.1&&((itA Y k p.2.1 (Qa p.1)).any (λxs=>ya Y its xs)&&zw Y b p.2.2)))
 | .whl t b=>λs=>(sWh s).any λp=>chkT Y t p.1&&zw Y b p.2
 | .ex e=>λs=>(sEx s).any λe'=>Xz e'&&chkE Y e e'
 | .never=>λ_=>true
noncomputable def zw (Y:Sy):List Cm->List Stmt->Bool
 | []=>λss=>ss.isEmpty
 | c::cs=>λss=>match ss with
  | s::ss=>chkS Y c s&&zw Y cs ss
  | []=>false
end
noncomputable def zjq (W:Wd)(k:Nat):Tg->Prop
 | .sub p i=>Need W k p/\Need W k i
 | .fld p c f=>(Cls W.K (W.cl c)/\qY W.K (W.cl c) f)/\Need W k p
 | _=>True
mutual
noncomputable def zfU (W:Wd)(k:Nat):Cm->Prop
 | .ret e=>Need W k e
 | .asg t e=>zjq W k t/\Need W k e
 | .aug _ _ e=>Need W k e
 | .ife t a b=>Need W k t/\wX W k a/\wX W k b
 | .loop _ i its b=>zda W i/\xP W k its/\wX W k b
 | .whl t b=>Need W k t/\wX W k b
 | .ex e=>Need W k e
 | _=>True
noncomputable def wX (W:Wd)(k:Nat):List Cm->Prop
 | []=>True
 | c::cs=>zfU W k c/\wX W k cs
end
structure CtxS (W:Wd)(k:Nat)(X:Cx)(Y:Sy)(E:XS):Prop extends Ctx W k X Y E where
 po:PassesOwn (model X.prog X.w) X.A X.env X.xe
 fn:∀ x,X.fn x=true
 sk:X.stack=X.env::X.outer
 fr:X.env.frame=some X.env.locals
theorem zaD {i:Nat}{e:Expr}(h:locN Y i e=true):∃ x p,e=.Name x p/\Y.N[i]? = some x/\Loc Y.sc x:=by
 obtain⟨x,h1,h2⟩:=zk h
 obtain⟨p,rfl⟩:=JE h1
 obtain⟨h3,h4⟩:=zd h2
 refine⟨x,p,rfl,dec_is h3,?_⟩
 rcases Ut.mp h4 with z | z
 ·exact .inl (dec_is z)
 ·exact .inr (dec_is z)
theorem CtxS.loc (C:CtxS W k X Y E){i:Nat}{e:Expr}(h:locN Y i e=true):∃ x p,e=.Name x p/\X.N.Nodup/\X.N[i]? = some x/\Loc X.env.scope x:=by
 obtain⟨x,p,rfl,h1,h2⟩:=zaD h
 exact⟨x,p,rfl,by rw [C.hN];exact C.nd,by rw [C.hN];exact h1,by rw [C.hs];exact h2⟩
theorem CtxS.pgn (C:CtxS W k X Y E){i:Nat}{e:Expr}(h:locN Y i e=true):PG X e (vn i):=by
 obtain⟨x,p,rfl,h1,h2,h3⟩:=C.loc h
 exact Xl h1 h2 h3 (.inl (C.fn x))
theorem CtxS.pgns (C:CtxS W k X Y E):∀ {is:Lc} {es:Lg},Yd Y is es=true->PGs X es (is.foldr (λi g=>VF (vn i) g) gNil)/\(assignEach es X.env).length=is.length/\(assignEach es X.env).findIdx? (·.1)=none
 | [],es,h=>by
  rw [uZ.mp h]
  exact⟨KL,rfl,rfl⟩
 | i::is,[],h=>zH h
 | i::is,e::es,h=>by
  obtain⟨h1,h2⟩:=zd h
  obtain⟨p1,p2,p3⟩:=C.pgns h2
  have hn:=C.pgn h1
  obtain⟨x,p,rfl,_⟩:=zaD h1
  have ac:(assignEach (.Name x p::es) X.env)=(false,assign (.Name x p) X.env)::assignEach es X.env:=rfl
  exact⟨VG hn p1 rfl,by rw [ac,ub,ub,p2],by rw [ac,Uj,p3];rfl⟩
theorem CtxS.pgt (C:CtxS W k X Y E){is:Lc}{tg:Expr}(hc:Y.cm=true)(h:((eTup tg).any λes=>Yd Y is es)=true):PG X tg (gNs W is):=by
 obtain⟨es,h1,h2⟩:=zk h
 obtain⟨kk,p,rfl⟩:=QW h1
 obtain⟨p1,p2,p3⟩:=C.pgns h2
 unfold gNs
 rw [← C.hK]
 exact zbP (C.hc.trans hc) p1 p2 p3
theorem JG {tg e:Expr}{te:TE}{g:TG}{pos:Pos}(h:plainS tg e=true)(he:PE X e te)(hg:PG X tg g):PS X (.Assign [tg] e pos) (tAsg te g):=by
 obtain⟨h1,h2⟩:=zd h
 obtain⟨h2,h3⟩:=zd h2
 exact zgq he hg (XA h1) (zbs h3) (Y9 (by simpa using h2))
theorem zhY {o i:Expr}{pos:Pos}{env:Env}(h:QO i=true)(v:Value):assign (.Subscript o i pos) env v=(do
   let ov ← holding [v] (eval o env)
   let iv ← holding [v,ov] (eval i env)
   standAt pos
   holding [v,ov,iv] (setItem ov iv v)
   release [v,ov,iv] []):=by cases i<;>first | rfl | cases h
theorem js {s:Stmt}{t t':TS}(h:PS X s t)(k:∀ D σ H,t' D σ H->t D σ H):PS X s t':=λpins sh σ H D I z=>h pins sh σ H D I (k D σ H z)
theorem Zy {s:List Stmt}{t t':TS}(h:PSs X s t)(k:∀ D σ H,t' D σ H->t D σ H):PSs X s t':=λpins sh σ H D I z=>h pins sh σ H D I (k D σ H z)
def SS (W:Wd)(k:Nat)(c:Cm):Prop:=∀ {X:Cx} {Y:Sy} {E:XS} {s:Stmt},CtxS W k X Y E->chkS Y c s=true->zfU W k c->PS X s (S5 W E (WS c))
def SSs (W:Wd)(k:Nat)(cs:List Cm):Prop:=∀ {X:Cx} {Y:Sy} {E:XS} {ss:List Stmt},CtxS W k X Y E->zw Y cs ss=true->wX W k cs->PSs X ss (S5 W E (WSs cs))
theorem zbz (C:CtxS W k X Y E){i:Nat}{elt:Xp}{n:Nat}{ik:IK}{its ifs:List Xp}{tg e:Expr}{spos:Pos}(hl:locN Y i tg=true)(h:chkE Y (.lc elt n ik its ifs) e=true)(nn:Need W k (.lc elt n ik its ifs)):PS X (.Assign [tg] e spos) (S5 W E (WS (.asg (.v i) (.lc elt n ik its ifs)))):=by
 have pe:=(snd (.lc elt n ik its ifs)).1 C.toCtx h nn
 obtain⟨z,pz,rfl,hN,hi',hz⟩:=C.loc hl
 obtain⟨p,h1,h⟩:=zk h
 obtain⟨g,h2,h⟩:=zk h
 obtain⟨hc,h⟩:=zd h
 obtain⟨h3,h⟩:=zd h
 obtain⟨h4,h⟩:=zd h
 obtain⟨h5,h⟩:=zd h
 obtain⟨q,h6,h⟩:=zk h
 obtain⟨h7,h⟩:=zd h
 obtain⟨h8,h⟩:=zd h
 obtain⟨h9,h⟩:=zd h
 obtain⟨h10,h11⟩:=zd h
 obtain⟨xs,h12,h13⟩:=zk h5
 obtain⟨pos,rfl⟩:=zc6 h1
 obtain⟨b,hb⟩:∃ b,swapsWith (.ListComp p.1 p.2.1 p.2.2 pos) (some (.Name z pz)) spos.line X.env=pure b:=⟨_,rfl⟩
 cases b with
 | false=>exact js (zgr hN hi' hz pe hb (.inl (C.fn z))) λD σ H=>Ki
 | true=>
  obtain⟨L,bl⟩:=C.toCtx.blk hc h9
  obtain rfl:q.2.length=n:=dec_is h7
  rw [zc9 h2] at hb ⊢
  have t1:q.1=decide (q.2.length≠1):=dec_is h8
  have ht:STs W k ifs:=λ{X Y E es} C h n=>by
   have:∀ cs:List Xp,STs W k cs:=λcs=>by
    induction cs with
    | nil=>exact λ{X Y E es} C h n=>uZ.mp h
    | cons c cs ih=>
     refine λ{X Y E es} C h n=>?_
     cases es with
     | nil=>exact zH h
     | cons e es=>
      obtain⟨h1,h2⟩:=zd h
      exact⟨e,es,rfl,(snd c).2 C h1 n.1,ih C h2 n.2⟩
   exact this ifs C h n
  refine js (zbw hN hi' hz L (zdh C.toCtx h12 nn.1 (snds its C.toCtx h13 nn.2.2.1)) (λcl Ca s3 H3 fp=>zdf (ht (bl cl Ca s3 H3 fp) h11 nn.2.2.2) (dec_is h4)) (λcl Ca s3 H3 fp=>(snd elt).1 (bl cl Ca s3 H3 fp) h10 nn.2.1) (C.toCtx.tgt L h6) (zcX t1) (Y8 h3) hb (.inl (C.fn z))) λD σ H h=>?_
  rw [t1]
  exact zfO (Ki h)
theorem ze9 {t:Tg}{c:Xp}:SS W k (.asg t c):=λ{X Y E s} C h n=>by
 obtain⟨p,h1,h2⟩:=zk h
 obtain⟨tg,h3,h4⟩:=zk h2
 rw [ze6 h1,Zw h3]
 have he:chkE Y c p.2.1=true->PE X p.2.1 (E5 W E c):=λh=>(snd c).1 C.toCtx h n.2
 cases t with
 | v i=>
  obtain⟨h5,h6⟩:=zd h4
  obtain⟨h7,h8⟩:=zd h6
  rcases Ut.mp h5 with h5 | h5
  ·exact js (JG h5 (he h8) (C.pgn h7)) λD σ H=>Ki
  ·cases c with
   | lc elt m ik its ifs=>exact zbz C h7 h8 n.2
   | _=>exact zH h5
 | tup is=>
  obtain⟨h5,h6⟩:=zd h4
  obtain⟨h7,h8⟩:=zd h6
  obtain⟨h9,h10⟩:=zd h8
  exact js (JG h5 (he h10) (C.pgt h7 h9)) λD σ H=>zeS
 | sub o i=>
  obtain⟨h5,h6⟩:=zd h4
  obtain⟨h7,h8⟩:=zd h6
  obtain⟨q,h9,h10⟩:=zk h7
  obtain⟨h11,h12⟩:=zd h10
  obtain⟨h13,h14⟩:=zd h12
  obtain⟨pp,rfl⟩:=XQ h9
  exact js (JG h5 (he h8) (zgp ((snd o).1 C.toCtx h13 n.1.1) ((snd i).1 C.toCtx h14 n.1.2) (zc1 C.toCtx.hu) (zhY h11))) λD σ H=>zhI
 | fld o cc f=>
  obtain⟨h5,h6⟩:=zd h4
  obtain⟨h7,h8⟩:=zd h6
  obtain⟨q,h9,h10⟩:=zk h7
  obtain⟨h11,h12⟩:=zd h10
  rw [XR h9,dec_is h11]
  refine js (zgD ((snd o).1 C.toCtx h12 n.1.2) (he h8) (XA h5)) λD σ H h=>?_
  rw [C.hK]
  exact zhJ n.1.1.1 n.1.1.2 h
theorem ssnd (c:Cm):SS W k c:=by
 refine Cm.rec (motive_1:=λc=>SS W k c) (motive_2:=λcs=>SSs W k cs) ?_ ?_ ?_ ?_ ?_ ?_ ?_ ?_ ?_ ?_ c
 ·refine λe=>λ{X Y E s} C h n=>?_
  obtain⟨o,h1,h2⟩:=zk h
  obtain⟨p,rfl⟩:=ze5 h1
  obtain⟨e',rfl,h3⟩:=zk h2
  exact js (zgo ((snd e).1 C.toCtx h3 n)) λD σ H=>zhG
 ·exact λt e=>ze9
 ·refine λi o e=>λ{X Y E s} C h n=>?_
  obtain⟨p,h1,h2⟩:=zk h
  obtain⟨h3,h4⟩:=zd h2
  obtain⟨h5,h6⟩:=zd h4
  obtain⟨pos,rfl⟩:=ze7 h1
  obtain⟨x,px,hx,l1,l2,l3⟩:=C.loc h5
  have pe:=(snd e).1 C.toCtx h6 n
  rw [hx]
  have h3:=dec_is h3
  revert h3
  cases o<;>intro h3<;>first | exact zJ h3 | skip
  ·rw [← uG h3]
   exact js (zbQ l1 l2 l3 pe zgs (.inl (C.fn _))) λD σ H=>zc2 (.inl rfl)
  ·rw [← uG h3]
   exact js (zbQ l1 l2 l3 pe zgt (.inl (C.fn _))) λD σ H=>zc2 (.inr rfl)
 ·refine λt a b ia ib=>λ{X Y E s} C h n=>?_
  obtain⟨p,h1,h2⟩:=zk h
  obtain⟨h3,h4⟩:=zd h2
  obtain⟨h5,h6⟩:=zd h4
  obtain⟨pos,rfl⟩:=zhV h1
  exact js (ziw ((snd t).2 C.toCtx h3 n.1) (ia C h5 n.2.1) (ib C h6 n.2.2)) λD σ H=>zhH
 ·refine λt i its b ib=>λ{X Y E s} C h n=>?_
  obtain⟨p,h1,h2⟩:=zk h
  obtain⟨hc,h⟩:=zd h2
  obtain⟨h3,h⟩:=zd h
  obtain⟨h4,h⟩:=zd h
  obtain⟨h5,h6⟩:=zd h
  obtain⟨xs,h7,h8⟩:=zk h5
  obtain⟨pos,rfl⟩:=ze8 h1
  have pg:PG X p.1 (tgR W t):=by
   cases t with
   | v i=>exact C.pgn h4
   | tup is=>exact C.pgt hc h4
   | _=>exact zH h4
  exact js (zgu C.po (C.hc.trans hc) (zdh C.toCtx h7 n.1 (snds its C.toCtx h8 n.2.1)) pg (ib C h6 n.2.2) (Y8 h3)) λD σ H=>zeV
 ·refine λt b ib=>λ{X Y E s} C h n=>?_
  obtain⟨p,h1,h2⟩:=zk h
  obtain⟨h3,h4⟩:=zd h2
  obtain⟨pos,rfl⟩:=zhW h1
  exact js (zbS C.po ((snd t).2 C.toCtx h3 n.1) (ib C h4 n.2)) λD σ H=>zhK
 ·refine λe=>λ{X Y E s} C h n=>?_
  obtain⟨e',h1,h2⟩:=zk h
  obtain⟨h3,h4⟩:=zd h2
  obtain⟨pos,rfl⟩:=zhX h1
  exact js (zd6 ((snd e).1 C.toCtx h4 n) (XA h3)) λD σ H=>zjk
 ·exact λ{X Y E s} C h n=>λpins sh σ H D I z=>zc0 z
 ·refine λ{X Y E ss} C h n=>?_
  rw [uZ.mp h]
  exact Zy KJ λD σ H=>zcZ
 ·refine λc cs hc hs=>λ{X Y E ss} C h n=>?_
  cases ss with
  | nil=>exact zH h
  | cons s ss=>
   obtain⟨h1,h2⟩:=zd h
   exact Zy (VE (hc C h1 n.1) (hs C h2 n.2)) λD σ H=>zaw
theorem zfV (cs:List Cm):SSs W k cs:=by
 induction cs with
 | nil=>
  refine λ{X Y E ss} C h n=>?_
  rw [uZ.mp h]
  exact Zy KJ λD σ H=>zcZ
 | cons c cs ih=>
  refine λ{X Y E ss} C h n=>?_
  cases ss with
  | nil=>exact zH h
  | cons s ss=>
   obtain⟨h1,h2⟩:=zd h
   exact Zy (VE (ssnd c C h1 n.1) (ih C h2 n.2)) λD σ H=>zaw
end L5
namespace L5
open PySem L2 PySem.Spec PyProof.Rows
variable {W:Wd} {k:Nat} {F H:Hp}
theorem zdj {X:List AT}:∀ (as:List AT) (n:Nat),as.length<=n->Ms X (fnS (eras as) n) (as.map (λa=>some (val a))++List.replicate (n - as.length) none) (as++List.replicate (n - as.length) nilA)
 | [],0,_=>⟨rfl,rfl⟩
 | [],n+1,_=>⟨none,_,nilA,_,rfl,rfl,rfl,zdj (X:=X) [] n (uE _)⟩
 | a::as,0,h=>by cases h
 | a::as,n+1,h=>by
  have ih:=zdj (X:=X) as n (Nat.le_of_succ_le_succ h)
  rw [show n+1 - (a::as).length=n - as.length by simp]
  exact⟨some (val a),_,a,_,rfl,rfl,⟨rfl,rfl⟩,ih⟩
noncomputable def hidV:List Md->List V->List V
 | .mu::ms,v::vs=>v::hidV ms vs
 | .mv::ms,_::vs=>hidV ms vs
 | _,_=>[]
theorem Kl {X:List AT}:∀ (ms:List Md) (as:List AT) (i:Nat),as.length=ms.length->(∀ j,j<as.length->X[i+j]? = as[j]?)->Ms X (hidA ms i) ((hidV ms (vals as)).map some) (List.replicate (hidA ms i).length nilA)
 | [],as,i,hl,h=>⟨rfl,rfl⟩
 | m::ms,[],i,hl,h=>by cases hl
 | .mu::ms,a::as,i,hl,h=>by
  refine⟨some (val a),_,nilA,_,rfl,rfl,⟨rfl,a,?_,rfl⟩,Kl ms as (i+1) (U1 hl) λj hj=>?_⟩
  ·have:=h 0 (Nat.succ_pos _)
   rw [Nat.add_zero] at this
   unfold getS
   rw [this];rfl
  ·have:=h (j+1) (gT hj)
   rw [show i+1+j=i+(j+1) by lia];exact this
 | .mv::ms,a::as,i,hl,h=>Kl ms as (i+1) (U1 hl) λj hj=>by
   have:=h (j+1) (gT hj)
   rw [show i+1+j=i+(j+1) by lia];exact this
theorem Xc {ms:List Md}{as γ:List AT}{n:Nat}(st:St W F H (as++γ))(hl:as.length=ms.length)(hn:as.length<=n):Rep W F H (fnS (eras as) n) (hidA ms 0) ((vals as).map some++List.replicate (n - (vals as).length) none) (hidV ms (vals as)) γ:=by
 refine⟨as++List.replicate (n - as.length) nilA,_,?_,?_,Kl ms as 0 hl λj hj=>by rw [UE,Ul hj]⟩
 ·have:=(st.nils (n - as.length)).nils (hidA ms 0).length
  refine this.perm ?_
  rw [← ud,← ud,← ud]
  refine UN _ ?_
  refine List.Perm.trans ?_ uC
  rw [ud]
  exact gA _ uC
 ·have:=zdj (X:=as++List.replicate (n - as.length) nilA) as n hn
  simp only [vals,Uq,ue]
  exact this
theorem XW {as:List AT}:∀ {ms:List Md} {i:Nat} {s τ:Sl} {ρ:List (Option V)} {cs bs γ:List AT} {us:List V} {r:List T},(∀ j,as[i+j]? = cs[j]?)->Ms as s ρ cs->Ms as τ ((hidV ms us).map some) bs->us.length=ms.length->retA ms i s τ=some r->St W F H (cs++γ)->∃ Bs,eras Bs=r/\kG ms us Bs/\St W F H (Bs++γ)
 | [],i,s,τ,ρ,cs,bs,γ,us,r,h,m1,m2,hl,e,st=>by
  cases e
  exact⟨[],rfl,rfl,st.right⟩
 | m::ms,i,s,τ,ρ,cs,bs,γ,[],r,h,m1,m2,hl,e,st=>by cases hl
 | .mu::ms,i,s,τ,ρ,cs,bs,γ,v::us,r,h,m1,m2,hl,e,st=>by
  match s,τ,e with
  | .own t::s,.al j []::τ,e=>
   have e:cond (j == i) ((retA ms (i+1) s τ).bind λr=>some (t::r)) none=some r:=e
   cases c:j == i with
   | false=>rw [c] at e;cases e
   | true=>
    rw [c] at e
    obtain⟨r',e1,e⟩:=zb e
    cases e
    cases (eq_of_beq c:j=i)
    obtain⟨o,ρ',a,cs',k1,k2,k3,k4⟩:=m1
    obtain⟨o2,ρ2,b,bs',g1,g2,⟨_,u,g3,g4⟩,g5⟩:=m2
    cases g1
    subst k2
    have h0:=h 0
    rw [Nat.add_zero] at h0
    have hu:u=a:=by
     obtain⟨a',f1,f2,_⟩:=jJ g3
     rw [h0] at f1
     cases f1
     cases f2
     rfl
    subst hu
    obtain⟨Bs,q1,q2,q3⟩:=XW (γ:=u::γ) (λn=>by have:=h (n+1);rw [show i+1+n=i+(n+1) by lia];exact this) k4 g5 (U1 hl) e1 (st.perm uH.symm)
    exact⟨u::Bs,by rw [eras,q1,k3.1],⟨u,Bs,rfl,(uG g4).symm,q2⟩,q3.perm uH⟩
 | .mv::ms,i,s,τ,ρ,cs,bs,γ,v::us,r,h,m1,m2,hl,e,st=>by
  match s,e with
  | x::s,e=>
   obtain⟨r',e1,e⟩:=zb e
   cases e
   obtain⟨o,ρ',a,cs',k1,k2,k3,k4⟩:=m1
   subst k2
   obtain⟨Bs,q1,q2,q3⟩:=XW (ms:=ms) (us:=us) (λn=>by have:=h (n+1);rw [show i+1+n=i+(n+1) by lia];exact this) k4 m2 (U1 hl) e1 (St.tail st)
   exact⟨.lf .non .non::Bs,by rw [eras,q1];rfl,⟨_,Bs,rfl,rfl,q2⟩,q3.leaf (t:=.non) rfl rfl⟩
theorem Rep.ret {ms:List Md}{s τ:Sl}{σ:L2.St}{us:List V}{γ:List AT}{r:List T}(R:Rep W F H s τ σ (hidV ms us) γ)(hl:us.length=ms.length)(e:retA ms 0 s τ=some r):∃ Bs,eras Bs=r/\kG ms us Bs/\St W F H (Bs++γ):=by
 obtain⟨as,bs,R⟩:=R
 refine XW (as:=as) (λj=>by rw [UE]) R.ls R.ts hl e ?_
 have:=R.st.perm (Ga as bs γ)
 exact this.right
theorem Rep.retX {ms:List Md}{s τ:Sl}{σ:L2.St}{us ws:List V}{γ:List AT}{r:List T}{n:Nat}(R:Rep W F H s τ σ (ws++hidV ms us) γ)(hn:n=(hidV ms us).length)(hl:us.length=ms.length)(e:retA ms 0 s (τ.drop (τ.length - n))=some r):∃ Bs,eras Bs=r/\kG ms us Bs/\St W F H (Bs++γ):=by
 obtain⟨as,bs,R⟩:=R
 have l:=R.ts.len.1
 rw [ue,ua] at l
 have m:=R.ts.drop (τ.length - n)
 rw [show τ.length - n=ws.length by lia,uA,gU (by rw [ue];exact ui _),show(ws.map some).drop ws.length=[] from gw (by rw [ue];exact ui _),UH,← show τ.length - n=ws.length by lia] at m
 refine XW (as:=as) (λj=>by rw [UE]) R.ls m hl e ?_
 have:=R.st.perm (Ga as bs γ)
 exact this.right
theorem XX:∀ {ms:List Md} {us:List V} {i:Nat},us.length=ms.length->(hidA ms i).length=(hidV ms us).length
 | [],_,_,_=>rfl
 | _::_,[],_,h=>by cases h
 | .mu::ms,_::us,i,h=>congrArg (· + 1) (XX (ms:=ms) (U1 h))
 | .mv::ms,_::us,i,h=>XX (ms:=ms) (U1 h)
theorem zaE {x:Str}{st:Stmt}{ps N:Lh}{ms:List Md}{body:List Cm}(Sc:zg N ps (zc st))(hc:zw ⟨N,zc st,true⟩ body (ze st)=true)(hp:ms.length<=N.length)(n:wX W k body):∀ (f:Addr) (cdv:Value) (A:Around) (outer:List Env) (s:Shared) (H:Hp) (vs:List V) (Q:VK) (E:L2.XK),Room k (A.deeper (envOfC x (zc st) s.heap.objs.size f cdv))->SpM W ms (fnD ms N.length body) vs H Q E ->
   ∃ t,PSs (cxOf (CXE W.P W.w) W.P W.w W.K W.mg W.base N x (zc st) f cdv A outer s H E) (ze st) t/\t { nx:=λ_ H'=>Q .non H',rt:=Q } (L2.start N vs) H:=λf cdv A outer s H vs Q E hr h=>by
 obtain⟨F,as,γ,Q4,X4,st0,rfl,hl,⟨_,po⟩,q,xx⟩:=h
 refine⟨_,zfV body (X:=cxOf (CXE W.P W.w) W.P W.w W.K W.mg W.base N x (zc st) f cdv A outer s H E) (E:=λc d _ H'=>E c d H') ⟨⟨rfl,rfl,rfl,rfl,rfl,rfl,Sc.nd,rfl,rfl,λ_=>hr,Nat.lt_of_le_of_lt (uJ (Nat.add_le_add_left (by lia:64<=16 * k+200) _) (Up (gg _ _ _).symm)) hr.un,zbh⟩,PassesOwn.leaving,λ_=>rfl,rfl,rfl⟩ hc n,?_⟩
 have hl':(vals as).length=ms.length:=by rw [ue];exact hl
 refine⟨F,_,_,_,γ,_,_,Xc st0 hl (by lia),po,λF' H' s' τ' σ' R h=>?_,λF' H' s' τ' σ' t v R h=>?_,λ_ _ _ _ _ _ h=>h.elim,λ_ _ _ _ _ _ h=>h.elim,λex F' H' s' τ' σ' ws c d R hx h=>?_⟩
 ·obtain⟨r,e,h⟩:=zz h
  obtain⟨Bs,rfl,g2,g3⟩:=R.ret hl' e
  exact q F' H' (.lf .non .non) Bs (g3.leaf (t:=.non) rfl rfl) g2 h
 ·obtain⟨r,e,h⟩:=zz h
  obtain⟨b,rfl,rfl,_,R2⟩:=R.opened
  obtain⟨Bs,rfl,g2,g3⟩:=R2.ret hl' e
  exact q F' H' b Bs (g3.perm uH) g2 h
 ·obtain⟨r,e,h⟩:=zz h
  obtain⟨Bs,rfl,g2,g3⟩:=R.retX (XX hl') hl' e
  exact xx ex F' H' Bs c d g3 g2 hx h
theorem Km {ms:List Md}{f:Fn}{vs:List V}{Q:VK}{E:L2.XK}(h:SpM W ms f vs H Q E):vs.length=ms.length:=by
 obtain⟨_,as,_,_,_,_,rfl,hl,_⟩:=h
 rw [ue];exact hl
theorem qC {x:Str}{st:Stmt}{ps N:Lh}{ms:List Md}{body:List Cm}(D:Df W.K W.mg x st ps)(Sc:zg N ps (zc st))(hc:zw ⟨N,zc st,true⟩ body (ze st)=true)(hp:ms.length=ps.length)(hp':ms.length<=N.length)(n:wX W k body):OkX W.P W.w W.K W.mg W.base (k+1) x ps (SpM W ms (fnD ms N.length body)):=
 D.okX Sc (λvs H Q E h=>(Km h).trans hp) (zaE Sc hc hp' n)
structure Mdf (K:Le)(C:Addr)(m qual:Str)(st:Stmt)(ps:Lh):Prop where
 ex:∃ (f:Addr) (fd:FuncData),Fun K m qual st f fd/\Binds K fd ps []/\Cls K C/\Meth K C m f
structure Cdf (K:Le)(mg:La)(C:Addr)(x qual:Str)(st:Stmt)(ps:Lh):Prop where
 ex:∃ (f:Addr) (fd:FuncData),Fun K "__init__" qual st f fd/\Binds K fd ps []/\Mk K C f/\mg x=some (.ref C)
theorem zdk {m x:Str}{st:Stmt}{ps N:Lh}{ms:List Md}{body:List Cm}{f:Addr}{fd:FuncData}(F:Fun W.K m x st f fd)(Sc:zg N ps (zc st))(hc:zw ⟨N,zc st,true⟩ body (ze st)=true)(hp:ms.length=ps.length)(hp':ms.length<=N.length)(n:wX W k body):FnOk W.P W.w W.K W.mg W.base (CXE W.P W.w) (k+1) f fd ps (SpM W ms (fnD ms N.length body)):=by
 obtain⟨oc,od,kV,doc,pm,an,cdv,ct,osl,rfl,lk,hcd⟩:=F.ex
 exact zb0 lk hcd Sc (λvs H Q E h=>(Km h).trans hp) λA outer s H vs Q E hr h=>zaE Sc hc hp' n f cdv A outer s H vs Q E hr h
theorem Zz {m x:Str}{c:Nat}{st:Stmt}{ps N:Lh}{ms:List Md}{body:List Cm}(D:Mdf W.K (W.cl c) m x st ps)(Sc:zg N ps (zc st))(hc:zw ⟨N,zc st,true⟩ body (ze st)=true)(hp:ms.length=ps.length)(hp':ms.length<=N.length)(n:wX W k body):OkMt W (k+1) (W.cl c) m ps (SpM W ms (fnD ms N.length body)):=by
 obtain⟨f,fd,F,b,cl,hm'⟩:=D.ex
 exact⟨f,fd,cl,hm',b,zdk F Sc hc hp hp' n⟩
theorem zdl {x y:Str}{c:Nat}{st:Stmt}{ps N:Lh}{ms:List Md}{body:List Cm}(D:Cdf W.K W.mg (W.cl c) y x st ps)(Sc:zg N ps (zc st))(hc:zw ⟨N,zc st,true⟩ body (ze st)=true)(hp:ms.length=ps.length)(hp':ms.length<=N.length)(n:wX W k body):OkMk W (k+1) (W.cl c) y ps (SpM W ms (fnD ms N.length body)):=by
 obtain⟨f,fd,F,b,M,e⟩:=D.ex
 exact⟨f,fd,M,b,e,zdk F Sc hc hp hp' n⟩
noncomputable def Ye (K:Le):Sp:=λvs H Q _=>∃ (a:Addr) (ns:List Int),vs=[.ref a]/\SqL K H a (ns.map V.int)/\ns.length<=63/\∀ H',Q (.bl true) H'
theorem XY:∀ ns:List Int,IsVs W F (ns.map T.int) (ns.map V.int)/\shrs (ns.map T.int)=true
 | []=>⟨rfl,rfl⟩
 | n::ns=>⟨⟨_,_,rfl,rfl,(XY ns).1⟩,(XY ns).2⟩
theorem zhZ {x y:Str}{st:Stmt}{N:Lh}{body:List Cm}(D:Df W.K W.mg x st [y])(Sc:zg N [y] (zc st))(h1:1<=N.length)
  (hc:zw ⟨N,zc st,true⟩ body (ze st)=true) (n:wX W k body) (hl:∀ ns:List Int,ns.length<=63->fnD [.mv] N.length body [.ks true (ns.map .int)] (λt _=>t=.bl true) (λ_ _=>False)):OkF W.P W.w W.K W.mg W.base (k+1) x [y] (Ye W.K):=by
 refine D.ok Sc (λvs H Q E h=>by obtain⟨_,_,rfl,_⟩:=h;rfl) (λf cdv A outer s H vs Q E hr h=>?_)
 obtain⟨a,ns,rfl,hS,h63,q⟩:=h
 refine⟨_,zfV body (E:=noE) ⟨⟨rfl,rfl,rfl,rfl,rfl,rfl,Sc.nd,rfl,rfl,λ_=>hr,Nat.lt_of_le_of_lt (uJ (Nat.add_le_add_left (by lia:64<=16 * k+200) _) (Up (gg _ _ _).symm)) hr.un,λe s' z=>?_⟩,PassesOwn.never,λ_=>rfl,rfl,rfl⟩ hc n,?_⟩
 ·obtain⟨_,_,_,_,_,_,_,_,_,_,_,_,z⟩:=z
  exact z.elim
 ·obtain⟨i1,i2⟩:=XY (W:=W) (F:=H) ns
  have st0:St W H H ([.lf (.ks true (ns.map .int)) (.ref a)]++[]):=⟨λ_ _ h=>h,⟨⟨rfl,a,_,rfl,hS,i2,i1⟩,trivial⟩,.nil,λ_ h=>by cases h⟩
  obtain⟨_,po⟩:=hl ns h63
  refine⟨H,_,_,_,[],_,_,Xc (ms:=[.mv]) st0 rfl h1,po,λF' H' s' τ' σ' R h=>?_,λF' H' s' τ' σ' t v R h=>?_,λ_ _ _ _ _ _ h=>h.elim,λ_ _ _ _ _ _ h=>h.elim,λex F' H' s' τ' σ' ws c d R hx h=>?_⟩
  ·obtain⟨r,e,h⟩:=zz h
   cases h
  ·obtain⟨r,e,h⟩:=zz h
   obtain⟨b,eb,rfl,hb,_⟩:=R.opened
   rw [Zt hb (eb.trans h)]
   exact q H'
  ·obtain⟨r,e,h⟩:=zz h
   exact h.elim
end L5
namespace L5
open PySem L2 PySem.Spec PyProof.Rows
theorem JH {α:Type}{f g:α->T}{tt:Sl->Sl->(Bool->KP)->Prop}{fe:Sl->Sl->KP->Prop}{s τ s1 τ1:Sl}{K:List T->KP}(e1:mapO (shN 1) s=some s1)(e2:mapO (shN 1) τ=some τ1)(e3:mapO (unN 1) s1=some s)(e4:mapO (unN 1) τ1=some τ) :
  ∀ {xs:List α} {acc:List T},(∀ a∈xs,∀ K:Bool->KP,K true (.own (f a)::s1) τ1->tt (.own (f a)::s1) τ1 K)->(∀ a∈xs,∀ K:KP,K (.own (f a)::s1) (.own (g a)::τ1)->fe (.own (f a)::s1) τ1 K)->acc.length+xs.length<=16777216->K (acc++xs.map g) s τ->Jv 1 tt fe (xs.map f) acc s τ K
 | [],acc,_,_,_,h=>by rw [Uw,uk] at h;exact h
 | a::xs,acc,ht,hf,hl,h=>by
  rw [ub] at hl
  refine za e1 (za e2 (ht a uf _ (hf a uf _ ⟨by lia,za e3 (za e4 ?_)⟩)))
  refine JH e1 e2 e3 e4 (λb hb=>ht b (uh _ hb)) (λb hb=>hf b (uh _ hb)) ?_ ?_
  ·rw [ua,ub,uc];lia
  ·rw [ud];exact h
theorem zfW {g:T->T}{tt:Sl->Sl->(Bool->KP)->Prop}{fe:Sl->Sl->KP->Prop}{s τ s1 τ1:Sl}{K:List T->KP}(e1:mapO (shN 1) s=some s1)(e2:mapO (shN 1) τ=some τ1)(e3:mapO (unN 1) s1=some s)(e4:mapO (unN 1) τ1=some τ){xs:List T}(ht:∀ a∈xs,∀ K:Bool->KP,K true (.own a::s1) τ1->tt (.own a::s1) τ1 K)(hf:∀ a∈xs,∀ K:KP,K (.own a::s1) (.own (g a)::τ1)->fe (.own a::s1) τ1 K)(hl:xs.length<=16777216)(h:K (xs.map g) s τ):Jv 1 tt fe xs [] s τ K:=by
 have:=JH (f:=λx=>x) (g:=g) (acc:=[]) (K:=K) e1 e2 e3 e4 ht hf (by simpa using hl) h
 rwa [Ux] at this
theorem zaF {t:Tg}{o:Option T}{body:Sl->Sl->KP->Ends->Prop}{K:KP}{D:Ends}(I:Nat->Sl->Sl->Prop):∀ {ds:List T} {i:Nat} {s τ:Sl},I i s τ->(∀ j d s τ (K':KP),ds[j]? = some d->I (i+j) s τ->(∀ s τ,I (i+j+1) s τ->K' s τ)->zaa t d s τ λs1 τ1=>body s1 τ1 K' { rt:=λr s τ=>bnd2 (unS o s τ) (D.rt r),bk:=λs τ=>bnd2 (unS o s τ) K,ct:=K',ex:=D.ex })->(∀ s τ,I (i+ds.length) s τ->bnd2 (unS o s τ) K)->Z7 t o body K D ds s τ
 | [],i,s,τ,h0,_,he=>he s τ h0
 | d::ds,i,s,τ,h0,hs,he=>by
  refine hs 0 d s τ _ rfl h0 λs1 τ1 h1=>zaF I (i:=i+1) h1 (λj e s2 τ2 K' hd h2 hK=>?_) λs2 τ2 h2=>he s2 τ2 (by rw [ub,show i+(ds.length+1)=i+1+ds.length by lia];exact h2)
  exact hs (j+1) e s2 τ2 K' hd (by rw [show i+(j+1)=i+1+j by lia];exact h2) λs3 τ3 h3=>hK s3 τ3 (by rw [show i+1+j+1=i+(j+1)+1 by lia];exact h3)
theorem wB {t:Tg}{o:Option T}{body:Sl->Sl->KP->Ends->Prop}{K:KP}{D:Ends}{ds:List T}{s τ:Sl}(I:Nat->Sl->Sl->Prop)(h0:I 0 s τ)(hs:∀ j d s τ (K':KP),ds[j]? = some d->I j s τ->(∀ s τ,I (j+1) s τ->K' s τ)->zaa t d s τ λs1 τ1=>body s1 τ1 K' { rt:=λr s τ=>bnd2 (unS o s τ) (D.rt r),bk:=λs τ=>bnd2 (unS o s τ) K,ct:=K',ex:=D.ex }) (he:∀ s τ,I ds.length s τ->bnd2 (unS o s τ) K):Z7 t o body K D ds s τ:=
 zaF I (i:=0) h0 (λj d s τ K' hd h1 hK=>hs j d s τ K' hd (by rw [← UE j];exact h1) λs τ h=>hK s τ (by rw [UE];exact h)) λs τ h=>he s τ (by rw [← UE ds.length];exact h)
theorem zdm {test:Sl->Sl->(Bool->KP)->Prop}{body:Sl->Sl->KP->Ends->Prop}{K:KP}{D:Ends}(I:Nat->Sl->Sl->Prop)(hs:∀ m s τ (K':KP),I m s τ->(∀ m' s τ,m' < m->I m' s τ->K' s τ)->test s τ λb s1 τ1=>brn b (body s1 τ1 K' { rt:=D.rt,bk:=K,ct:=K',ex:=D.ex }) (K s1 τ1)):∀ {n m:Nat} {s τ:Sl},m<n->I m s τ->W0 test body K D n s τ
 | 0,_,_,_,h,_=>absurd h (gZ _)
 | n+1,m,s,τ,h,h0=>hs m s τ _ h0 λm' s1 τ1 hm h1=>zdm I hs (by omega) h1
theorem zdn {test:Sl->Sl->(Bool->KP)->Prop}{body:Sl->Sl->KP->Ends->Prop}{K:KP}{D:Ends}{s τ:Sl}(I:Nat->Sl->Sl->Prop)(m:Nat)(h0:I m s τ)(hs:∀ m s τ (K':KP),I m s τ->(∀ m' s τ,m' < m->I m' s τ->K' s τ)->test s τ λb s1 τ1=>brn b (body s1 τ1 K' { rt:=D.rt,bk:=K,ct:=K',ex:=D.ex }) (K s1 τ1)):∃ n,W0 test body K D n s τ:=⟨m+1,zdm I hs (UQ m) h0⟩
theorem kj {xs:List T}{s τ:Sl}{b:Bool}(h:shrs xs=true):itS .seq 1 s (.own (.nd b .ls xs)::τ)=some ((xs,none),(s,τ)):=by
 show(cond (shrs xs) (some xs) (some (views xs))).bind _=_
 rw [h];rfl
theorem zh0 {xs:List T}{s τ:Sl}(h:shrs xs=true):itS .seq 1 s (.own (.tp xs)::τ)=some ((xs,none),(s,τ)):=by
 show(cond (shrs xs) (some xs) (some (views xs))).bind _=_
 rw [h];rfl
theorem zh1 {xs:List T}{s τ:Sl}{l:Bool}(h:shrs xs=true):itS .seq 1 s (.own (.ks l xs)::τ)=some ((xs,none),(s,τ)):=by
 show(cond (shrs xs) (some xs) (some (views xs))).bind _=_
 rw [h];rfl
theorem xQ {n k:Nat}(h:k<n):ixN n (k:Int)=some k:=by unfold ixN;rw [uw (by lia),uw (by lia)];rfl
theorem Yg {n:Nat}:ixN (n+1) (-1)=some n:=by
 unfold ixN
 rw [uv (by lia),uw (by lia)]
 congr 1
 lia
theorem zdo {α β γ:Type}{a:α}{b:β}{f:α->β->Option γ}:two (some a) (some b) f=f a b:=rfl
theorem zaG {α:Type}(f:α->Bool):∀ xs:List α,blOs (xs.map λa=>.bl (f a))=some (xs.map f)
 | []=>rfl
 | x::xs=>by
  show two (some (f x)) (blOs (xs.map λa=>.bl (f a))) _=_
  rw [zaG f xs];rfl
section
variable {s s' τ τ':Sl} {i m:Nat} {p:Lc} {t t' u k o r:T} {xs ys ts:List T} {x:T} {c:Nat} {f:Str}
theorem jR (h:s[i]? = some (.own r))(e:getT p r=some t):getP s i p=some t:=by unfold getP;rw [h];exact e
theorem vN {s1 s2 τ1:Sl}{n:T}(h1:mapO (j6 i (p.length+1)) s=some s1)(h2:s1[i]? = some (.own r))(h3:setT p r n=some t')(h4:putN s1 i (.own t')=some s2)(h5:mapO (j6 i (p.length+1)) τ=some τ1):putSt s τ i p n=some (s2,τ1):=by
 unfold putSt
 rw [h1,uT,h2,uT]
 show(setT p r n).bind _=_
 rw [h3,uT,h4,uT,h5]
 rfl
theorem vx {b:List T}:getT (b.length::p) (.nd true .ls (b++[x]))=getT p x:=by
 show((b++[x])[b.length]?).bind _=_
 rw [uV (ui _),UO]
 rfl
theorem kl {b:List T}(h:setT p x u=some t'):setT (b.length::p) (.nd true .ls (b++[x])) u=some (.nd true .ls (b++[t'])):=by
 show((b++[x])[b.length]?).bind _=_
 rw [uV (ui _),UO]
 show(setT p x u).bind _=_
 rw [h]
 show(putN (b++[x]) b.length t').bind _=_
 rw [Zq (by simp)]
 show some (T.nd true .ls ((b++[x]).set b.length t'))=_
 rw [gB _ _ (ui _),UO]
 rfl
theorem vd (h:s[i]? = some (.own t))(hs:shr t=true):rdS s i=some (.own t):=by
 unfold rdS
 rw [h]
 show cond (shr t) _ _=_
 rw [hs];rfl
theorem zfa (h:shr t=true):frzS s (.own t::τ)=some (s,.own t::τ):=by
 show cond (shr t) _ _=_
 rw [h];rfl
theorem zjr {j:Nat}(h:s[i]? = some (.al j p))(g:getP s j p=some t)(hs:shr t=false):rdS s i=some (.al j p):=by
 unfold rdS
 rw [h]
 show(getP s j p).bind _=_
 rw [g]
 show cond (shr t) _ _=_
 rw [hs];rfl
theorem JI (h1:ixJ t k=some m)(h2:parts t=some xs)(h3:xs[m]? = some u)(h0:strO t=none:=by rfl):ixS s (.own k::.own t::τ)=some (.own u::τ):=by
 show orO (two (some t) (intO k) _) ((kF s (.own t) λt=>ixJ t k).bind _)=_
 have e:two (some t) (intO k) (λt i=>(strO t).bind λl=>(atI l i).bind λc=>some (Slot.own (.str [c])::τ))=none:=by
  cases intO k with
  | none=>rfl
  | some i=>show((strO t).bind _)=none;rw [h0];rfl
 rw [e]
 show((ixJ t k).bind _).bind _=_
 rw [h1]
 show((parts t).bind _).bind _=_
 rw [h2]
 show((xs[m]?).bind _).bind _=_
 rw [h3]
 rfl
theorem XZ {J:T->Option Nat}(g:getP s i p=some t)(h1:J t=some m)(h2:parts t=some xs)(h3:xs[m]? = some u):kF s (.al i p) J=cond (shr u) (some (.own u)) (some (.al i (p++[m]))):=by
 show(getP s i p).bind _=_
 rw [g]
 show(J t).bind _=_
 rw [h1]
 show(parts t).bind _=_
 rw [h2]
 show(xs[m]?).bind _=_
 rw [h3]
 rfl
theorem X0 (g:getP s i p=some t)(h1:ixJ t k=some m)(h2:parts t=some xs)(h3:xs[m]? = some u)(hs:shr u=true):ixS s (.own k::.al i p::τ)=some (.own u::τ):=by
 show((kF s (.al i p) λt=>ixJ t k).bind _)=_
 rw [XZ g h1 h2 h3,hs]
 rfl
theorem yb (g:getP s i p=some t)(h1:ixJ t k=some m)(h2:parts t=some xs)(h3:xs[m]? = some u)(hs:shr u=false):ixS s (.own k::.al i p::τ)=some (.al i (p++[m])::τ):=by
 show((kF s (.al i p) λt=>ixJ t k).bind _)=_
 rw [XZ g h1 h2 h3,hs]
 rfl
theorem zjs (g:getP s i p=some t)(h1:fldJ t c f=some m)(h2:parts t=some xs)(h3:xs[m]? = some u)(hs:shr u=false):atS s c f (.al i p::τ)=some (.al i (p++[m])::τ):=by
 show((kF s (.al i p) λt=>fldJ t c f).bind _)=_
 rw [XZ g h1 h2 h3,hs]
 rfl
theorem yc {b:List T}{o:Bool}:ixJ (.nd o .ls (b++[x])) (.int (-1))=some b.length:=by
 show ixN (b++[x]).length (-1)=_
 rw [ua]
 exact Yg
theorem yd {b:List T}:(b++[x])[b.length]? = some x:=by rw [uV (ui _),UO];rfl
theorem Kn (g:getP s i p=some t)(e:subF t k o=some t')(hp:putSt s τ i p t' = some (s',τ')):subS s (.own k::.al i p::.own o::τ)=some (s',τ'):=by
 show(getP s i p).bind _=_
 rw [g]
 show(subF t k o).bind _=_
 rw [e]
 exact hp
theorem zdp {b:List T}:subF (.nd true .ls (b++[x])) (.int (-1)) o=some (.nd true .ls (b++[o])):=by
 show(ixN (b++[x]).length (-1)).bind _=_
 rw [ua]
 rw [show ixN (b.length + [x].length) (-1)=some b.length from Yg]
 show(putN (b++[x]) b.length o).bind _=_
 rw [Zq (by simp)]
 show some (T.nd true .ls ((b++[x]).set b.length o))=_
 rw [gB _ _ (ui _),UO]
 rfl
theorem qe {mm:MU}(g:getP s i p=some (.nd true .ls xs))(e:muF mm xs ts=some (ys,r))(hp:putSt s τ i p (.nd true .ls ys)=some (s',τ')):muS mm s (.al i p::τ) ts=some (s',.own r::τ'):=by
 show(getP s i p).bind _=_
 rw [g]
 show(muF mm xs ts).bind _=_
 rw [e]
 show(putSt s τ i p (.nd true .ls ys)).bind _=_
 rw [hp]
 rfl
theorem kT (g:getP s i p=some (.nd true .ls xs)):ckL s (.al i p::τ)=true:=by
 show(match getP s i p with
  | some (.nd true .ls _)=>true
  | _=>false)=true
 rw [g]
theorem jy (h:xs.length<16777216):muF .append xs [u]=some (xs++[u],.non):=by
 show(if xs.length<16777216 then some (xs++[u],T.non) else none)=_
 rw [uw h]
theorem X1 {b:List T}:muF .pop (b++[x]) []=some (b,x):=by
 show((b++[x]).getLast?).bind _=_
 rw [UW]
 show some ((b++[x]).dropLast,x)=_
 rw [List.dropLast_concat]
theorem zf {a b:Lc}(h:a.length+b.length<=16777216):opF .add [.str a,.str b]=some (.str (a++b)):=by
 show orO (if a.length+b.length<=16777216 then some (T.str (a++b)) else none) _=_
 rw [uw h]
 rfl
theorem X2 {a b:List T}{o o':Bool}(h:a.length+b.length<=16777216)(ha:shrs a=true)(hb:shrs b=true):opF .add [.nd o .ls a,.nd o' .ls b]=some (.nd true .ls (a++b)):=by
 show orO (if a.length+b.length<=16777216/\(shrs a&&shrs b)=true then some (T.nd true .ls (a++b)) else none) _=_
 rw [uw ⟨h,by rw [ha,hb];rfl⟩]
 rfl
theorem zfb {y:T}(g:getP s i p=some t):popT s 2 (.own y::.al i p::τ) []=some ([t,y],τ):=by
 show(getP s i p).bind _=_
 rw [g]
 rfl
theorem zfc (g:getP s i p=some t):popT s 1 (.al i p::τ) []=some ([t],τ):=by
 show(getP s i p).bind _=_
 rw [g]
 rfl
end
section
variable {s s1 s2 τ τ1 τ2 xs xs1:Sl} {ms:List Md} {i:Nat} {p:Lc} {t:T} {ts:List T} {ps:Pl}
theorem wZ {b:Bool}{P R:Prop}(h:b=true)(q:P):Bool.rec (motive:=λ_=>Prop) R P b:=by subst h;exact q
theorem jV {b:Bool}{P R:Prop}(h:b=false)(q:R):Bool.rec (motive:=λ_=>Prop) R P b:=by subst h;exact q
theorem take1 (g:getP s i p=some t)(hp:putSt s τ i p .any=some (s1,τ1))(hx:mapO (j6 i 0) xs=some xs1)(hr:v9 ms xs1 s1 τ1=some ((ts,ps),(s2,τ2))):v9 (.mu::ms) (.al i p::xs) s τ=some ((t::ts,some (i,p)::ps),(s2,τ2)):=by
 show(getP s i p).bind _=_
 rw [g]
 show(putSt s τ i p .any).bind _=_
 rw [hp]
 show(mapO (j6 i 0) xs).bind _=_
 rw [hx]
 show(v9 ms xs1 s1 τ1).bind _=_
 rw [hr]
 rfl
theorem zdq (hr:wM ps ts s τ=some (s1,τ1))(g:getP s1 i p=some .any)(hp:putSt s1 τ1 i p t=some (s2,τ2)):wM (some (i,p)::ps) (t::ts) s τ=some (s2,τ2):=by
 show(wM ps ts s τ).bind _=_
 rw [hr]
 show(getP s1 i p).bind _=_
 rw [g]
 exact hp
theorem Ko {c:Nat}{m:Str}{o:Nat×Lh×List T}(g:getP s i p=some t)(e:obO t=some o)(h1:o.1=c)(h2:o.2.1.contains m=false):ckM s (.mt c m) (.al i p::τ)=true:=by
 show(match (getP s i p).bind obO with
   | some o=>o.1 == c&&!o.2.1.contains m
   | none=>false)=true
 rw [g]
 show(match obO t with
   | some o=>o.1 == c&&!o.2.1.contains m
   | none=>false)=true
 rw [e]
 show(o.1 == c&&!o.2.1.contains m)=true
 rw [h1,h2,uW]
 rfl
end
theorem Yh {α:Type}(f:α->Lc):∀ xs:List α,WY (xs.map λa=>.str (f a))=some (xs.map f)
 | []=>rfl
 | x::xs=>by
  show two (some (f x)) (WY (xs.map λa=>.str (f a))) _=_
  rw [Yh f xs];rfl
theorem X3 {α:Type}{f:α->Lc}{xs:List α}{o:Bool}(h:(xs.map f).flatten.length<=16777216):meF .join [] [.nd o .ls (xs.map λa=>.str (f a))]=some (.str (xs.map f).flatten):=by
 show(WY (xs.map λa=>.str (f a))).bind _=_
 rw [Yh]
 show(if _ then _ else _)=_
 rw [uw ⟨rfl,h⟩]
end L5
set_option maxHeartbeats 4000000
namespace My
open PySem L2 L5 PySem.Spec PyProof.Rows
local macro_rules | `(tactic| walk_at "sc") => `(tactic| exact ⟨rfl, rfl, rfl, by decide +kernel, rfl, by decide +kernel, by decide +kernel⟩)
noncomputable def top (i:Nat):Stmt:=PySem.Challenge.pw_sealpress_k56_whole_there_and_back.main.body.getD i (.Pass ⟨0,0,0,0⟩)
noncomputable def topC (i j:Nat):Stmt:=match top i with
 | .ClassDef _ _ _ body _ _ _ _ _ _ _=>body.getD j (.Pass ⟨0,0,0,0⟩)
 | _=>.Pass ⟨0,0,0,0⟩
noncomputable abbrev yw:Stmt:=top 2
noncomputable abbrev Yi:Lh:=["words"]
noncomputable abbrev km:Lh:=["words"]
theorem zbA:zg Yi km (zc yw):=by walk_at "sc"
noncomputable abbrev jf:Stmt:=top 3
noncomputable abbrev yx:Lh:=["text"]
noncomputable abbrev jK:Lh:=["text"]
theorem QD:zg yx jK (zc jf):=by walk_at "sc"
noncomputable abbrev jg:Stmt:=top 4
noncomputable abbrev Qu:Lh:=["pieces"]
noncomputable abbrev qI:Lh:=["pieces"]
theorem X5:zg Qu qI (zc jg):=by walk_at "sc"
noncomputable abbrev qJ:Stmt:=top 5
noncomputable abbrev ZA:Lh:=["piece","word","begin","behind"]
noncomputable abbrev qU:Lh:=["piece"]
theorem Wk:zg ZA qU (zc qJ):=by walk_at "sc"
noncomputable abbrev qV:Stmt:=top 6
noncomputable abbrev kH:Lh:=["pieces"]
noncomputable abbrev zT:Lh:=["pieces"]
theorem yy:zg kH zT (zc qV):=by walk_at "sc"
noncomputable abbrev j8:Stmt:=top 7
noncomputable abbrev ZC:Lh:=["sheet","over"]
noncomputable abbrev wC:Lh:=["sheet"]
theorem Wl:zg ZC wC (zc j8):=by walk_at "sc"
noncomputable abbrev vy:Stmt:=top 15
noncomputable abbrev Yj:Lh:=["pieces","own","piece"]
noncomputable abbrev xn:Lh:=["pieces"]
theorem Xd:zg Yj xn (zc vy):=by walk_at "sc"
noncomputable abbrev qD:Stmt:=topC 29 0
noncomputable abbrev vz:Lh:=["self","over","pieces"]
noncomputable abbrev q9:Lh:=["self","over","pieces"]
theorem ZD:zg vz q9 (zc qD):=by walk_at "sc"
noncomputable abbrev vA:Stmt:=top 16
noncomputable abbrev Yk:Lh:=["pieces","found","piece","part"]
noncomputable abbrev xp:Lh:=["pieces"]
theorem Xe:zg Yk xp (zc vA):=by walk_at "sc"
noncomputable abbrev jh:Stmt:=topC 29 1
noncomputable abbrev yz:Lh:=["self"]
noncomputable abbrev jL:Lh:=["self"]
theorem QF:zg yz jL (zc jh):=by walk_at "sc"
noncomputable abbrev wO:Stmt:=top 22
noncomputable abbrev Qv:Lh:=["thing","at","sign"]
noncomputable abbrev xc:Lh:=["thing"]
theorem X6:zg Qv xc (zc wO):=by walk_at "sc"
noncomputable abbrev qk:Stmt:=topC 30 0
noncomputable abbrev xR:Lh:=["self","word","name"]
noncomputable abbrev qK:Lh:=["self","word","name"]
theorem kU:zg xR qK (zc qk):=by walk_at "sc"
noncomputable abbrev qE:Stmt:=topC 31 0
noncomputable abbrev vB:Lh:=["self"]
noncomputable abbrev ja:Lh:=["self"]
theorem ZE:zg vB ja (zc qE):=by walk_at "sc"
noncomputable abbrev z8:Stmt:=topC 30 1
noncomputable abbrev xB:Lh:=["self","piece","pieces"]
noncomputable abbrev qA:Lh:=["self","piece"]
theorem kx:zg xB qA (zc z8):=by walk_at "sc"
noncomputable abbrev zV:Stmt:=topC 30 2
noncomputable abbrev w6:Lh:=["self"]
noncomputable abbrev ql:Lh:=["self"]
theorem yA:zg w6 ql (zc zV):=by walk_at "sc"
noncomputable abbrev ji:Stmt:=topC 30 3
noncomputable abbrev yB:Lh:=["self"]
noncomputable abbrev jM:Lh:=["self"]
theorem QG:zg yB jM (zc ji):=by walk_at "sc"
noncomputable abbrev z9:Stmt:=topC 31 1
noncomputable abbrev xC:Lh:=["self"]
noncomputable abbrev qB:Lh:=["self"]
theorem ky:zg xC qB (zc z9):=by walk_at "sc"
noncomputable abbrev qm:Stmt:=topC 31 2
noncomputable abbrev xS:Lh:=["self","token","at","word"]
noncomputable abbrev qL:Lh:=["self","token","at"]
theorem kW:zg xS qL (zc qm):=by walk_at "sc"
noncomputable abbrev zW:Stmt:=topC 31 3
noncomputable abbrev xa:Lh:=["self","word","name"]
noncomputable abbrev qo:Lh:=["self","word","name"]
theorem yC:zg xa qo (zc zW):=by walk_at "sc"
noncomputable abbrev j9:Stmt:=topC 31 4
noncomputable abbrev ZF:Lh:=["self","token","at","word","last"]
noncomputable abbrev wD:Lh:=["self","token","at"]
theorem Wm:zg ZF wD (zc j9):=by walk_at "sc"
noncomputable abbrev jF:Stmt:=topC 31 5
noncomputable abbrev kI:Lh:=["self","at"]
noncomputable abbrev wa:Lh:=["self","at"]
theorem JJ:zg kI wa (zc jF):=by walk_at "sc"
noncomputable abbrev vC:Stmt:=top 21
noncomputable abbrev Xf:Lh:=["thing"]
noncomputable abbrev vO:Lh:=["thing"]
theorem Kq:zg Xf vO (zc vC):=by walk_at "sc"
noncomputable abbrev jG:Stmt:=top 32
noncomputable abbrev kJ:Lh:=["word"]
noncomputable abbrev wb:Lh:=["word"]
theorem JK:zg kJ wb (zc jG):=by walk_at "sc"
noncomputable abbrev xD:Stmt:=top 33
noncomputable abbrev JL:Lh:=["inside","words"]
noncomputable abbrev xT:Lh:=["inside"]
theorem Yl:zg JL xT (zc xD):=by walk_at "sc"
noncomputable abbrev xE:Stmt:=top 34
noncomputable abbrev JM:Lh:=["text","at","stop","inside"]
noncomputable abbrev xU:Lh:=["text","at"]
theorem Ym:zg JM xU (zc xE):=by walk_at "sc"
noncomputable abbrev wc:Stmt:=top 35
noncomputable abbrev ZG:Lh:=["text","draft","at","found"]
noncomputable abbrev wF:Lh:=["text"]
theorem Wn:zg ZG wF (zc wc):=by walk_at "sc"
noncomputable abbrev jj:Stmt:=top 37
noncomputable abbrev yD:Lh:=["_law_script","_law_k"]
noncomputable abbrev jN:Lh:=["_law_script","_law_k"]
theorem QH:zg yD jN (zc jj):=by walk_at "sc"
noncomputable abbrev we:Stmt:=top 38
noncomputable abbrev ZH:Lh:=["_law_cell","_law_k","_law_first","_law_second","_law_number"]
noncomputable abbrev wG:Lh:=["_law_cell","_law_k"]
theorem Wo:zg ZH wG (zc we):=by walk_at "sc"
noncomputable abbrev wg:Stmt:=top 41
noncomputable abbrev ZI:Lh:=["_law_cell","_law_many","_law_letters","_law_ahead","_law_number","_law_size","_law_at","_law_names_here","_law_k","_law_name","_law_j","_law_pool","_law_word_here"]
noncomputable abbrev wH:Lh:=["_law_cell","_law_many"]
theorem Wq:zg ZI wH (zc wg):=by walk_at "sc"
noncomputable abbrev wQ:Stmt:=top 39
noncomputable abbrev Qw:Lh:=["_law_cell"]
noncomputable abbrev xf:Lh:=["_law_cell"]
theorem X7:zg Qw xf (zc wQ):=by walk_at "sc"
noncomputable abbrev xF:Stmt:=top 42
noncomputable abbrev JN:Lh:=["_law_stack","_law_piece","_law_here"]
noncomputable abbrev xV:Lh:=["_law_stack","_law_piece"]
theorem Yn:zg JN xV (zc xF):=by walk_at "sc"
noncomputable abbrev wR:Stmt:=top 43
noncomputable abbrev Qx:Lh:=["_law_stack","_law_word_here","_law_name","_law_parts"]
noncomputable abbrev xg:Lh:=["_law_stack"]
theorem X8:zg Qx xg (zc wR):=by walk_at "sc"
noncomputable abbrev wj:Stmt:=top 40
noncomputable abbrev ZJ:Lh:=["_law_low"]
noncomputable abbrev wI:Lh:=[]
theorem Wr:zg ZJ wI (zc wj):=by walk_at "sc"
noncomputable abbrev jk:Stmt:=top 44
noncomputable abbrev yE:Lh:=["_law_stack","_law_number","_law_signs_here","_law_text","_law_rest_here","_law_k"]
noncomputable abbrev jO:Lh:=["_law_stack","_law_number"]
theorem QI:zg yE jO (zc jk):=by walk_at "sc"
noncomputable abbrev jH:Stmt:=top 45
noncomputable abbrev kK:Lh:=["_law_stack","_law_number","_law_names_here","_law_blocks","_law_word_here","_law_name"]
noncomputable abbrev wk:Lh:=["_law_stack","_law_number","_law_names_here","_law_blocks"]
theorem JO:zg kK wk (zc jH):=by walk_at "sc"
noncomputable abbrev wU:Stmt:=top 46
noncomputable abbrev Qy:Lh:=["_law_stack","_law_number","_law_names_here","_law_over","_law_way","_law_words","_law_name"]
noncomputable abbrev xh:Lh:=["_law_stack","_law_number","_law_names_here","_law_over"]
theorem X9:zg Qy xh (zc wU):=by walk_at "sc"
noncomputable abbrev wm:Stmt:=top 47
noncomputable abbrev ZK:Lh:=["_law_stack","_law_number","_law_names_here","_law_blocks","_law_over","_law_way"]
noncomputable abbrev wJ:Lh:=["_law_stack","_law_number","_law_names_here","_law_blocks","_law_over"]
theorem Ws:zg ZK wJ (zc wm):=by walk_at "sc"
noncomputable abbrev wV:Stmt:=top 48
noncomputable abbrev Qz:Lh:=["_law_script","_law_over","_law_names_here","_law_blocks","_law_stack","_law_tokens","_law_cell"]
noncomputable abbrev xi:Lh:=["_law_script","_law_over"]
theorem Va:zg Qz xi (zc wV):=by walk_at "sc"
noncomputable abbrev qF:Stmt:=top 49
noncomputable abbrev yF:Lh:=["_law_pieces","_law_text","_law_piece","_law_sign"]
noncomputable abbrev qh:Lh:=["_law_pieces"]
theorem ye:zg yF qh (zc qF):=by walk_at "sc"
noncomputable abbrev Yo:Stmt:=top 50
noncomputable abbrev zfX:Lh:=["_law_script","_law_over","_law_tokens","_law_pieces","_law_ahead","_law_name","_law_text","_law_due","_law_found","_law_told","_law_again"]
noncomputable abbrev Vb:Lh:=["_law_script"]
theorem zh2:zg zfX Vb (zc Yo):=by walk_at "sc"
noncomputable abbrev jt:List (Lc×T):=[([123],.str [123,40,125]),([125],.str [123,41,125])]
noncomputable abbrev g_SIGNS:T:=.str [32,33,34,35,36,38,39,40,41,42,43,44,45,46,47,48,49,50,51,52,53,54,55,56,57,58,59,60,61,62,63,64,65,66,67,68,69,70,71,72,73,74,75,76,77,78,79,80,81,82,83,84,85,86,87,88,89,90,91,92,93,94,95,96,97,98,99,100,101,102,103,104,105,106,107,108,109,110,111,112,113,114,115,116,117,118,119,120,121,122,123,124,125,126]
noncomputable abbrev g_LETTERS:T:=.str [97,98,99,100,101,102,103,104,105,106,107,108,109,110,111,112,113,114,115,116,117,118,119,120,121,122]
noncomputable abbrev g_LONGEST_NAME:T:=.int 8
noncomputable abbrev g_MOST_SIGNS:T:=.int 2000
noncomputable abbrev g_MOST_OPENED:T:=.int 12
noncomputable abbrev g_BRACE_WORDS:T:=.ks false [.str [101,97,99,104],.str [105,102],.str [101,108,115,101],.str [101,110,100],.str [98,108,111,99,107],.str [101,108,100,101,114],.str [100,114,97,119],.str [111,118,101,114]]
noncomputable abbrev ve:List (Lc×T):=[([40],.ks false [.str [108,105,116],.str [123]]),([41],.ks false [.str [108,105,116],.str [125]]),([101,108,115,101],.ks false [.str [101,108,115,101]]),([101,110,100],.ks false [.str [101,110,100]]),([101,108,100,101,114],.ks false [.str [101,108,100,101,114]])]
noncomputable abbrev g_OPENERS:T:=.ks false [.str [101,97,99,104],.str [105,102],.str [98,108,111,99,107]]
noncomputable def JP:List Cm:=[.ret (.ap .add [(.ap .add [(.c (.str [123])),(.v 0)]),(.c (.str [125]))])]
@[irreducible] noncomputable def qG:Fn:=fnD [.mv] 1 JP
noncomputable def xG:List Cm:=[.ret (.me .join (.c (.str [])) [(.lc (.ap (.kget "LITERAL_BRACES" jt) [(.v 0),(.v 0)]) 1 .seq [(.v 0)] [])])]
@[irreducible] noncomputable def qa:Fn:=fnD [.mv] 1 xG
noncomputable def yG (zh:Fn):List Cm:=[.ret (.ife (.t (.v 0)) (.ap .add [(.call (.fn "braced") [.mv] qG [(.c (.str [101,108,115,101]))]),(.call (.fn "pieces_text") [.mv] zh [(.v 0)])]) (.c (.str [])))]
noncomputable def qp (P:Fn):Fn:=fnD [.mv] 1 (yG P)
noncomputable def vP (qp:Fn)(zh:Fn):List Cm:=[.asg (.v 1) (.ix (.v 0) (.c (.int 0))),
  .ife (.ap .eq [(.v 1),(.c (.str [108,105,116]))]) [.ret (.call (.fn "literal_text") [.mv] qa [(.ix (.v 0) (.c (.int 1)))])] [],
  .ife (.ap .eq [(.v 1),(.c (.str [104,111,108,101]))]) [.ret (.call (.fn "braced") [.mv] qG [(.ix (.v 0) (.c (.int 1)))])] [],
  .ife (.ap .eq [(.v 1),(.c (.str [101,108,100,101,114]))]) [.ret (.call (.fn "braced") [.mv] qG [(.c (.str [101,108,100,101,114]))])] [],
  .asg (.v 2) (.call (.fn "braced") [.mv] qG [(.ap .add [(.ap .add [(.v 1),(.c (.str [32]))]),(.ix (.v 0) (.c (.int 1)))])]),
  .ife (.ap .eq [(.v 1),(.c (.str [100,114,97,119]))]) [.ret (.v 2)] [],
  .asg (.v 3) (.ife (.ap .eq [(.v 1),(.c (.str [105,102]))]) (.call (.fn "else_text") [.mv] qp [(.ix (.v 0) (.c (.int 3)))]) (.c (.str []))),
  .ret (.ap .add [(.ap .add [(.ap .add [(.v 2),(.call (.fn "pieces_text") [.mv] zh [(.ix (.v 0) (.c (.int 2)))])]),(.v 3)]),(.call (.fn "braced") [.mv] qG [(.c (.str [101,110,100]))])])]
noncomputable def zX (P:Fn):Fn:=fnD [.mv] 4 (vP (qp P) P)
noncomputable def vf (zX:Fn):List Cm:=[.ret (.me .join (.c (.str [])) [(.lc (.call (.fn "piece_text") [.mv] zX [(.v 0)]) 1 .seq [(.v 0)] [])])]
noncomputable def zh:Nat->Fn
 | 0=>λ_ _ _=>False
 | n+1=>fnD [.mv] 1 (vf (zX (zh n)))
noncomputable def vQ:List Cm:=[.asg (.v 1) (.ife (.ap .is [(.at (.v 0) 0 "over"),(.c .non)]) (.c (.str [])) (.call (.fn "braced") [.mv] qG [(.ap .add [(.c (.str [111,118,101,114,32])),(.at (.v 0) 0 "over")])])),
  .ret (.ap .add [(.v 1),(.call (.fn "pieces_text") [.mv] (zh 40) [(.at (.v 0) 0 "pieces")])])]
@[irreducible] noncomputable def zO:Fn:=fnD [.mv] 2 vQ
noncomputable def JQ (qb:Fn):List Cm:=[.asg (.v 1) (.lst []),
  .loop (.v 2) .seq [(.v 0)] [.ex (.mu .append (.v 1) [(.tpl (.lc (.ife (.t (.ap (.isi [.list]) [(.v 0)])) (.call (.fn "copied") [.mv] qb [(.v 0)]) (.v 0)) 1 .seq [(.v 2)] []))])],
  .ret (.m 1)]
noncomputable def qb:Nat->Fn
 | 0=>λ_ _ _=>False
 | n+1=>fnD [.mv] 3 (JQ (qb n))
noncomputable def wx:List Cm:=[.asg (.fld (.v 0) 0 "over") (.v 1),
  .asg (.fld (.v 0) 0 "pieces") (.call (.fn "copied") [.mv] (qb 40) [(.v 2)])]
@[irreducible] noncomputable def zF:Fn:=fnD [.mu,.mv,.mv] 3 wx
noncomputable def JR (qq:Fn):List Cm:=[.asg (.v 1) (.lst []),
  .loop (.v 2) .seq [(.v 0)] [.ex (.mu .append (.v 1) [(.v 2)]),
  .loop (.v 3) .seq [(.v 2)] [.ife (.t (.ap (.isi [.list]) [(.v 3)])) [.ex (.mu .extend (.v 1) [(.call (.fn "all_in") [.mv] qq [(.v 3)])])] []]],
  .ret (.m 1)]
noncomputable def qq:Nat->Fn
 | 0=>λ_ _ _=>False
 | n+1=>fnD [.mv] 4 (JR (qq n))
noncomputable def xH:List Cm:=[.ret (.ap .dict [(.lc (.fz (.tup [(.ix (.v 0) (.c (.int 1))),(.call (.fn "copied") [.mv] (qb 40) [(.ix (.v 0) (.c (.int 2)))])])) 1 .seq [(.call (.fn "all_in") [.mv] (qq 40) [(.at (.v 0) 0 "pieces")])] [(.ap .eq [(.ix (.v 0) (.c (.int 0))),(.c (.str [98,108,111,99,107]))])])])]
@[irreducible] noncomputable def zP:Fn:=fnD [.mv] 1 xH
noncomputable def yH:List Cm:=[.ife (.tn (.t (.ap (.isi [.str]) [(.v 0)]))) [.never] [],
  .loop (.tup [1,2]) .enumS [(.v 0)] [.ife (.ap .notin [(.v 2),(.g "SIGNS" g_SIGNS)]) [.never] []],
  .ret (.v 0)]
@[irreducible] noncomputable def jl:Fn:=fnD [.mv] 3 yH
noncomputable def wo:List Cm:=[.asg (.fld (.v 0) 1 "word") (.v 1),
  .asg (.fld (.v 0) 1 "name") (.v 2),
  .asg (.fld (.v 0) 1 "branches") (.lst [(.lst [])])]
@[irreducible] noncomputable def zy:Fn:=fnD [.mu,.mv,.mv] 3 wo
noncomputable def wy:List Cm:=[.asg (.fld (.v 0) 2 "over") (.c .non),
  .asg (.fld (.v 0) 2 "opened") (.lst [(.call (.mk 1 "Opened") [.mv,.mv] zy [(.c (.str [])),(.c (.str []))])]),
  .asg (.fld (.v 0) 2 "named") .dct]
@[irreducible] noncomputable def zQ:Fn:=fnD [.mu] 1 wy
noncomputable def jS:List Cm:=[.asg (.v 2) (.ix (.at (.v 0) 1 "branches") (.ap .neg [(.c (.int 1))])),
  .ife (.tb true [(.ap .eq [(.ix (.v 1) (.c (.int 0))),(.c (.str [108,105,116]))]),(.t (.v 2)),(.ap .eq [(.ix (.ix (.v 2) (.ap .neg [(.c (.int 1))])) (.c (.int 0))),(.c (.str [108,105,116]))])]) [.asg (.sub (.v 2) (.ap .neg [(.c (.int 1))])) (.tup [(.c (.str [108,105,116])),(.ap .add [(.ix (.ix (.v 2) (.ap .neg [(.c (.int 1))])) (.c (.int 1))),(.ix (.v 1) (.c (.int 1)))])])] [.ex (.mu .append (.v 2) [(.v 1)])]]
@[irreducible] noncomputable def zC:Fn:=fnD [.mu,.mv] 3 jS
noncomputable def jz:List Cm:=[.ret (.bo true [(.ap .eq [(.at (.v 0) 1 "word"),(.c (.str [105,102]))]),(.ap .eq [(.ap .len [(.at (.v 0) 1 "branches")]),(.c (.int 1))])])]
@[irreducible] noncomputable def zq:Fn:=fnD [.mu] 1 jz
noncomputable def xI:List Cm:=[.ife (.ap .ne [(.at (.v 0) 1 "word"),(.c (.str [105,102]))]) [.ret (.tup [(.at (.v 0) 1 "word"),(.at (.v 0) 1 "name"),(.fz (.ix (.at (.v 0) 1 "branches") (.c (.int 0))))])] [],
  .ret (.tup [(.c (.str [105,102])),(.at (.v 0) 1 "name"),(.fz (.ix (.at (.v 0) 1 "branches") (.c (.int 0)))),(.ife (.t (.call (.mt 1 "takes_else") [.mu] zq [(.v 0)])) (.fz (.lst [])) (.fz (.ix (.at (.v 0) 1 "branches") (.c (.int 1)))))])]
@[irreducible] noncomputable def qc:Fn:=fnD [.mu] 1 xI
noncomputable def jT:List Cm:=[.ret (.ap .eq [(.ap .len [(.at (.v 0) 2 "opened")]),(.c (.int 1))])]
@[irreducible] noncomputable def zp:Fn:=fnD [.mu] 1 jT
noncomputable def jb:List Cm:=[.asg (.v 3) (.ix (.v 1) (.c (.int 0))),
  .ife (.ap .eq [(.v 3),(.c (.str [111,118,101,114]))]) [.ret (.ap .eq [(.v 2),(.c (.int 0))])] [],
  .ife (.tb true [(.ap .isnot [(.at (.v 0) 2 "over"),(.c .non)]),(.t (.call (.mt 2 "is_outside") [.mu] zp [(.v 0)])),(.ap .ne [(.v 3),(.c (.str [98,108,111,99,107]))])]) [.ret (.c (.bl false))] [],
  .ife (.ap .eq [(.v 3),(.c (.str [101,108,115,101]))]) [.ret (.call (.mt 1 "takes_else") [.mu] zq [(.ix (.at (.v 0) 2 "opened") (.ap .neg [(.c (.int 1))]))])] [],
  .ife (.ap .eq [(.v 3),(.c (.str [101,110,100]))]) [.ret (.not (.call (.mt 2 "is_outside") [.mu] zp [(.v 0)]))] [],
  .ife (.ap .eq [(.v 3),(.c (.str [101,108,100,101,114]))]) [.ret (.ap .isnot [(.at (.v 0) 2 "over"),(.c .non)])] [],
  .ret (.c (.bl true))]
@[irreducible] noncomputable def zr:Fn:=fnD [.mu,.mv,.mv] 4 jb
noncomputable def jA:List Cm:=[.ife (.tb true [(.ap .eq [(.v 1),(.c (.str [98,108,111,99,107]))]),(.ap .isin [(.v 2),(.at (.v 0) 2 "named")])]) [.never] [],
  .ife (.ap .gt [(.ap .len [(.at (.v 0) 2 "opened")]),(.g "MOST_OPENED" g_MOST_OPENED)]) [.never] [],
  .ife (.ap .eq [(.v 1),(.c (.str [98,108,111,99,107]))]) [.asg (.sub (.at (.v 0) 2 "named") (.v 2)) (.c (.bl true))] [],
  .ex (.mu .append (.at (.v 0) 2 "opened") [(.call (.mk 1 "Opened") [.mv,.mv] zy [(.v 1),(.v 2)])])]
@[irreducible] noncomputable def zG:Fn:=fnD [.mu,.mv,.mv] 3 jA
noncomputable def vR:List Cm:=[.ife (.tb false [(.ap .is [(.v 1),(.c .non)]),(.tn (.t (.call (.mt 2 "can_stand") [.mu,.mv,.mv] zr [(.v 0),(.v 1),(.v 2)])))]) [.never] [],
  .asg (.v 3) (.ix (.v 1) (.c (.int 0))),
  .ife (.ap .eq [(.v 3),(.c (.str [111,118,101,114]))]) [.asg (.fld (.v 0) 2 "over") (.ix (.v 1) (.c (.int 1)))] [.ife (.ap .isin [(.v 3),(.g "OPENERS" g_OPENERS)]) [.ex (.call (.mt 2 "begin_piece") [.mu,.mv,.mv] zG [(.v 0),(.v 3),(.ix (.v 1) (.c (.int 1)))])] [.ife (.ap .eq [(.v 3),(.c (.str [101,108,115,101]))]) [.ex (.mu .append (.at (.ix (.at (.v 0) 2 "opened") (.ap .neg [(.c (.int 1))])) 1 "branches") [(.lst [])])] [.ife (.ap .eq [(.v 3),(.c (.str [101,110,100]))]) [.asg (.v 4) (.mu .pop (.at (.v 0) 2 "opened") []),
  .ex (.call (.mt 1 "add_piece") [.mu,.mv] zC [(.ix (.at (.v 0) 2 "opened") (.ap .neg [(.c (.int 1))])),(.call (.mt 1 "whole") [.mu] qc [(.v 4)])])] [.ex (.call (.mt 1 "add_piece") [.mu,.mv] zC [(.ix (.at (.v 0) 2 "opened") (.ap .neg [(.c (.int 1))])),(.v 1)])]]]]]
@[irreducible] noncomputable def zY:Fn:=fnD [.mu,.mv,.mv] 5 vR
noncomputable def vg:List Cm:=[.ife (.tn (.t (.call (.mt 2 "is_outside") [.mu] zp [(.v 0)]))) [.never] [],
  .ret (.call (.mk 0 "Sheet") [.mv,.mv] zF [(.at (.v 0) 2 "over"),(.fz (.ix (.at (.ix (.at (.v 0) 2 "opened") (.c (.int 0))) 1 "branches") (.c (.int 0))))])]
@[irreducible] noncomputable def qy:Fn:=fnD [.mu,.mv] 2 vg
noncomputable def Qc:List Cm:=[.ife (.tb false [(.tn (.t (.ap (.isi [.str]) [(.v 0)]))),(.tn (.chn .le .le (.c (.int 1)) (.ap .len [(.v 0)]) (.g "LONGEST_NAME" g_LONGEST_NAME)))]) [.ret (.c (.bl false))] [],
  .ret (.ap .all [(.lc (.ap .isin [(.v 0),(.g "LETTERS" g_LETTERS)]) 1 .seq [(.v 0)] [])])]
@[irreducible] noncomputable def ju:Fn:=fnD [.mv] 1 Qc
noncomputable def vh:List Cm:=[.ret (.bo true [(.call (.fn "is_name") [.mv] ju [(.v 0)]),(.ap .notin [(.v 0),(.g "BRACE_WORDS" g_BRACE_WORDS)])])]
@[irreducible] noncomputable def z0:Fn:=fnD [.mv] 1 vh
noncomputable def kX:List Cm:=[.asg (.v 1) (.me .split (.v 0) [(.c (.str [32]))]),
  .ife (.ap .eq [(.ap .len [(.v 1)]),(.c (.int 1))]) [.ret (.ap (.kget "LONE_TOKENS" ve) [(.v 0),(.ife (.t (.call (.fn "is_own_name") [.mv] z0 [(.v 0)])) (.tup [(.c (.str [104,111,108,101])),(.v 0)]) (.c .non))])] [],
  .ife (.ap .ne [(.ap .len [(.v 1)]),(.c (.int 2))]) [.ret (.c .non)] [],
  .ife (.ap .isin [(.ix (.v 1) (.c (.int 0))),(.tup [(.c (.str [101,97,99,104])),(.c (.str [105,102]))])]) [.ret (.ife (.t (.call (.fn "is_own_name") [.mv] z0 [(.ix (.v 1) (.c (.int 1)))])) (.tup [(.ix (.v 1) (.c (.int 0))),(.ix (.v 1) (.c (.int 1)))]) (.c .non))] [],
  .ife (.ap .isin [(.ix (.v 1) (.c (.int 0))),(.tup [(.c (.str [98,108,111,99,107])),(.c (.str [100,114,97,119])),(.c (.str [111,118,101,114]))])]) [.ret (.ife (.t (.call (.fn "is_name") [.mv] ju [(.ix (.v 1) (.c (.int 1)))])) (.tup [(.ix (.v 1) (.c (.int 0))),(.ix (.v 1) (.c (.int 1)))]) (.c .non))] [],
  .ret (.c .non)]
@[irreducible] noncomputable def zR:Fn:=fnD [.mv] 2 kX
noncomputable def kY:List Cm:=[.ife (.ap .eq [(.ix (.v 0) (.v 1)),(.c (.str [125]))]) [.ret (.tup [(.c .non),(.c (.int 1))])] [],
  .ife (.ap .ne [(.ix (.v 0) (.v 1)),(.c (.str [123]))]) [.ret (.tup [(.tup [(.c (.str [108,105,116])),(.ix (.v 0) (.v 1))]),(.c (.int 1))])] [],
  .asg (.v 2) (.me .find (.v 0) [(.c (.str [125])),(.v 1)]),
  .ife (.ap .lt [(.v 2),(.c (.int 0))]) [.ret (.tup [(.c .non),(.c (.int 1))])] [],
  .asg (.v 3) (.ap (.sl true true) [(.v 0),(.ap .add [(.v 1),(.c (.int 1))]),(.v 2)]),
  .ret (.tup [(.call (.fn "token_of") [.mv] zR [(.v 3)]),(.ap .add [(.ap .len [(.v 3)]),(.c (.int 2))])])]
@[irreducible] noncomputable def qM:Fn:=fnD [.mv,.mv] 4 kY
noncomputable def vS:List Cm:=[.ife (.tb true [(.t (.ap (.isi [.str]) [(.v 0)])),(.ap .gt [(.ap .len [(.v 0)]),(.g "MOST_SIGNS" g_MOST_SIGNS)])]) [.never] [],
  .ex (.call (.fn "need_text") [.mv] jl [(.v 0)]),
  .asg (.v 1) (.call (.mk 2 "Draft") [] zQ []),
  .asg (.v 2) (.c (.int 0)),
  .whl (.ap .lt [(.v 2),(.ap .len [(.v 0)])]) [.asg (.v 3) (.fz (.call (.fn "token_at") [.mv,.mv] qM [(.v 0),(.v 2)])),
  .ex (.call (.mt 2 "take") [.mu,.mv,.mv] zY [(.v 1),(.ix (.v 3) (.c (.int 0))),(.v 2)]),
  .aug 2 .add (.ix (.v 3) (.c (.int 1)))],
  .ret (.call (.mt 2 "ended") [.mu,.mv] qy [(.v 1),(.ap .len [(.v 0)])])]
@[irreducible] noncomputable def qr:Fn:=fnD [.mv] 4 vS
noncomputable def xJ:List Cm:=[.ife (.ap .lt [(.v 1),(.ap .len [(.v 0)])]) [.ret (.ix (.v 0) (.v 1))] [],
  .ret (.c (.int 0))]
@[irreducible] noncomputable def zx:Fn:=fnD [.mv,.mv] 2 xJ
noncomputable def vT:List Cm:=[.asg (.v 2) (.ix (.lst [(.c (.int 1000000007)),(.c (.int 1181783503)),(.c (.int 1372345291)),(.c (.int 1518500279)),(.c (.int 1636201513)),(.c (.int 1734723539)),(.c (.int 1871234567)),(.c (.int 2012345681))]) (.ap .mod [(.v 1),(.c (.int 8))])),
  .asg (.v 3) (.ix (.lst [(.c (.int 100000000003)),(.c (.int 223606797763)),(.c (.int 314159265359)),(.c (.int 414213562379)),(.c (.int 577215664943)),(.c (.int 693147180563)),(.c (.int 732050807573))]) (.ap .mod [(.v 1),(.c (.int 7))])),
  .asg (.v 4) (.ap .mod [(.ap .mul [(.ap .add [(.ap .mod [(.v 0),(.c (.int 1000000000039))]),(.c (.int 1))]),(.v 2)]),(.c (.int 2147483629))]),
  .ret (.ap .mod [(.ap .mul [(.ap .add [(.v 4),(.c (.int 1))]),(.v 3)]),(.c (.int 999999999989))])]
@[irreducible] noncomputable def zK:Fn:=fnD [.mv,.mv] 5 vT
noncomputable def vU:List Cm:=[.asg (.v 2) (.c (.str [97,98,99,100,101,102,103,104,105,106,107,108,109,110,111,112,113,114,115,116,117,118,119,120,121,122])),
  .asg (.v 3) (.c (.str [97,99,102,103,104,106,107,108,109,110,112,113,114,115,116,117,118,119,120,121,122])),
  .asg (.v 4) (.call (.fn "_law_mixed") [.mv,.mv] zK [(.v 0),(.c (.int 1))]),
  .asg (.v 5) (.ap .add [(.c (.int 1)),(.ap .mod [(.v 4),(.c (.int 8))])]),
  .asg (.v 6) (.ap .mod [(.ap .fdiv [(.v 4),(.c (.int 8))]),(.v 5)]),
  .asg (.v 7) (.lst []),
  .loop (.v 8) .rng [(.v 1)] [.asg (.v 9) (.c (.str [])),
  .loop (.v 10) .rng [(.v 5)] [.asg (.v 11) (.ix (.lst [(.v 2),(.v 3)]) (.ap .int [(.ap .eq [(.v 10),(.c (.int 0))])])),
  .asg (.v 9) (.ap .add [(.v 9),(.ix (.v 11) (.ap .mod [(.ap .add [(.call (.fn "_law_mixed") [.mv,.mv] zK [(.v 0),(.ap .add [(.c (.int 2)),(.v 10)])]),(.ap .mul [(.v 8),(.ap .int [(.ap .eq [(.v 10),(.v 6)])])])]),(.ap .len [(.v 11)])]))])],
  .ex (.mu .append (.v 7) [(.v 9)])],
  .ife (.ap .eq [(.ap .mod [(.ap .fdiv [(.v 4),(.c (.int 64))]),(.c (.int 4))]),(.c (.int 1))]) [.asg (.v 12) (.ix (.v 3) (.ap .mod [(.call (.fn "_law_mixed") [.mv,.mv] zK [(.v 0),(.c (.int 2))]),(.c (.int 21))])),
  .loop (.v 8) .rng [(.v 1)] [.asg (.sub (.v 7) (.v 8)) (.v 12),
  .asg (.v 12) (.ap .add [(.v 12),(.ix (.v 2) (.ap .mod [(.call (.fn "_law_mixed") [.mv,.mv] zK [(.v 0),(.ap .add [(.c (.int 12)),(.v 8)])]),(.c (.int 26))]))])]] [],
  .ret (.m 7)]
@[irreducible] noncomputable def zS:Fn:=fnD [.mv,.mv] 13 vU
noncomputable def yI:List Cm:=[.ife (.ap .ge [(.v 0),(.ap .pow [(.c (.int 10)),(.c (.int 18))])]) [.ret (.v 0)] [],
  .ret (.call (.fn "_law_mixed") [.mv,.mv] zK [(.v 0),(.c (.int 1))])]
@[irreducible] noncomputable def jm:Fn:=fnD [.mv] 1 yI
noncomputable def kZ:List Cm:=[.asg (.v 2) (.ix (.ix (.ix (.v 0) (.ap .neg [(.c (.int 1))])) (.c (.int 2))) (.ap .neg [(.c (.int 1))])),
  .ife (.tb true [(.ap .eq [(.ix (.v 1) (.c (.int 0))),(.c (.str [108,105,116]))]),(.ap .ne [(.v 2),(.lst [])]),(.ap .eq [(.ix (.ix (.v 2) (.ap .neg [(.c (.int 1))])) (.c (.int 0))),(.c (.str [108,105,116]))])]) [.asg (.v 1) (.tup [(.c (.str [108,105,116])),(.ap .add [(.ix (.mu .pop (.v 2) []) (.c (.int 1))),(.ix (.v 1) (.c (.int 1)))])])] [],
  .ex (.mu .append (.v 2) [(.v 1)])]
@[irreducible] noncomputable def zD:Fn:=fnD [.mu,.mv] 3 kZ
noncomputable def yJ:List Cm:=[.asg (.tup [1,2,3]) (.mu .pop (.v 0) []),
  .ife (.tb true [(.ap .eq [(.v 1),(.c (.str [105,102]))]),(.ap .eq [(.ap .len [(.v 3)]),(.c (.int 1))])]) [.ex (.mu .append (.v 3) [(.lst [])])] [],
  .ex (.call (.fn "_law_put") [.mu,.mv] zD [(.v 0),(.ap .add [(.tup [(.v 1),(.v 2)]),(.ap .tuple [(.fz (.v 3))])])])]
@[irreducible] noncomputable def qt:Fn:=fnD [.mu] 4 yJ
noncomputable def vV:List Cm:=[.asg (.v 0) (.c (.str [32,33,34,35,36,38,39,40,41,42,43,44,45,46,47,48,49,50,51,52,53,54,55,56,57,58,59,60,61,62,63,64])),
  .ret (.ap .add [(.v 0),(.c (.str [65,66,67,68,69,70,71,72,73,74,75,76,77,78,79,80,81,82,83,84,85,86,87,88,89,90,91,92,93,94,95,96,97,98,99,100,101,102,103,104,105,106,107,108,109,110,111,112,113,114,115,116,117,118,119,120,121,122,124,126]))])]
@[irreducible] noncomputable def qN:Fn:=fnD [] 1 vV
noncomputable def xK:List Cm:=[.asg (.v 2) (.call (.fn "_law_signs") [] qN []),
  .ife (.ap .eq [(.ap .mod [(.v 1),(.c (.int 5))]),(.c (.int 0))]) [.ex (.call (.fn "_law_put") [.mu,.mv] zD [(.v 0),(.tup [(.c (.str [108,105,116])),(.ix (.c (.str [123,125])) (.ap .mod [(.ap .fdiv [(.v 1),(.c (.int 5))]),(.c (.int 2))]))])]),
  .ret (.ix (.lst [(.c (.str [123,40,125])),(.c (.str [123,41,125]))]) (.ap .mod [(.ap .fdiv [(.v 1),(.c (.int 5))]),(.c (.int 2))]))] [],
  .asg (.v 3) (.c (.str [])),
  .asg (.v 4) (.ap .fdiv [(.v 1),(.c (.int 15))]),
  .loop (.v 5) .rng [(.ap .add [(.c (.int 1)),(.ap .mod [(.ap .fdiv [(.v 1),(.c (.int 5))]),(.c (.int 3))])])] [.asg (.v 3) (.ap .add [(.v 3),(.ix (.v 2) (.ap .mod [(.v 4),(.c (.int 92))]))]),
  .asg (.v 4) (.ap .fdiv [(.v 4),(.c (.int 92))])],
  .ex (.call (.fn "_law_put") [.mu,.mv] zD [(.v 0),(.tup [(.c (.str [108,105,116])),(.v 3)])]),
  .ret (.v 3)]
@[irreducible] noncomputable def qd:Fn:=fnD [.mu,.mv] 6 xK
noncomputable def vi:List Cm:=[.asg (.v 4) (.ix (.lst [(.c (.str [101,97,99,104])),(.c (.str [105,102])),(.c (.str [98,108,111,99,107])),(.c (.str [98,108,111,99,107]))]) (.ap .mod [(.v 1),(.c (.int 4))])),
  .asg (.v 5) (.ix (.v 2) (.ap .mod [(.ap .fdiv [(.v 1),(.c (.int 4))]),(.ap .len [(.v 2)])])),
  .ife (.tb false [(.tb true [(.ap .eq [(.v 4),(.c (.str [98,108,111,99,107]))]),(.ap .eq [(.v 3),(.lst [])])]),(.ap .gt [(.ap .len [(.v 0)]),(.c (.int 12))])]) [.ret (.c (.str []))] [],
  .ife (.ap .eq [(.v 4),(.c (.str [98,108,111,99,107]))]) [.asg (.v 5) (.mu .popI (.v 3) [(.ap .mod [(.ap .fdiv [(.v 1),(.c (.int 4))]),(.ap .len [(.v 3)])])])] [],
  .ex (.mu .append (.v 0) [(.tup [(.v 4),(.v 5),(.lst [(.lst [])])])]),
  .ret (.ap .add [(.ap .add [(.ap .add [(.ap .add [(.c (.str [123])),(.v 4)]),(.c (.str [32]))]),(.v 5)]),(.c (.str [125]))])]
@[irreducible] noncomputable def z4:Fn:=fnD [.mu,.mv,.mv,.mu] 6 vi
noncomputable def jW:List Cm:=[.asg (.v 4) (.ap .mod [(.v 1),(.c (.int 6))]),
  .ife (.tb true [(.ap .lt [(.v 4),(.c (.int 2))]),(.ap .gt [(.ap .len [(.v 0)]),(.c (.int 1))])]) [.ex (.call (.fn "_law_shut") [.mu] qt [(.v 0)]),
  .ret (.c (.str [123,101,110,100,125]))] [],
  .ife (.tb true [(.ap .eq [(.v 4),(.c (.int 2))]),(.ap .eq [(.ix (.ix (.v 0) (.ap .neg [(.c (.int 1))])) (.c (.int 0))),(.c (.str [105,102]))]),(.ap .eq [(.ap .len [(.ix (.ix (.v 0) (.ap .neg [(.c (.int 1))])) (.c (.int 2)))]),(.c (.int 1))])]) [.ex (.mu .append (.ix (.ix (.v 0) (.ap .neg [(.c (.int 1))])) (.c (.int 2))) [(.lst [])]),
  .ret (.c (.str [123,101,108,115,101,125]))] [],
  .ife (.tb true [(.ap .eq [(.v 4),(.c (.int 3))]),(.t (.v 3)),(.ap .isin [(.c (.str [98,108,111,99,107])),(.lc (.ix (.v 0) (.c (.int 0))) 1 .seq [(.v 0)] [])])]) [.ex (.call (.fn "_law_put") [.mu,.mv] zD [(.v 0),(.tup [(.c (.str [101,108,100,101,114]))])]),
  .ret (.c (.str [123,101,108,100,101,114,125]))] [],
  .ife (.ap .eq [(.v 4),(.c (.int 4))]) [.asg (.v 5) (.fz (.lst [(.c (.str [101,97,99,104])),(.c (.str [105,102])),(.c (.str [101,108,115,101])),(.c (.str [101,110,100])),(.c (.str [98,108,111,99,107])),(.c (.str [101,108,100,101,114])),(.c (.str [100,114,97,119])),(.c (.str [111,118,101,114]))])),
  .asg (.v 6) (.ix (.ap .add [(.v 2),(.v 5)]) (.ap .mod [(.ap .fdiv [(.v 1),(.c (.int 6))]),(.ap .add [(.ap .len [(.v 2)]),(.c (.int 8))])])),
  .ex (.call (.fn "_law_put") [.mu,.mv] zD [(.v 0),(.tup [(.c (.str [100,114,97,119])),(.v 6)])]),
  .ret (.ap .add [(.ap .add [(.c (.str [123,100,114,97,119,32])),(.v 6)]),(.c (.str [125]))])] [],
  .asg (.v 6) (.ix (.v 2) (.ap .mod [(.ap .fdiv [(.v 1),(.c (.int 6))]),(.ap .len [(.v 2)])])),
  .ex (.call (.fn "_law_put") [.mu,.mv] zD [(.v 0),(.tup [(.c (.str [104,111,108,101])),(.v 6)])]),
  .ret (.ap .add [(.ap .add [(.c (.str [123])),(.v 6)]),(.c (.str [125]))])]
@[irreducible] noncomputable def jn:Fn:=fnD [.mu,.mv,.mv,.mv] 7 jW
noncomputable def xj:List Cm:=[.asg (.v 5) (.ap .mod [(.v 1),(.c (.int 8))]),
  .ife (.tb true [(.t (.v 4)),(.ap .eq [(.ap .len [(.v 0)]),(.c (.int 1))])]) [.ret (.call (.fn "_law_opened") [.mu,.mv,.mv,.mu] z4 [(.v 0),(.ap .add [(.c (.int 2)),(.ap .mul [(.ap .fdiv [(.v 1),(.c (.int 8))]),(.c (.int 4))])]),(.v 2),(.v 3)])] [],
  .ife (.ap .lt [(.v 5),(.c (.int 3))]) [.ret (.call (.fn "_law_literal") [.mu,.mv] qd [(.v 0),(.ap .fdiv [(.v 1),(.c (.int 8))])])] [],
  .ife (.ap .lt [(.v 5),(.c (.int 5))]) [.ret (.call (.fn "_law_opened") [.mu,.mv,.mv,.mu] z4 [(.v 0),(.ap .fdiv [(.v 1),(.c (.int 8))]),(.v 2),(.v 3)])] [],
  .ret (.call (.fn "_law_word") [.mu,.mv,.mv,.mv] jn [(.v 0),(.ap .fdiv [(.v 1),(.c (.int 8))]),(.v 2),(.v 4)])]
@[irreducible] noncomputable def qO:Fn:=fnD [.mu,.mv,.mv,.mu,.mv] 6 xj
noncomputable def yK:List Cm:=[.asg (.v 2) (.fz (.call (.fn "_law_names") [.mv,.mv] zS [(.call (.fn "_law_cell_at") [.mv,.mv] zx [(.v 0),(.c (.int 0))]),(.c (.int 4))])),
  .asg (.v 3) (.ap .add [(.call (.fn "_law_names") [.mv,.mv] zS [(.call (.fn "_law_cell_at") [.mv,.mv] zx [(.v 0),(.c (.int 1))]),(.c (.int 6))]),(.lst [(.c (.str [101,97,99,104])),(.c (.str [105,102])),(.c (.str [101,108,115,101])),(.c (.str [101,110,100])),(.c (.str [98,108,111,99,107])),(.c (.str [101,108,100,101,114])),(.c (.str [100,114,97,119])),(.c (.str [111,118,101,114]))])]),
  .asg (.v 4) (.lst [(.tup [(.c (.str [])),(.c (.str [])),(.lst [(.lst [])])])]),
  .asg (.v 5) (.lst []),
  .loop (.v 6) .seq [(.ap (.sl true true) [(.v 0),(.c (.int 2)),(.c (.int 62))])] [.ex (.mu .append (.v 5) [(.call (.fn "_law_token") [.mu,.mv,.mv,.mu,.mv] qO [(.v 4),(.call (.fn "_law_rest") [.mv] jm [(.v 6)]),(.v 2),(.v 3),(.v 1)])])],
  .whl (.ap .gt [(.ap .len [(.v 4)]),(.c (.int 1))]) [.ex (.call (.fn "_law_shut") [.mu] qt [(.v 4)]),
  .ex (.mu .append (.v 5) [(.c (.str [123,101,110,100,125]))])],
  .ret (.tup [(.fz (.v 5)),(.fz (.ix (.ix (.ix (.v 4) (.c (.int 0))) (.c (.int 2))) (.c (.int 0))))])]
@[irreducible] noncomputable def jo:Fn:=fnD [.mv,.mv] 7 yK
noncomputable def xM (zm:Fn):List Cm:=[.asg (.v 1) (.c (.str [])),
  .loop (.v 2) .seq [(.v 0)] [.ife (.ap .eq [(.ix (.v 2) (.c (.int 0))),(.c (.str [108,105,116]))]) [.loop (.v 3) .seq [(.ix (.v 2) (.c (.int 1)))] [.asg (.v 1) (.ap .add [(.v 1),(.dg (.dsp [([123],.str [123,40,125]),([125],.str [123,41,125])]) (.v 3) (.v 3))])]] [.ife (.ap .isin [(.ix (.v 2) (.c (.int 0))),(.tup [(.c (.str [104,111,108,101])),(.c (.str [101,108,100,101,114]))])]) [.asg (.v 1) (.ap .add [(.ap .add [(.ap .add [(.v 1),(.c (.str [123]))]),(.ix (.v 2) (.ap .neg [(.c (.int 1))]))]),(.c (.str [125]))])] [.asg (.v 1) (.ap .add [(.ap .add [(.ap .add [(.ap .add [(.ap .add [(.v 1),(.c (.str [123]))]),(.ix (.v 2) (.c (.int 0)))]),(.c (.str [32]))]),(.ix (.v 2) (.c (.int 1)))]),(.c (.str [125]))]),
  .ife (.ap .ne [(.ix (.v 2) (.c (.int 0))),(.c (.str [100,114,97,119]))]) [.asg (.v 1) (.ap .add [(.v 1),(.call (.fn "_law_written") [.mv] zm [(.ix (.v 2) (.c (.int 2)))])]),
  .ife (.tb true [(.ap .eq [(.ix (.v 2) (.c (.int 0))),(.c (.str [105,102]))]),(.ap .ne [(.ix (.v 2) (.c (.int 3))),(.lst [])])]) [.asg (.v 1) (.ap .add [(.ap .add [(.v 1),(.c (.str [123,101,108,115,101,125]))]),(.call (.fn "_law_written") [.mv] zm [(.ix (.v 2) (.c (.int 3)))])])] [],
  .asg (.v 1) (.ap .add [(.v 1),(.c (.str [123,101,110,100,125]))])] []]]],
  .ret (.v 1)]
noncomputable def zm:Nat->Fn
 | 0=>λ_ _ _=>False
 | n+1=>fnD [.mv] 4 (xM (zm n))
noncomputable def Xg:List Cm:=[.asg (.v 1) (.ap .eq [(.ap .mod [(.call (.fn "_law_cell_at") [.mv,.mv] zx [(.v 0),(.c (.int 1))]),(.c (.int 2))]),(.c (.int 1))]),
  .asg (.tup [2,3]) (.call (.fn "_law_made") [.mv,.mv] jo [(.v 0),(.v 1)]),
  .asg (.v 4) (.c (.str [])),
  .asg (.v 5) (.c .non),
  .ife (.t (.v 1)) [.asg (.v 5) (.ix (.ap .add [(.call (.fn "_law_names") [.mv,.mv] zS [(.ap .fdiv [(.call (.fn "_law_cell_at") [.mv,.mv] zx [(.v 0),(.c (.int 1))]),(.c (.int 2))]),(.c (.int 4))]),(.lst [(.c (.str [101,110,100])),(.c (.str [111,118,101,114]))])]) (.ap .mod [(.call (.fn "_law_cell_at") [.mv,.mv] zx [(.v 0),(.c (.int 0))]),(.c (.int 6))])),
  .asg (.v 4) (.ap .add [(.ap .add [(.c (.str [123,111,118,101,114,32])),(.v 5)]),(.c (.str [125]))])] [],
  .asg (.v 6) (.ap .add [(.v 4),(.me .join (.c (.str [])) [(.v 2)])]),
  .asg (.v 7) (.ap .add [(.v 4),(.call (.fn "_law_written") [.mv] (zm 40) [(.v 3)])]),
  .asg (.v 8) (.fz (.call (.fn "sheet_read") [.mv] qr [(.v 6)])),
  .asg (.v 9) (.call (.fn "sheet_text") [.mv] zO [(.v 8)]),
  .ife (.tb false [(.tn (.t (.ap (.isi [.str]) [(.v 9)]))),(.ap .ne [(.v 9),(.v 7)]),(.ap .ne [(.call (.fn "sheet_text") [.mv] zO [(.fz (.call (.mk 0 "Sheet") [.mv,.mv] zF [(.v 5),(.v 3)]))]),(.v 7)])]) [.ret (.c (.bl false))] [],
  .ife (.tb true [(.ap .notin [(.c (.str [123,101,108,115,101,125,123,101,110,100,125])),(.v 6)]),(.ap .ne [(.v 9),(.v 6)])]) [.ret (.c (.bl false))] [],
  .asg (.v 10) (.fz (.call (.fn "sheet_read") [.mv] qr [(.v 9)])),
  .ife (.tb false [(.ap .ne [(.at (.v 10) 0 "over"),(.v 5)]),(.ap .ne [(.at (.v 10) 0 "pieces"),(.at (.v 8) 0 "pieces")]),(.ap .ned [(.call (.mt 0 "blocks") [.mv] zP [(.v 10)]),(.call (.mt 0 "blocks") [.mv] zP [(.v 8)])])]) [.ret (.c (.bl false))] [],
  .ret (.bo true [(.ap .eq [(.call (.fn "sheet_text") [.mv] zO [(.v 10)]),(.v 7)]),(.ap .eq [(.call (.fn "sheet_text") [.mv] zO [(.v 8)]),(.v 7)])])]
@[irreducible] noncomputable def zfY:Fn:=fnD [.mv] 11 Xg
theorem zdr:zw ⟨Yi,zc yw,true⟩ JP (ze yw)=true:=by decide +kernel
theorem JS:zw ⟨yx,zc jf,true⟩ xG (ze jf)=true:=by decide +kernel
theorem Yp {zh:Fn}:zw ⟨Qu,zc jg,true⟩ (yG zh) (ze jg)=true:=by kernel_rfl
theorem Vc {qp:Fn}{zh:Fn}:zw ⟨ZA,zc qJ,true⟩ (vP qp zh) (ze qJ)=true:=by kernel_rfl
theorem Wt {zX:Fn}:zw ⟨kH,zc qV,true⟩ (vf zX) (ze qV)=true:=by kernel_rfl
theorem Vd:zw ⟨ZC,zc j8,true⟩ vQ (ze j8)=true:=by decide +kernel
theorem zds {qb:Fn}:zw ⟨Yj,zc vy,true⟩ (JQ qb) (ze vy)=true:=by kernel_rfl
theorem Qd:zw ⟨vz,zc qD,true⟩ wx (ze qD)=true:=by decide +kernel
theorem zdt {qq:Fn}:zw ⟨Yk,zc vA,true⟩ (JR qq) (ze vA)=true:=by kernel_rfl
theorem JT:zw ⟨yz,zc jh,true⟩ xH (ze jh)=true:=by decide +kernel
theorem Yq:zw ⟨Qv,zc wO,true⟩ yH (ze wO)=true:=by decide +kernel
theorem ZL:zw ⟨xR,zc qk,true⟩ wo (ze qk)=true:=by decide +kernel
theorem Qe:zw ⟨vB,zc qE,true⟩ wy (ze qE)=true:=by decide +kernel
theorem k9:zw ⟨xB,zc z8,true⟩ jS (ze z8)=true:=by decide +kernel
theorem kz:zw ⟨w6,zc zV,true⟩ jz (ze zV)=true:=by decide +kernel
theorem JU:zw ⟨yB,zc ji,true⟩ xI (ze ji)=true:=by decide +kernel
theorem Za:zw ⟨xC,zc z9,true⟩ jT (ze z9)=true:=by decide +kernel
theorem ZM:zw ⟨xS,zc qm,true⟩ jb (ze qm)=true:=by decide +kernel
theorem kA:zw ⟨xa,zc zW,true⟩ jA (ze zW)=true:=by decide +kernel
theorem Ve:zw ⟨ZF,zc j9,true⟩ vR (ze j9)=true:=by decide +kernel
theorem Wu:zw ⟨kI,zc jF,true⟩ vg (ze jF)=true:=by decide +kernel
theorem zbB:zw ⟨Xf,zc vC,true⟩ Qc (ze vC)=true:=by decide +kernel
theorem Wv:zw ⟨kJ,zc jG,true⟩ vh (ze jG)=true:=by decide +kernel
theorem Kr:zw ⟨JL,zc xD,true⟩ kX (ze xD)=true:=by decide +kernel
theorem Ks:zw ⟨JM,zc xE,true⟩ kY (ze xE)=true:=by decide +kernel
theorem Vf:zw ⟨ZG,zc wc,true⟩ vS (ze wc)=true:=by decide +kernel
theorem JV:zw ⟨yD,zc jj,true⟩ xJ (ze jj)=true:=by decide +kernel
theorem Vg:zw ⟨ZH,zc we,true⟩ vT (ze we)=true:=by decide +kernel
theorem Vh:zw ⟨ZI,zc wg,true⟩ vU (ze wg)=true:=by decide +kernel
theorem Yr:zw ⟨Qw,zc wQ,true⟩ yI (ze wQ)=true:=by decide +kernel
theorem Kt:zw ⟨JN,zc xF,true⟩ kZ (ze xF)=true:=by decide +kernel
theorem Ys:zw ⟨Qx,zc wR,true⟩ yJ (ze wR)=true:=by decide +kernel
theorem Vi:zw ⟨ZJ,zc wj,true⟩ vV (ze wj)=true:=by decide +kernel
theorem JW:zw ⟨yE,zc jk,true⟩ xK (ze jk)=true:=by decide +kernel
theorem Ww:zw ⟨kK,zc jH,true⟩ vi (ze jH)=true:=by decide +kernel
theorem Yt:zw ⟨Qy,zc wU,true⟩ jW (ze wU)=true:=by decide +kernel
theorem Vj:zw ⟨ZK,zc wm,true⟩ xj (ze wm)=true:=by decide +kernel
theorem Yu:zw ⟨Qz,zc wV,true⟩ yK (ze wV)=true:=by decide +kernel
theorem JX {zm:Fn}:zw ⟨yF,zc qF,true⟩ (xM zm) (ze qF)=true:=by kernel_rfl
theorem zjt:zw ⟨zfX,zc Yo,true⟩ Xg (ze Yo)=true:=by decide +kernel
section
noncomputable abbrev wLit:Lc:=[108,105,116]
noncomputable abbrev wIf:Lc:=[105,102]
noncomputable abbrev jX:Lc:=[101,97,99,104]
noncomputable abbrev qf:Lc:=[101,108,115,101]
noncomputable abbrev wEnd:Lc:=[101,110,100]
noncomputable abbrev zu:Lc:=[98,108,111,99,107]
noncomputable abbrev xN:Lc:=[101,108,100,101,114]
noncomputable abbrev yL:Lc:=[100,114,97,119]
noncomputable abbrev qu:Lc:=[111,118,101,114]
noncomputable abbrev JY:Lc:=[104,111,108,101]
noncomputable abbrev Vk:List (Lc):=[jX,wIf,qf,wEnd,zu,xN,yL,qu]
noncomputable def SG:Lc:=[32,33,34,35,36,38,39,40,41,42,43,44,45,46,47,48,49,50,51,52,53,54,55,56,57,58,59,60,61,62,63,64,65,66,67,68,69,70,71,72,73,74,75,76,77,78,79,80,81,82,83,84,85,86,87,88,89,90,91,92,93,94,95,96,97,98,99,100,101,102,103,104,105,106,107,108,109,110,111,112,113,114,115,116,117,118,119,120,121,122,123,124,125,126]
noncomputable def hd1:T->Lc
 | .tp (.str w::_)=>w
 | _=>[]
noncomputable def hd2:T->Lc
 | .tp (_::.str s::_)=>s
 | _=>[]
noncomputable abbrev fl (xs:List T):T:=.nd false .ls xs
noncomputable abbrev litP (s:Lc):T:=.tp [.str wLit,.str s]
noncomputable def addP (l:List T)(p:T):List T:=match l.getLast? with
 | some q=>if hd1 p=wLit/\hd1 q=wLit then l.dropLast++[litP (hd2 q++hd2 p)] else l++[p]
 | none=>l++[p]
theorem yM {p:T}:addP [] p=[p]:=rfl
theorem qW {l:List T}{q p:T}:addP (l++[q]) p=if hd1 p=wLit/\hd1 q=wLit then l++[litP (hd2 q++hd2 p)] else l++[q]++[p]:=by
 unfold addP
 rw [UW]
 simp only [List.dropLast_concat]
theorem zdu (l:List T)(a b:Lc):addP (addP l (litP a)) (litP b)=addP l (litP (a++b)):=by
 rcases Ud l with rfl | ⟨l',q,rfl⟩
 ·rfl
 ·rw [Ue,qW,qW]
  by_cases h:hd1 q=wLit
  ·rw [uw ⟨rfl,h⟩,uw ⟨rfl,h⟩,qW,uw ⟨rfl,rfl⟩]
   show l'++[litP ((hd2 q++a)++b)]=l'++[litP (hd2 q++(a++b))]
   rw [ud]
  ·rw [uv (λz=>h z.2),uv (λz=>h z.2),qW,uw ⟨rfl,rfl⟩]
   rfl
structure Fr where
 w:Lc
 n:Lc
 ps:List (List T)
 cur:List T
noncomputable def Fr.put (f:Fr)(p:T):Fr:={ f with cur:=addP f.cur p }
noncomputable def Fr.whole (f:Fr):T:=.tp (.str f.w::.str f.n::((f.ps++[f.cur]).map fl++if f.w=wIf/\f.ps=[] then [fl []] else []))
noncomputable abbrev Sx:=List Fr×List (Lc)
inductive Tok where
 | lit (s:Lc) | hole (n:Lc) | draw (n:Lc) | elder | op (w n:Lc) | els | fin
noncomputable def Tok.xs:Tok->List T
 | .lit s=>[.str wLit,.str s]
 | .hole n=>[.str JY,.str n]
 | .draw n=>[.str yL,.str n]
 | .elder=>[.str xN]
 | .op w n=>[.str w,.str n]
 | .els=>[.str qf]
 | .fin=>[.str wEnd]
noncomputable def Tok.isP (ov:Bool):Tok->Bool
 | .lit _=>true
 | .hole _=>true
 | .draw _=>true
 | .elder=>ov
 | _=>false
inductive Stp (ov:Bool):Sx->Tok->Sx->Prop where
 | put {f:Fr} {st:List Fr} {nm:List (Lc)} {k:Tok}:k.isP ov=true->(ov=true->st≠[])->Stp ov (f::st,nm) k (f.put (.tp k.xs)::st,nm)
 | op {st:List Fr} {nm:List (Lc)} {w n:Lc}:st.length<=12->st≠[]->(w=jX\/w=wIf\/w=zu)->(ov=true->st.length=1->w=zu)->(w=zu->n∉nm)->Stp ov (st,nm) (.op w n) (⟨w,n,[],[]⟩::st,if w=zu then nm++[n] else nm)
 | els {f:Fr} {st:List Fr} {nm:List (Lc)}:f.w=wIf->f.ps=[]->(ov=true->st≠[])->Stp ov (f::st,nm) .els ({ f with ps:=[f.cur],cur:=[] }::st,nm)
 | fin {f g:Fr} {st:List Fr} {nm:List (Lc)}:Stp ov (f::g::st,nm) .fin (g.put f.whole::st,nm)
def qZ (n:Lc):Prop:=1<=n.length/\n.length<=8/\∀ c∈n,97<=c/\c<=122
def xW (n:Lc):Prop:=qZ n/\n∉Vk
inductive Ins:Tok->Lc->Prop where
 | lb:Ins (.lit [123]) [40]
 | rb:Ins (.lit [125]) [41]
 | hole {n:Lc}:xW n->Ins (.hole n) n
 | draw {n:Lc}:qZ n->Ins (.draw n) (yL++32::n)
 | elder:Ins .elder xN
 | els:Ins .els qf
 | fin:Ins .fin wEnd
 | op1 {w n:Lc}:w=jX\/w=wIf->xW n->Ins (.op w n) (w++32::n)
 | op2 {n:Lc}:qZ n->Ins (.op zu n) (zu++32::n)
inductive Tx:Tok->Lc->Prop where
 | sign {c:Nat}:c∈SG->c≠123->c≠125->Tx (.lit [c]) [c]
 | word {k:Tok} {i:Lc}:Ins k i->Tx k (123::(i++[125]))
inductive Rd (ov:Bool):Sx->Lc->Sx->Prop where
 | nil {s:Sx}:Rd ov s [] s
 | cons {s s1 s2:Sx} {k:Tok} {t r:Lc}:Stp ov s k s1->Tx k t->Rd ov s1 r s2->Rd ov s (t++r) s2
theorem Rd.app {ov:Bool}{s s1 s2:Sx}{a b:Lc}(h:Rd ov s a s1)(k:Rd ov s1 b s2):Rd ov s (a++b) s2:=by
 induction h with
 | nil=>exact k
 | cons h1 h2 _ ih=>rw [ud];exact .cons h1 h2 (ih k)
theorem Rd.one {ov:Bool}{s s1:Sx}{k:Tok}{t:Lc}(h:Stp ov s k s1)(ht:Tx k t):Rd ov s t s1:=by
 have:=Rd.cons h ht .nil
 rwa [uk] at this
theorem Rd.lits {ov:Bool}{st:List Fr}{nm:List (Lc)}(ho:ov=true->st≠[]):∀ (s:Lc),s≠[]->(∀ c∈s,c∈SG/\c≠123/\c≠125)->∀ {f:Fr},Rd ov (f::st,nm) s (f.put (litP s)::st,nm)
 | [],h,_,_=>absurd rfl h
 | [c],_,h,f=>.one (.put (k:=.lit [c]) rfl ho) (.sign (h c uf).1 (h c uf).2.1 (h c uf).2.2)
 | c::d::s,_,h,f=>by
  have h1:=h c uf
  have:=Rd.cons (.put (ov:=ov) (f:=f) (nm:=nm) (k:=.lit [c]) rfl ho) (.sign h1.1 h1.2.1 h1.2.2) (Rd.lits ho (d::s) (by simp) (λx hx=>h x (uh _ hx)))
  have e:(f.put (.tp (Tok.lit [c]).xs)).put (litP (d::s))=f.put (litP (c::d::s)):=by
   show({ f with cur:=addP (addP f.cur (litP [c])) (litP (d::s)) }:Fr)=_
   rw [zdu]
   rfl
  rw [e] at this
  exact this
theorem xl {n:Lc}(h:qZ n):∀ c∈n,c∈SG/\c≠125/\c≠32:=λc hc=>by
 have:=h.2.2 c hc
 have e:∀ c,97<=c/\c<=122->c∈SG/\c≠125/\c≠32:=λc h=>⟨by
  have:c=97+(c - 97)/\c - 97<26:=by lia
  have z:∀ k,k<26->97+k∈SG:=by decide
  rw [this.1]
  exact z _ this.2,by lia,by lia⟩
 exact e c this
theorem Ku {k:Tok}{i:Lc}(h:Ins k i):i.length<=14/\∀ c∈i,c∈SG/\c≠125:=by
 have two:∀ (w n:Lc),w.length<=5->(∀ c∈w,c∈SG/\c≠125)->qZ n->(w++32::n).length<=14/\∀ c∈w++32::n,c∈SG/\c≠125:=λw n hl hw hn=>by
  refine⟨?_,λc hc=>?_⟩
  ·have:=hn.2.1
   simp only [ua,ub]
   lia
  ·rcases ur.mp hc with z | z
   ·exact hw c z
   ·rcases um.mp z with z | z
    ·subst z;decide
    ·exact⟨(xl hn c z).1,(xl hn c z).2.1⟩
 cases h with
 | lb=>decide
 | rb=>decide
 | hole h=>exact⟨by have:=h.1.2.1;omega,λc hc=>⟨(xl h.1 c hc).1,(xl h.1 c hc).2.1⟩⟩
 | draw h=>exact two _ _ (by decide) (by decide) h
 | elder=>decide
 | els=>decide
 | fin=>decide
 | op1 hw h=>
  rcases hw with rfl | rfl
  ·exact two _ _ (by decide) (by decide) h.1
  ·exact two _ _ (by decide) (by decide) h.1
 | op2 h=>exact two _ _ (by decide) (by decide) h
theorem Yv {k:Tok}{t:Lc}(h:Tx k t):1<=t.length/\∀ c∈t,c∈SG:=by
 cases h with
 | sign h _ _=>exact⟨ui _,λc hc=>by rw [ug.mp hc];exact h⟩
 | word h=>
  refine⟨by simp,λc hc=>?_⟩
  rcases um.mp hc with rfl | hc
  ·decide
  ·rcases ur.mp hc with z | z
   ·exact((Ku h).2 c z).1
   ·rw [ug.mp z];decide
theorem Rd.sg {ov:Bool}{s s1:Sx}{a:Lc}(h:Rd ov s a s1):∀ c∈a,c∈SG:=by
 induction h with
 | nil=>exact nofun
 | cons _ h2 _ ih=>exact λc hc=>(ur.mp hc).elim (λz=>(Yv h2).2 c z) (ih c)
def Pb (B:Nat)(R:T->Prop)(t:T):Prop:=∃ (w:Lc) (xs:List T),t=.tp (.str w::xs)/\w.length<=B/\(w=wLit->∃ s,xs=[.str s])/\xs.length<=8/\∀ x∈xs,(∃ s,x=.str s/\s.length<=B)\/∃ ps,x=fl ps/\ps.length<=B/\∀ p∈ps,R p
noncomputable def Pc (B:Nat):Nat->T->Prop
 | 0=>Pb B λ_=>False
 | n+1=>Pb B (Pc B n)
theorem Pb.mono {B B':Nat}{R R':T->Prop}{t:T}(h:Pb B R t)(hB:B<=B')(hR:∀ p,R p->R' p):Pb B' R' t:=by
 obtain⟨w,xs,e,h1,h2,h3,h4⟩:=h
 refine⟨w,xs,e,by lia,h2,h3,λx hx=>(h4 x hx).imp (λ⟨s,a,b⟩=>⟨s,a,by lia⟩) λ⟨ps,a,b,c⟩=>⟨ps,a,by lia,λp hp=>hR p (c p hp)⟩⟩
theorem Pc.mono {B B':Nat}(hB:B<=B'):∀ {n:Nat} {t:T},Pc B n t->Pc B' n t
 | 0,_,h=>Pb.mono h hB λ_ z=>z
 | n+1,_,h=>Pb.mono h hB λ_ z=>Pc.mono hB z
theorem Pc.up {B:Nat}:∀ {n:Nat} {t:T},Pc B n t->Pc B (n+1) t
 | 0,_,h=>Pb.mono (R':=Pc B 0) h (ui _) λ_ z=>z.elim
 | n+1,_,h=>Pb.mono (R':=Pc B (n+1)) h (ui _) λ_ z=>Pc.up z
theorem Pc.body {B:Nat}:∀ {n:Nat} {t:T},Pc B n t->Pb B (λp=>∃ m,m<n/\Pc B m p) t
 | 0,_,h=>Pb.mono h (ui _) λ_ z=>z.elim
 | n+1,_,h=>Pb.mono h (ui _) λ_ z=>⟨n,UQ n,z⟩
theorem Pc.to {B n m:Nat}(h:n<=m){t:T}(k:Pc B n t):Pc B m t:=by
 induction h with
 | refl=>exact k
 | step _ ih=>exact ih.up
theorem xX {B n:Nat}{w:Lc}{xs:List T}(h1:w.length<=B)(h2:w=wLit->∃ s,xs=[.str s])(h3:xs.length<=8)(h:∀ x∈xs,∃ s,x=.str s/\s.length<=B):Pc B n (.tp (.str w::xs)):=by
 refine Pc.to (uE n) (?_:Pc B 0 _)
 exact⟨w,xs,rfl,h1,h2,h3,λx hx=>.inl (h x hx)⟩
def PcL (B n:Nat)(l:List T):Prop:=l.length<=B/\∀ p∈l,Pc B n p
theorem PcL.mono {B B' n:Nat}(hB:B<=B'){l:List T}(h:PcL B n l):PcL B' n l:=⟨uJ h.1 hB,λp hp=>(h.2 p hp).mono hB⟩
def FrK (B n:Nat)(f:Fr):Prop:=PcL B n f.cur/\(∀ l∈f.ps,PcL B n l)/\(f.ps=[]\/f.w=wIf/\∃ a,f.ps=[a])/\f.w.length<=8/\f.n.length<=8/\f.w≠wLit
theorem FrK.mono {B B' n:Nat}(hB:B<=B'){f:Fr}(h:FrK B n f):FrK B' n f:=⟨h.1.mono hB,λl hl=>(h.2.1 l hl).mono hB,h.2.2⟩
noncomputable def StK (B:Nat):List Fr->Prop
 | []=>True
 | f::st=>st.length<=12/\FrK B (12 - st.length) f/\StK B st
theorem StK.mono {B B':Nat}(hB:B<=B'):∀ {st:List Fr},StK B st->StK B' st
 | [],_=>trivial
 | _::_,h=>⟨h.1,h.2.1.mono hB,StK.mono hB h.2.2⟩
theorem Q0 {B n:Nat}{t:T}(h:Pc B n t)(hl:hd1 t=wLit):∃ s,t=litP s/\s.length<=B:=by
 obtain⟨w,xs,rfl,h1,h2,h3,h4⟩:=h.body
 obtain⟨s,rfl⟩:=h2 hl
 have hl:w=wLit:=hl
 subst hl
 refine⟨s,rfl,?_⟩
 rcases h4 _ uf with⟨u,e,z⟩ | ⟨ps,e,_⟩
 ·cases e;exact z
 ·cases e
theorem zaH {B n d:Nat}{l:List T}{p:T}(hl:PcL B n l)(hp:Pc (B+d) n p)(hd:1<=d)(hs:hd1 p=wLit->(hd2 p).length<=d)(h8:8<=B):PcL (B+d) n (addP l p):=by
 rcases Ud l with rfl | ⟨l',q,rfl⟩
 ·exact⟨by rw [yM];simp only [ub,uc];lia,λx hx=>by rw [yM] at hx;rw [ug.mp hx];exact hp⟩
 ·rw [Ue] at hl ⊢
  have l1:=hl.1
  rw [ua] at l1
  rw [qW]
  split
  ·rename_i h
   obtain⟨s,rfl,hs'⟩:=Q0 (hl.2 q (uB _ uf)) h.2
   refine⟨by rw [ua];simp only [ub,uc] at l1 ⊢;lia,λx hx=>?_⟩
   rcases ur.mp hx with z | z
   ·exact(hl.2 x (uX _ z)).mono (by lia)
   ·rw [ug.mp z]
    refine xX (by simp only [ub,uc];lia) (λ_=>⟨_,rfl⟩) (by simp) λx hx=>⟨_,ug.mp hx,?_⟩
    have:=hs h.1
    show(s++hd2 p).length<=_
    rw [ua]
    lia
  ·refine⟨by rw [ua,ua];simp only [ub,uc] at l1 ⊢;lia,λx hx=>?_⟩
   rcases ur.mp hx with z | z
   ·exact(hl.2 x z).mono (by lia)
   ·rw [ug.mp z];exact hp
theorem JZ {B n:Nat}{f:Fr}(h:FrK B n f)(h8:8<=B):Pc B (n+1) f.whole:=by
 obtain⟨h1,h2,h3,h4,h5,h6⟩:=h
 have hb:∀ l∈f.ps++[f.cur],PcL B n l:=λl hl=>by
  rcases ur.mp hl with z | z
  ·exact h2 l z
  ·rw [ug.mp z];exact h1
 have hl:(f.ps++[f.cur]).length<=2:=by
  rcases h3 with z | ⟨_,a,z⟩<;>simp [z]
 refine⟨f.w,_,rfl,by lia,λz=>absurd z h6,?_,λx hx=>?_⟩
 ·rw [ub,ua,ue]
  split<;>simp only [ub,uc]<;>lia
 ·rcases um.mp hx with rfl | hx
  ·exact .inl ⟨_,rfl,by lia⟩
  ·rcases ur.mp hx with z | z
   ·obtain⟨l,hl,rfl⟩:=Uh.mp z
    exact .inr ⟨l,rfl,(hb l hl).1,(hb l hl).2⟩
   ·split at z
    ·rw [ug.mp z]
     exact .inr ⟨[],rfl,uE _,nofun⟩
    ·cases z
theorem zdv {ov:Bool}{k:Tok}{t:Lc}{B n:Nat}(hp:k.isP ov=true)(ht:Tx k t)(h8:8<=B):Pc (B+t.length) n (.tp k.xs)/\(hd1 (.tp k.xs)=wLit->(hd2 (.tp k.xs)).length<=t.length):=by
 have leaf:∀ (w s:Lc),w.length<=8->s.length<=B+t.length->Pc (B+t.length) n (.tp [.str w,.str s]):=λw s h1 h2=>xX (by lia) (λ_=>⟨_,rfl⟩) (by simp) λx hx=>⟨s,ug.mp hx,h2⟩
 have nm:∀ {n:Lc},qZ n->n.length<=B+t.length:=λh=>by have:=h.2.1;lia
 cases ht with
 | sign h=>exact⟨leaf _ _ (by decide) (by simp only [ub,uc];omega),λ_=>ui _⟩
 | word h=>
  cases h with
  | lb=>exact⟨leaf _ _ (by decide) (by simp only [ub,uc];omega),λ_=>by decide⟩
  | rb=>exact⟨leaf _ _ (by decide) (by simp only [ub,uc];omega),λ_=>by decide⟩
  | hole h=>exact⟨leaf _ _ (by decide) (nm h.1),λz=>absurd (show JY=wLit from z) (by decide)⟩
  | draw h=>exact⟨leaf _ _ (by decide) (nm h),λz=>absurd (show yL=wLit from z) (by decide)⟩
  | elder=>exact⟨xX (by simp only [ub,uc];omega) (λz=>absurd z (by decide)) (by simp) nofun,λz=>absurd z (by decide)⟩
  | els=>cases hp
  | fin=>cases hp
  | op1 _ _=>cases hp
  | op2 _=>cases hp
theorem Kv {ov:Bool}{s s':Sx}{k:Tok}{t:Lc}{B:Nat}(h:Stp ov s k s')(ht:Tx k t)(hk:StK B s.1)(h8:8<=B):StK (B+t.length) s'.1:=by
 have t1:=(Yv ht).1
 cases h with
 | put hp ho=>
  obtain⟨k1,k2,k3⟩:=hk
  obtain⟨p1,p2⟩:=zdv (n:=12 - _) hp ht h8
  exact⟨k1,⟨zaH k2.1 p1 t1 p2 h8,(k2.mono (u6 _ _)).2⟩,k3.mono (u6 _ _)⟩
 | op h1 h2 h3 h4 h5=>
  refine⟨h1,⟨⟨uE _,nofun⟩,nofun,.inl rfl,?_,?_,?_⟩,StK.mono (u6 _ _) hk⟩
  ·rcases h3 with rfl | rfl | rfl<;>(simp only [ub,uc];lia)
  ·cases ht with
   | word h=>
    cases h with
    | op1 _ h=>exact h.1.2.1
    | op2 h=>exact h.2.1
  ·rcases h3 with rfl | rfl | rfl
   ·exact(by decide:jX≠wLit)
   ·exact(by decide:wIf≠wLit)
   ·exact(by decide:zu≠wLit)
 | els h1 h2 h3=>
  obtain⟨k1,k2,k3⟩:=hk
  have k2:=k2.mono (u6 B t.length)
  refine⟨k1,⟨⟨uE _,nofun⟩,λl hl=>?_,.inr ⟨h1,_,rfl⟩,k2.2.2.2⟩,k3.mono (u6 _ _)⟩
  rw [ug.mp hl];exact k2.1
 | fin=>
  obtain⟨k1,k2,k3,k4,k5⟩:=hk
  rename_i f g st nm
  have e:12 - st.length=12 - (st.length+1)+1:=by simp only [ub] at k1;lia
  have w:=JZ k2 h8
  have w1:Pc (B+t.length) (12 - st.length) f.whole:=by rw [e];exact w.mono (u6 _ _)
  exact⟨k3,⟨zaH k4.1 w1 t1 (λz=>absurd z k2.2.2.2.2.2) h8,(k4.mono (u6 _ _)).2⟩,k5.mono (u6 _ _)⟩
theorem Rd.ok {ov:Bool}{s s':Sx}{a:Lc}(h:Rd ov s a s'):∀ {B:Nat},StK B s.1->8<=B->StK (B+a.length) s'.1:=by
 induction h with
 | nil=>exact λh _=>h
 | cons h1 h2 _ ih=>
  intro B hk h8
  have:=ih (Kv h1 h2 hk h8) (by lia)
  rwa [ua,← gg]
end
section
theorem getD_at (l:Lc)(v:Nat):(S l).cps.getD v 0=l.getD v 0:=by
 simp [S,Array.getD]
 by_cases h:v<l.length
 ·rw [dif_pos h,uu h];rfl
 ·rw [dif_neg h,List.getElem?_eq_none (by lia)];rfl
theorem zfd {l i r:Lc}{a:Nat}(h:l.drop a=123::(i++125::r))(hi:125∉i):Txt.find3 (S l) (S [125]) (a:Int)=((a+1+i.length:Nat):Int):=by
 have hf:fromIndex (S l).length (a:Int)=a:=by
  unfold fromIndex
  rw [uv (by lia)]
  lia
 have hat:∀ j,l.getD (a+j) 0=(123::(i++125::r)).getD j 0:=λj=>by
  rw [← h,uO,uO,List.getElem?_drop]
 have h1:l.getD (a+(1+i.length)) 0=125:=by
  rw [hat,show 1+i.length=i.length+1 by lia,uO,gn,uV (ui _),UO]
  rfl
 have h2:∀ j,j<1+i.length->l.getD (a+j) 0≠125:=λj hj=>by
  rw [hat]
  cases j with
  | zero=>exact(by decide:(123:Nat)≠125)
  | succ j=>
   rw [uO,gn,Ul (by lia),uu (by lia)]
   exact λz=>hi (by rw [← show i[j]=125 from z];exact UR _)
 have hl:a+(1+i.length)<l.length:=by
  have:=congrArg List.length h
  simp only [Ub,ub,ua] at this
  lia
 rcases StrLaws.find3_spec (S l) 125 (a:Int) with⟨_,z⟩ | ⟨k,e,k1,k2,k3,k4⟩
 ·rw [hf] at z
  exact absurd h1 (by rw [← getD_at];exact z _ (by lia) (by rw [jw];exact hl))
 ·rw [hf] at k1 k4
  rw [getD_at] at k3
  refine e.trans ?_
  have a1:¬ k<a+(1+i.length):=λz=>h2 (k - a) (by lia) (by rw [show a+(k - a)=k by lia];exact k3)
  have a2:¬ a+(1+i.length)<k:=λz=>k4 _ (by lia) z (by rw [getD_at];exact h1)
  congr 1
  lia
theorem QA (l:Lc)(c:Nat):∃ ps:List (Lc),splits l [c]=ps/\(∀ p∈ps,c∉p)/\Str.join (S [c]) (ps.map S)=S l/\ps≠[]:=by
 refine⟨_,rfl,λp hp=>?_,?_,λz=>?_⟩
 ·obtain⟨q,hq,rfl⟩:=Uh.mp hp
  exact StrLaws.split_free (S l) c q hq
 ·have:=StrLaws.join_split (S l) (S [c])
  have e:(splits l [c]).map S=Txt.split (S l) (S [c]):=by
   unfold splits
   rw [Uq]
   conv=>rhs;rw [← List.map_id (Txt.split (S l) (S [c]))]
   exact u4 λa _=>by simp [S]
  rw [e];exact this
 ·have z':Txt.split (S l) (S [c])=[]:=by
   unfold splits at z
   exact Uu.mp z
  have:=StrLaws.join_split (S l) (S [c])
  rw [z'] at this
  have e:l=[]:=by
   have:=congrArg (λx=>x.cps.toList) this
   simpa [S,Str.join,Str.empty] using this.symm
  subst e
  unfold Txt.split at z'
  rw [uw (by rw [jw,jw];rfl)] at z'
  cases z'
theorem S_app (a b:Lc):S a++S b=S (a++b):=by
 show Str.append (S a) (S b)=_
 simp [S,Str.append]
theorem zdw {l:Lc}(h:32∉l):splits l [32]=[l]:=by
 obtain⟨ps,e,h1,h2,h3⟩:=QA l 32
 rw [e]
 match ps,h3,h1,h2 with
 | [p],_,_,h2=>
  have:S p=S l:=h2
  rw [Ja.mp this]
 | p::q::ps,_,_,h2=>
  have h2:S p++S [32]++Str.join (S [32]) ((q::ps).map S)=S l:=h2
  refine absurd ?_ h
  have z:(S p++S [32]++Str.join (S [32]) ((q::ps).map S)).cps.toList=l:=by rw [h2];simp [S]
  rw [← z]
  show 32∈(Str.append (Str.append (S p) (S [32])) _).cps.toList
  simp [Str.append,S]
theorem Yw {p q x y:Lc}{c:Nat}(hp:c∉p)(hq:c∉q)(h:p++c::x=q++c::y):p=q/\x=y:=by
 induction p generalizing q with
 | nil=>
  cases q with
  | nil=>simpa using h
  | cons a q=>simp at h;exact absurd (uf) (h.1 ▸ hq)
 | cons a p ih=>
  cases q with
  | nil=>simp at h;exact absurd (uf) (h.1 ▸ hp)
  | cons b q=>
   simp only [List.cons_append,g9] at h
   obtain⟨rfl,h⟩:=h
   obtain⟨e1,e2⟩:=ih (λz=>hp (uh _ z)) (λz=>hq (uh _ z)) h
   exact⟨by rw [e1],e2⟩
theorem zbC {a b:Lc}(ha:32∉a)(hb:32∉b):splits (a++32::b) [32]=[a,b]:=by
 obtain⟨ps,e,h1,h2,h3⟩:=QA (a++32::b) 32
 rw [e]
 match ps,h3,h1,h2 with
 | [p],_,h1,h2=>
  have:S p=S (a++32::b):=h2
  rw [Ja.mp this] at h1
  exact absurd (uB _ uf) (h1 _ uf)
 | [p,q],_,h1,h2=>
  have h2:S p++S [32]++S q=S (a++32::b):=h2
  rw [S_app,S_app] at h2
  have:=Ja.mp h2
  rw [ud] at this
  obtain⟨e1,e2⟩:=Yw (h1 p uf) ha this
  have e2:q=b:=e2
  rw [e1,e2]
 | p::q::r::ps,_,h1,h2=>
  have h2:S p++S [32]++(S q++S [32]++Str.join (S [32]) ((r::ps).map S))=S (a++32::b):=h2
  have z:∃ y,Str.join (S [32]) ((r::ps).map S)=S y:=⟨_,(show _=S (Str.join (S [32]) ((r::ps).map S)).cps.toList by simp [S])⟩
  obtain⟨y,hy⟩:=z
  rw [hy,S_app,S_app,S_app,S_app] at h2
  have:=Ja.mp h2
  rw [ud] at this
  obtain⟨e1,e2⟩:=Yw (h1 p uf) ha this
  refine absurd ?_ hb
  rw [← e2]
  simp
end
section
variable {Q:T->List T->Prop} {X:Exn->List T->Prop}
noncomputable def LT:Lc:=[97,98,99,100,101,102,103,104,105,106,107,108,109,110,111,112,113,114,115,116,117,118,119,120,121,122]
theorem zju {c:Nat}(h:97<=c/\c<=122):c∈LT:=by
 have e:c=97+(c - 97)/\c - 97<26:=by lia
 have z:∀ k,k<26->97+k∈LT:=by decide
 rw [e.1];exact z _ e.2
theorem J0 {n:Lc}(hl:n.length<=1000000)(q:∀ b,(qZ n->b=true)->Q (.bl b) [.non]):ju [.str n] Q X:=by
 unfold ju
 refine⟨rfl,?_⟩
 refine zA (λh=>?_) (λh=>?_)
 ·refine zA (λh2=>?_) (λh2=>?_)
  ·exact q _ λk=>absurd k.2.1 (by simp at h2;lia)
  ·refine JH (f:=λc=>.str [c]) (g:=λc=>.bl (decide (c∈LT))) rfl rfl rfl rfl (λc _ K h=>h) (λc _ K h=>h) (by simp;lia) ?_
   refine za (z:=.bl ((n.map λc=>decide (c∈LT)).all id)) ?_ ?_
   ·show((blOs (n.map λc=>T.bl (decide (c∈LT)))).bind λbs=>some (T.bl (bs.all id)))=_
    rw [zaG]
    rfl
   ·refine q _ λh=>?_
    rw [gk]
    intro b hb
    obtain⟨c,hc,rfl⟩:=Uh.mp hb
    exact uS (zju (h.2.2 c hc))
 ·exact q _ λk=>absurd k.1 (by simp at h;lia)
theorem Vl {n:Lc}:∀ {ws:List (Lc)},inV (.str (S n)) (ws.map λw=>.str (S w))=decide (n∈ws)
 | []=>rfl
 | w::ws=>by
  show(eqV (.str (S w)) (.str (S n))||inV (.str (S n)) (ws.map λw=>.str (S w)))=_
  rw [Vl]
  show((S w == S n)||_)=_
  by_cases h:n=w
  ·subst h;simp
  ·have:(S w == S n)=false:=by
    rw [u3]
    exact λz=>h (Ja.mp z).symm
   rw [this]
   simp [h]
theorem Xh {n:Lc}(hl:n.length<=1000000)(q:∀ b,(xW n->b=true)->Q (.bl b) [.non]):z0 [.str n] Q X:=by
 unfold z0
 refine⟨rfl,?_⟩
 refine J0 hl λb hb=>?_
 cases b with
 | false=>exact q _ λh=>hb h.1
 | true=>
  refine q _ λh=>?_
  show(!inV (.str (S n)) (Vk.map λw=>.str (S w)))=true
  rw [Vl,uq h.2]
  rfl
def TokF (xs:List T)(t:T):Prop:=t=.tp xs\/t=.ks false xs
theorem sp1 {i:Lc}(h:32∉i)(hl:i.length<=1000000):meF .split i [.str [32]]=some (.nd true .ls [.str i]):=by
 show(if ([32]:Lc)≠[]/\i.length<=1000000 then some (T.nd true .ls ((splits i [32]).map .str)) else none)=_
 rw [uw ⟨by decide,hl⟩,zdw h]
 rfl
theorem sp2 {a b:Lc}(ha:32∉a)(hb:32∉b)(hl:(a++32::b).length<=1000000):meF .split (a++32::b) [.str [32]]=some (.nd true .ls [.str a,.str b]):=by
 show(if ([32]:Lc)≠[]/\(a++32::b).length<=1000000 then some (T.nd true .ls ((splits (a++32::b) [32]).map .str)) else none)=_
 rw [uw ⟨by decide,hl⟩,zbC ha hb]
 rfl
theorem lone {i:Lc}(h:32∉i)(hl:i.length<=1000)(q:∀ w,(xW i->w=.tp [.str JY,.str i])->Q (kgO ve i w) [.non]):zR [.str i] Q X:=by
 unfold zR
 refine⟨rfl,?_⟩
 refine za (sp1 h (by lia)) ?_
 refine Xh (n:=i) (by lia) λb hb=>?_
 cases b with
 | true=>exact q _ λ_=>rfl
 | false=>exact q _ λh=>absurd (hb h) (by decide)
theorem zjv {a b:Lc}(ha:a=jX\/a=wIf)(hb:xW b)(q:Q (.tp [.str a,.str b]) [.non]):zR [.str (a++32::b)] Q X:=by
 unfold zR
 refine⟨rfl,?_⟩
 have hl:=hb.1.2.1
 have h32:32∉a:=by rcases ha with rfl | rfl<;>decide
 refine za (sp2 h32 (λz=>(xl hb.1 32 z).2.2 rfl) (by rcases ha with rfl | rfl<;>simp only [ua,ub,uc]<;>lia)) ?_
 rcases ha with rfl | rfl
 all_goals
  refine Xh (n:=b) (by lia) λc hc=>?_
  cases hc hb
  exact q
theorem zdx {a b:Lc}(ha:a=zu\/a=yL\/a=qu)(hb:qZ b)(q:Q (.tp [.str a,.str b]) [.non]):zR [.str (a++32::b)] Q X:=by
 unfold zR
 refine⟨rfl,?_⟩
 have hl:=hb.2.1
 have h32:32∉a:=by rcases ha with rfl | rfl | rfl<;>decide
 refine za (sp2 h32 (λz=>(xl hb 32 z).2.2 rfl) (by rcases ha with rfl | rfl | rfl<;>simp only [ua,ub,uc]<;>lia)) ?_
 rcases ha with rfl | rfl | rfl
 all_goals
  refine J0 (n:=b) (by lia) λc hc=>?_
  cases hc hb
  exact q
theorem Yx {k:Tok}{i:Lc}(h:Ins k i)(q:∀ t,TokF k.xs t->Q t [.non]):zR [.str i] Q X:=by
 cases h with
 | lb=>exact lone (by decide) (by decide) λw _=>q _ (.inr rfl)
 | rb=>exact lone (by decide) (by decide) λw _=>q _ (.inr rfl)
 | hole h=>
  refine lone (λz=>(xl h.1 32 z).2.2 rfl) (by have:=h.1.2.1;lia) λw hw=>q _ (.inl ?_)
  rw [hw h]
  have ne:∀ {c:Nat},c<97->¬ [c]=i:=λhc z=>by
   have:=(h.1.2.2 _ (z ▸ uf)).1
   lia
  have nb:∀ {u:Lc},u∈Vk->¬ u=i:=λhu z=>h.2 (z ▸ hu)
  simp only [kgO]
  rw [uv (ne (by decide)),uv (ne (by decide)),uv (nb (by decide)),uv (nb (by decide)),uv (nb (by decide))]
  rfl
 | draw h=>exact zdx (.inr (.inl rfl)) h (q _ (.inl rfl))
 | elder=>exact lone (by decide) (by decide) λw _=>q _ (.inr rfl)
 | els=>exact lone (by decide) (by decide) λw _=>q _ (.inr rfl)
 | fin=>exact lone (by decide) (by decide) λw _=>q _ (.inr rfl)
 | op1 hw h=>exact zjv hw h (q _ (.inl rfl))
 | op2 h=>exact zdx (.inl rfl) h (q _ (.inl rfl))
theorem Vm {l r:Lc}{a c:Nat}(h:l.drop a=c::r):a<l.length/\∀ {s τ:Sl},ixS s (.own (.int (a:Int))::.own (.str l)::τ)=some (.own (.str [c])::τ):=by
 have hl:a<l.length:=by
  have:=congrArg List.length h
  simp only [Ub,ub] at this
  lia
 refine⟨hl,λ{s τ}=>?_⟩
 have e:l[a]? = some c:=by
  have:=congrArg (λx=>x[0]?) h
  simpa using this
 have e2:atI l (a:Int)=some c:=by
  unfold atI
  rw [xQ hl]
  exact e
 show orO ((atI l (a:Int)).bind λc=>some (Slot.own (.str [c])::τ)) _=_
 rw [e2]
 rfl
theorem kL {P:T->Prop}{l i r:Lc}{a:Nat}(hi:125∉i)(hF:∀ {Q:T->List T->Prop} {X:Exn->List T->Prop},(∀ t,P t->Q t [.non])->zR [.str i] Q X)(hd':l.drop a=123::(i++125::r))(q:∀ u,P u->Q (.tp [u,.int ((i.length:Int)+2)]) [.non,.non]):qM [.str l,.int a] Q X:=by
 unfold qM
 refine⟨rfl,?_⟩
 obtain⟨hlt,e⟩:=Vm hd'
 refine za e (za e ?_)
 have hf:=zfd hd' hi
 refine zA (λh=>absurd (uy h) (by rw [hf];lia)) λ_=>?_
 have cu:cutL l (some ((a:Int)+1)) (some (Txt.find3 (S l) (S [125]) (a:Int)))=i:=by
  have e1:((a:Int)+1)=((a+1:Nat):Int):=by lia
  have ll:a+1+i.length<l.length:=by
   have:=congrArg List.length hd'
   simp only [Ub,ub,ua] at this
   lia
  unfold cutL
  rw [hf,e1,HT.sIx_nat,HT.sIx_nat,Nat.min_eq_left (by lia),Nat.min_eq_left (by lia),← List.drop_drop,hd',show a+1+i.length - (a+1)=i.length by lia]
  simp
 rw [← cu] at hF
 refine hF λu hu=>?_
 have:=q u hu
 rw [← cu] at this
 exact this
theorem Yy {k:Tok}{l t r:Lc}{a:Nat}(h:Tx k t)(hd:l.drop a=t++r)(q:∀ u,TokF k.xs u->Q (.tp [u,.int t.length]) [.non,.non]):qM [.str l,.int a] Q X:=by
 cases h with
 | sign h1 h2 h3=>
  unfold qM
  refine⟨rfl,?_⟩
  rename_i c
  obtain⟨_,e⟩:=Vm (c:=c) (r:=r) hd
  refine za e ?_
  refine zA (λh=>absurd (uy h) λz=>h3 (UG z).1) λ_=>?_
  refine za e ?_
  refine zA (λ_=>?_) (λh=>absurd h (by simp [h2]))
  exact za e (q _ (.inl rfl))
 | word h=>
  rename_i i
  refine kL (P:=TokF k.xs) (i:=i) (r:=r) (λz=>((Ku h).2 _ z).2 rfl) (λq=>Yx h q) (by rw [hd];simp) λu hu=>?_
  have e:(i.length:Int)+2=((123::(i++[125])).length:Nat):=by simp only [ub,ua,uc];lia
  rw [e]
  exact q u hu
end
section
variable {Q:T->List T->Prop} {X:Exn->List T->Prop}
mutual
noncomputable def can:T->T
 | .tp xs=>.tp (cans xs)
 | .nd _ k xs=>.nd false k (cans xs)
 | .ks l xs=>cond l (.ks true (cans xs)) (.tp (cans xs))
 | .xo c fs xs=>.xo c fs (cans xs)
 | t=>t
noncomputable def cans:List T->List T
 | []=>[]
 | x::xs=>can x::cans xs
end
theorem qR:∀ xs:List T,cans xs=xs.map can
 | []=>rfl
 | x::xs=>congrArg (can x::·) (qR xs)
mutual
theorem zfe:∀ t:T,can (frz t)=can t
 | .non=>rfl
 | .bl _=>rfl
 | .int _=>rfl
 | .str _=>rfl
 | .any=>rfl
 | .xo c fs xs=>congrArg (T.xo c fs) (wz xs)
 | .tp xs=>congrArg T.tp (wz xs)
 | .nd _ k xs=>congrArg (T.nd false k) (wz xs)
 | .ks true xs=>congrArg (T.ks true) (wz xs)
 | .ks false xs=>congrArg T.tp (wz xs)
theorem wz:∀ ts:List T,cans (frzs ts)=cans ts
 | []=>rfl
 | t::ts=>by
  show can (frz t)::cans (frzs ts)=can t::cans ts
  rw [zfe t,wz ts]
end
mutual
theorem Q1:∀ t:T,frz (frz t)=frz t
 | .non=>rfl
 | .bl _=>rfl
 | .int _=>rfl
 | .str _=>rfl
 | .any=>rfl
 | .xo c fs xs=>congrArg (T.xo c fs) (vD xs)
 | .tp xs=>congrArg T.tp (vD xs)
 | .nd _ k xs=>congrArg (T.nd false k) (vD xs)
 | .ks l xs=>congrArg (T.ks l) (vD xs)
theorem vD:∀ ts:List T,frzs (frzs ts)=frzs ts
 | []=>rfl
 | t::ts=>by
  show frz (frz t)::frzs (frzs ts)=frz t::frzs ts
  rw [Q1 t,vD ts]
end
theorem jI:∀ xs:List T,frzs xs=xs.map frz
 | []=>rfl
 | x::xs=>congrArg (frz x::·) (jI xs)
structure PF (t p:T):Prop where
 fz:frz t=t
 cn:can t=p
theorem PF.sh {t p:T}(h:PF t p):shr t=true:=by rw [← h.fz];exact vM t
theorem PF.xs {t:T}{ys:List T}(h:PF t (.tp ys)):∃ xs,frzs xs=xs/\cans xs=ys/\(t=.tp xs\/t=.ks false xs):=by
 obtain⟨hs,hc⟩:=h
 cases t with
 | tp xs=>cases hc;exact⟨xs,T.tp.inj hs,rfl,.inl rfl⟩
 | ks l xs=>
  cases l with
  | true=>cases hc
  | false=>cases hc;exact⟨xs,(T.ks.inj hs).2,rfl,.inr rfl⟩
 | _=>cases hc
theorem zaI {t:T}{s:Lc}(h:can t=.str s):t=.str s:=by
 cases t with
 | ks l xs=>cases l<;>cases h
 | _=>first | exact h | cases h
theorem PF.ix {t:T}{ys:List T}(h:PF t (.tp ys)){k:Nat}{u:Lc}(e:ys[k]? = some (.str u)){s τ:Sl}:ixS s (.own (.int (k:Int))::.own t::τ)=some (.own (.str u)::τ):=by
 obtain⟨xs,h1,rfl,h2⟩:=h.xs
 rw [qR,ux] at e
 obtain⟨x,e1,e2⟩:=uz.mp e
 cases zaI e2
 rcases h2 with rfl | rfl
 ·exact JI (xQ (v8 e1)) rfl e1
 ·exact JI (xQ (v8 e1)) rfl e1
theorem PF.ix0 {t p:T}(h:PF t p){B n:Nat}(k:Pc B n p){s τ:Sl}:ixS s (.own (.int 0)::.own t::τ)=some (.own (.str (hd1 p))::τ):=by
 obtain⟨w,xs,rfl,_⟩:=k.body
 exact h.ix (k:=0) rfl
theorem PF.ix1 {t p:T}(h:PF t p){B n:Nat}(k:Pc B n p)(hl:hd1 p=wLit):(∀ {s τ:Sl},ixS s (.own (.int 1)::.own t::τ)=some (.own (.str (hd2 p))::τ))/\(hd2 p).length<=B:=by
 obtain⟨s,rfl,hs⟩:=Q0 k hl
 exact⟨h.ix (k:=1) rfl,hs⟩
noncomputable abbrev ol (xs:List T):T:=.nd true .ls xs
noncomputable abbrev oF:Lh:=["word","name","branches"]
noncomputable abbrev frT (f:Fr)(bs:List (List T))(c:List T):T:=.nd true (.ob 1 oF) [.str f.w,.str f.n,ol (bs.map ol++[ol c])]
structure LsP (c cur:List T):Prop where
 fz:frzs c=c
 cn:cans c=cur
theorem LsP.sh {c cur:List T}(h:LsP c cur):shrs c=true:=by rw [← h.fz];exact xm c
theorem LsP.snoc {c cur:List T}{u p:T}(h:LsP c cur)(k:PF u p):LsP (c++[u]) (cur++[p]):=by
 refine⟨by rw [jI,uA,← jI,h.fz];exact congrArg (c++[·]) k.fz,by rw [qR,uA,← qR,h.cn];exact congrArg (cur++[·]) k.cn⟩
theorem LsP.last {c cur:List T}{v:T}(h:LsP (c++[v]) cur):∃ cur' v',cur=cur'++[v']/\LsP c cur'/\PF v v':=by
 obtain⟨hs,hc⟩:=h
 rw [qR,uA] at hc
 rw [jI,uA] at hs
 obtain⟨h1,h2⟩:=gY hs (by simp)
 exact⟨_,_,hc.symm,⟨by rw [jI];exact h1,qR _⟩,(UG h2).1,rfl⟩
theorem LsP.len {c cur:List T}(h:LsP c cur):c.length=cur.length:=by rw [← h.cn,qR,ue]
def FrP (f:Fr)(t:T):Prop:=∃ bs c,t=frT f bs c/\bs.map cans=f.ps/\(∀ b∈bs,frzs b=b)/\LsP c f.cur
theorem zh3 {s:Lc}:PF (litP s) (litP s):=⟨rfl,rfl⟩
theorem zaJ {l:List T}{p:T}(h:¬ (hd1 p=wLit/\∃ q,l.getLast? = some q/\hd1 q=wLit)):addP l p=l++[p]:=by
 unfold addP
 split
 ·rename_i q e
  rw [uv λz=>h ⟨z.1,q,e,z.2⟩]
 ·rfl
theorem zdy {f:Fr}{t u p:T}{B n:Nat}(h:FrP f t)(hf:f.ps=[]\/∃ a,f.ps=[a])(hu:PF u p)(hc:PcL B n f.cur)(hp:Pc B n p)(hB:B<=1000000)(q:∀ t',FrP (f.put p) t'->Q .non [t',.non]):zC [t,u] Q X:=by
 obtain⟨bs,c,rfl,h0,h1,h3⟩:=h
 unfold zC
 refine⟨rfl,?_⟩
 have e0:=λs τ=>hu.ix0 hp (s:=s) (τ:=τ)
 have fin:∀ c',LsP c' (addP f.cur p)->Q .non [frT f bs c',.non]:=λc' e1=>q _ ⟨bs,c',rfl,h0,h1,e1⟩
 have hlen:c.length<=1000000:=by rw [h3.len];have:=hc.1;lia
 have l16:c.length<16777216:=by lia
 clear q h1
 have hbs:bs=[]\/∃ b,bs=[b]:=by
  rcases hf with hf | ⟨a,hf⟩
  ·left;rw [hf] at h0;exact Uu.mp h0
  ·right;rw [hf] at h0
   match bs,h0 with
   | [b],_=>exact⟨b,rfl⟩
 have r1:∀ {t':T} {x:Slot},rdS [.own t',.own u,x] 1=some (.own u):=λ{t' x}=>vd rfl hu.sh
 have app:¬ (hd1 p=wLit/\∃ q,f.cur.getLast? = some q/\hd1 q=wLit)->Q .non [frT f bs (c++[u]),.non]:=λhn=>fin _ (by rw [zaJ hn];exact h3.snoc hu)
 rcases hbs with rfl | ⟨b,rfl⟩
 all_goals
  refine za r1 (za (e0 _ _) ?_)
  refine zA (λhw=>?_) (λhw=>?_)
  ·have hw:hd1 p=wLit:=uy hw
   rcases Ud c with rfl | ⟨c',v,rfl⟩
   ·refine za r1 (app λ⟨_,z,e,_⟩=>?_)
    have:=h3.len
    rw [UU this.symm] at e
    cases e
   ·rw [Ue] at *
    obtain⟨cur',v',ec,h5,hv⟩:=h3.last
    have hvc:Pc B n v':=hc.2 _ (by rw [ec];simp)
    refine zA (λ_=>?_) (λz=>absurd z (by simp))
    refine za (X0 rfl yc rfl yd hv.sh) (za (hv.ix0 hvc) ?_)
    refine zA (λhv'=>?_) (λhv'=>?_)
    ·have hv':hd1 v' = wLit:=uy hv'
     obtain⟨i3,l3⟩:=hv.ix1 hvc hv'
     obtain⟨i4,l4⟩:=hu.ix1 hp hw
     refine za (X0 rfl yc rfl yd hv.sh) (za i3 (za r1 (za i4 (za (zf (by lia)) ?_))))
     refine za (Kn rfl zdp rfl) ?_
     refine fin _ ?_
     rw [ec,qW,uw ⟨hw,hv'⟩]
     exact h5.snoc zh3
    ·refine za r1 ?_
     refine za (qe (by rfl) (jy l16) (by rfl)) ?_
     refine app λ⟨_,q,e,z⟩=>?_
     rw [ec,UW] at e
     cases e
     exact uL hv' z
  ·refine za r1 ?_
   refine za (qe (by rfl) (jy l16) (by rfl)) ?_
   exact app λz=>uL hw z.1
end
section
variable {Q:T->List T->Prop} {X:Exn->List T->Prop}
theorem Kw {w n:Lc}(q:Q .non [.nd true (.ob 1 oF) [.str w,.str n,ol [ol []]],.non,.non]):zy [.nd true (.ob 1 []) [],.str w,.str n] Q X:=by
 unfold zy
 exact⟨rfl,q⟩
theorem J1 {w n:Lc}{bl:List T}{b:Bool}(hb:decide (w=wIf/\bl.length=1)=b)(q:Q (.bl b) [.nd true (.ob 1 oF) [.str w,.str n,ol bl]]):zq [.nd true (.ob 1 oF) [.str w,.str n,ol bl]] Q X:=by
 unfold zq
 refine⟨rfl,?_⟩
 subst hb
 refine zA (λh=>?_) (λh=>?_)
 ·have h:w=wIf:=uy h
  rw [show decide (w=wIf/\bl.length=1)=decide ((bl.length:Int)=1) by simp [h];lia] at q
  exact q
 ·have h:¬ w=wIf:=uL h
  rw [show decide (w=wIf/\bl.length=1)=false by simp [h]] at q
  exact q
theorem zff {f:Fr}{t:T}(h:FrP f t)(hf:f.ps=[]\/f.w=wIf/\∃ a,f.ps=[a])(q:∀ r t',PF r f.whole->Q r [t']):qc [t] Q X:=by
 obtain⟨bs,c,rfl,h1,h2,h3⟩:=h
 unfold qc
 refine⟨rfl,?_⟩
 have fc:∀ {c cur:List T},LsP c cur->can (fl (frzs c))=fl cur:=λ{c cur} h=>by
  show T.nd false .ls (cans (frzs c))=_
  rw [wz,h.cn]
 have ff1:∀ {a b:Lc} {c:List T},frz (.tp [.str a,.str b,frz (ol c)])=.tp [.str a,.str b,frz (ol c)]:=λ{a b c}=>by
  show T.tp [.str a,.str b,frz (frz (ol c))]=_
  rw [Q1]
 have ff3:∀ {a b:Lc} {c d:T},frz (.tp [.str a,.str b,frz c,frz d])=.tp [.str a,.str b,frz c,frz d]:=λ{a b c d}=>by
  show T.tp [.str a,.str b,frz (frz c),frz (frz d)]=_
  rw [Q1,Q1]
 refine zA (λhw=>?_) (λhw=>?_)
 ·have hw:¬ f.w=wIf:=uL (by simpa using hw)
  have hf:f.ps=[]:=hf.resolve_right λz=>hw z.1
  rw [hf] at h1
  cases Uu.mp h1
  refine q _ _ ⟨ff1,?_⟩
  unfold Fr.whole
  rw [hf,uv λz=>hw z.1]
  show T.tp [.str f.w,.str f.n,can (fl (frzs c))]=_
  rw [fc h3]
  rfl
 ·have hw:f.w=wIf:=by simpa using hw
  rcases hf with hf | ⟨_,a,hf⟩
  ·rw [hf] at h1
   cases Uu.mp h1
   refine J1 (uS ⟨hw,rfl⟩) (q _ _ ⟨ff3 (d:=ol []),?_⟩)
   unfold Fr.whole
   rw [hf,uw ⟨hw,rfl⟩,hw]
   show T.tp [.str wIf,.str f.n,can (fl (frzs c)),fl []]=_
   rw [fc h3]
   rfl
  ·rw [hf] at h1
   match bs,h1 with
   | [b],h1=>
    have hb:LsP b a:=⟨h2 b uf,by simpa using h1⟩
    refine J1 (uq λz=>by cases z.2) (q _ _ ⟨ff3,?_⟩)
    unfold Fr.whole
    rw [hf,uv (λz=>by cases z.2),hw]
    show T.tp [.str wIf,.str f.n,can (fl (frzs b)),can (fl (frzs c))]=_
    rw [fc h3,fc hb]
    rfl
noncomputable def FsP (R:Fr->T->Prop):List Fr->List T->Prop
 | [],fs=>fs=[]
 | f::st,fs=>∃ t r,fs=r++[t]/\R f t/\FsP R st r
theorem FsP.len {R:Fr->T->Prop}:∀ {st:List Fr} {fs:List T},FsP R st fs->fs.length=st.length
 | [],_,h=>by rw [show _=[] from h];rfl
 | _::st,_,⟨t,r,e,_,h⟩=>by rw [e,ua,FsP.len h];rfl
noncomputable abbrev dF:Lh:=["over","opened","named"]
noncomputable def nmD (nm:List (Lc)):T:=.nd true (.dc (nm.map λn=>.inr (S n))) (nm.map λ_=>.bl true)
noncomputable abbrev drT (ov:T)(fs:List T)(d:T):T:=.nd true (.ob 2 dF) [ov,ol fs,d]
def DrP (ov:T)(s:Sx)(d:T):Prop:=∃ fs,d=drT ov fs (nmD s.2)/\FsP FrP s.1 fs
theorem d_init (q:Q .non [drT .non [.nd true (.ob 1 oF) [.str [],.str [],ol [ol []]]] (nmD [])]):zQ [.nd true (.ob 2 []) []] Q X:=by
 unfold zQ
 refine⟨rfl,?_⟩
 exact Kw q
theorem Vn {ov d:T}{fs:List T}{b:Bool}(hb:decide (fs.length=1)=b)(q:Q (.bl b) [drT ov fs d]):zp [drT ov fs d] Q X:=by
 unfold zp
 refine⟨rfl,?_⟩
 rw [show decide (fs.length=1)=decide ((fs.length:Int)=1) by simp;lia] at hb
 rw [← hb] at q
 exact q
end
section
variable {Q:T->List T->Prop} {X:Exn->List T->Prop}
theorem getD {ov d x:T}{gs:List T}{p:Lc}:getT (1::gs.length::p) (drT ov (gs++[x]) d)=getT p x:=vx
theorem setD {ov d x u t:T}{gs:List T}{p:Lc}(h:setT p x u=some t):setT (1::gs.length::p) (drT ov (gs++[x]) d) u=some (drT ov (gs++[t]) d):=by
 show(setT (gs.length::p) (ol (gs++[x])) u).bind _=_
 rw [kl h]
 rfl
theorem zh4 {ov d tok:T}{fs:List T}{w:Lc}{a:Int}(hv:ov=.non\/∃ n,ov=.str n)(hs:shr tok=true)(e0:∀ {s τ:Sl},ixS s (.own (.int 0)::.own tok::τ)=some (.own (.str w)::τ))(h0:w≠qu)(h1:ov≠.non->fs.length=1->w=zu)(h2:w=qf->∃ gs u n bl,fs=gs++[.nd true (.ob 1 oF) [.str u,.str n,ol bl]]/\u=wIf/\bl.length=1)(h3:w=wEnd->fs.length≠1)(h4:w=xN->ov≠.non)(q:Q (.bl true) [drT ov fs d,.non,.non]):zr [drT ov fs d,tok,.int a] Q X:=by
 unfold zr
 refine⟨rfl,za (vd rfl hs) (za e0 ?_)⟩
 refine jV (uq h0) ?_
 have rest:∀ {P:Prop},P=WSs (jb.drop 3) [.own (drT ov fs d),.own tok,.own (.int a),.own (.str w)] [.al 0 []] (λs τ=>bnd (retA [.mu,.mv,.mv] 0 s τ) λr=>Q .non r) (fnE [.mu,.mv,.mv] Q X)->P:=λ{P} e=>by
  rw [e]
  refine zA (λe1=>?_) (λe1=>?_)
  ·obtain⟨gs,u,n,bl,rfl,hu,hb⟩:=h2 (uy e1)
   refine za (yb (by rfl) yc (by rfl) yd (by rfl)) ?_
   refine wZ (Ko (jR (by rfl) getD) (by rfl) (by rfl) (by rfl)) ?_
   refine za (take1 (jR (by rfl) getD) (vN (by rfl) (by rfl) (setD (by rfl)) (by rfl) (by rfl)) (by rfl) (by rfl)) ?_
   refine J1 (uS ⟨hu,hb⟩) ?_
   refine za (zdq (by rfl) (jR (by rfl) getD) (vN (by rfl) (by rfl) (setD (by rfl)) (by rfl) (by rfl))) ?_
   exact q
  ·refine zA (λe2=>?_) (λe2=>?_)
   ·exact Vn (uq (h3 (uy e2))) q
   ·refine zA (λe3=>?_) (λe3=>q)
    rcases hv with rfl | ⟨n,rfl⟩
    ·exact absurd rfl (h4 (uy e3))
    ·exact q
 rcases hv with rfl | ⟨n,rfl⟩
 ·exact rest rfl
 ·by_cases hl:fs.length=1
  ·refine Vn (uS hl) ?_
   refine jV ?_ (rest rfl)
   rw [h1 nofun hl]
   rfl
  ·exact Vn (uq hl) (rest rfl)
end
section
variable {Q:T->List T->Prop} {X:Exn->List T->Prop}
theorem zfZ {nm:List (Lc)}{n:Lc}:((nm.map λn=>(.inr (S n):Key)).any λk'=>decide (k' = .inr (S n)))=decide (n∈nm):=by
 induction nm with
 | nil=>rfl
 | cons m nm ih=>
  rw [uo,Us,ih]
  by_cases h:n=m
  ·subst h;simp
  ·have:¬ ((.inr (S m):Key)=.inr (S n)):=λz=>h (Ja.mp (Sum.inr.inj z)).symm
   simp [this,h]
theorem zaK:∀ nm:List (Lc),shrs (nm.map λ_=>T.bl true)=true
 | []=>rfl
 | _::nm=>zaK nm
theorem zh5 {nm:List (Lc)}{n:Lc}(h:n∉nm)(hl:nm.length<=1000000):subF (nmD nm) (.str n) (.bl true)=some (nmD (nm++[n])):=by
 show(if (nm.map λn=>(.inr (S n):Key)).length<16777216/\(shrs (nm.map λ_=>T.bl true)&&shr (.bl true))=true then some (T.nd true (.dc (dput _ _ _ _).1) (dput _ _ _ _).2) else none)=_
 rw [uw ⟨by rw [ue];lia,by rw [zaK];rfl⟩]
 unfold dput
 rw [uv (by rw [zfZ,uq h];decide)]
 unfold nmD
 simp
theorem zdz {ov d:T}{st:List Fr}{nm:List (Lc)}{w n:Lc}(h:DrP ov (st,nm) d)(h12:st.length<=12)(hb:w=zu->n∉nm)(hl:nm.length<=1000000)(q:∀ d',DrP ov (⟨w,n,[],[]⟩::st,if w=zu then nm++[n] else nm) d'->Q .non [d',.non,.non]):zG [d,.str w,.str n] Q X:=by
 obtain⟨fs,rfl,h1⟩:=h
 have hlen:fs.length=st.length:=h1.len
 unfold zG
 refine⟨rfl,?_⟩
 have fin:∀ nm',nm' = (if w=zu then nm++[n] else nm)->Q .non [drT ov (fs++[.nd true (.ob 1 oF) [.str w,.str n,ol [ol []]]]) (nmD nm'),.non,.non]:=λnm' e=>by
  subst e
  exact q _ ⟨_,rfl,_,_,rfl,⟨[],[],rfl,rfl,nofun,rfl,rfl⟩,h1⟩
 have l12:decide ((12:Int)<fs.length)=false:=uq (by lia)
 have l16:fs.length<16777216:=by lia
 by_cases hw:w=zu
 ·subst hw
  refine jV (zfZ.trans (uq (hb rfl))) ?_
  refine jV l12 ?_
  refine za (Kn (by rfl) (zh5 (hb rfl) hl) (by rfl)) ?_
  refine Kw ?_
  refine za (qe (by rfl) (jy l16) (by rfl)) ?_
  exact fin _ rfl
 ·refine jV (uq hw) ?_
  refine jV l12 ?_
  refine jV (uq hw) ?_
  refine Kw ?_
  refine za (qe (by rfl) (jy l16) (by rfl)) ?_
  exact fin _ (uv hw).symm
theorem zdA (k:Tok):∀ x∈k.xs,∃ s,x=.str s:=by
 cases k<;>simp [Tok.xs]
theorem zdB {xs:List T}(h:∀ x∈xs,∃ s,x=.str s):cans xs=xs/\frzs xs=xs:=by
 induction xs with
 | nil=>exact⟨rfl,rfl⟩
 | cons x xs ih=>
  obtain⟨s,rfl⟩:=h x uf
  obtain⟨h1,h2⟩:=ih λy hy=>h y (uh _ hy)
  exact⟨congrArg (T.str s::·) h1,congrArg (T.str s::·) h2⟩
theorem zdC {k:Tok}{tok:T}(ht:TokF k.xs tok):PF tok (.tp k.xs):=by
 obtain⟨h1,h2⟩:=zdB (zdA k)
 rcases ht with rfl | rfl
 ·exact⟨congrArg T.tp h2,congrArg T.tp h1⟩
 ·exact⟨congrArg (T.ks false) h2,congrArg T.tp h1⟩
theorem take_ok {ov d tok:T}{s s':Sx}{k:Tok}{a:Int}{o:Bool}{B:Nat}{t:Lc}(h:DrP ov s d)(hs:Stp o s k s')(hx:Tx k t)(hv:(o=false/\ov=.non)\/(o=true/\∃ n,ov=.str n))(ht:TokF k.xs tok)(hk:StK B s.1)(h8:8<=B)(hB:B+t.length<=1000000)(hn:s.2.length<=1000000)(q:∀ d',DrP ov s' d'->Q .non [d',.non,.non]):zY [d,tok,.int a] Q X:=by
 have t1:=(Yv hx).1
 have pf:=zdC ht
 have hv':ov=.non\/∃ n,ov=.str n:=hv.imp And.right And.right
 have ho:ov≠.non->o=true:=λz=>by rcases hv with⟨_,rfl⟩ | ⟨e,_⟩<;>first | exact absurd rfl z | exact e
 obtain⟨fs,rfl,h1⟩:=h
 have hlen:fs.length=s.1.length:=h1.len
 have rt:∀ {x0 x2 x3 x4:Slot},rdS [x0,.own tok,x2,x3,x4] 1=some (.own tok):=vd rfl pf.sh
 have nn:opF .is [tok,.non]=some (.bl false):=by rcases ht with rfl | rfl<;>rfl
 have can:∀ {w:Lc} {r:List T},k.xs=.str w::r->w≠qu->(ov≠.non->fs.length=1->w=zu)->(w=qf->∃ gs u n bl,fs=gs++[.nd true (.ob 1 oF) [.str u,.str n,ol bl]]/\u=wIf/\bl.length=1)->(w=wEnd->fs.length≠1)->(w=xN->ov≠.non) ->
   ∀ {Q:T->List T->Prop} {X:Exn->List T->Prop},Q (.bl true) [drT ov fs (nmD s.2),.non,.non]->zr [drT ov fs (nmD s.2),tok,.int a] Q X:=λ{w r} e g0 g1 g2 g3 g4 {Q X} q=>
  zh4 hv' pf.sh (pf.ix (k:=0) (by rw [e];rfl)) g0 g1 g2 g3 g4 q
 unfold zY
 refine⟨rfl,za rt (za nn (za rt ?_))⟩
 cases hs with
 | put hp hno=>
  rename_i f st nm
  have one:ov≠.non->fs.length=1->False:=λz1 z2=>by
   have:=hno (ho z1)
   cases st with
   | nil=>exact this rfl
   | cons _ _=>simp only [ub] at hlen;omega
  have hc:∃ w r,k.xs=.str w::r/\w≠qu/\w≠qf/\w≠wEnd/\(w=xN->ov≠.non)/\inV (.str (S w)) [.str (S jX),.str (S wIf),.str (S zu)]=false:=by
   cases k with
   | lit s=>exact⟨_,_,rfl,by decide,by decide,by decide,λz=>absurd z (by decide),rfl⟩
   | hole s=>exact⟨_,_,rfl,by decide,by decide,by decide,λz=>absurd z (by decide),rfl⟩
   | draw s=>exact⟨_,_,rfl,by decide,by decide,by decide,λz=>absurd z (by decide),rfl⟩
   | elder=>
    refine⟨_,_,rfl,by decide,by decide,by decide,λ_ z=>?_,rfl⟩
    have hp:o=true:=hp
    rcases hv with⟨e,_⟩ | ⟨_,n,e⟩
    ·rw [hp] at e;cases e
    ·rw [e] at z;cases z
   | op _ _=>cases hp
   | els=>cases hp
   | fin=>cases hp
  obtain⟨w,r,e,w1,w2,w3,w4,w5⟩:=hc
  refine can e w1 (λz1 z2=>(one z1 z2).elim) (λz=>absurd z w2) (λz=>absurd z w3) w4 ?_
  obtain⟨tf,gs,rfl,k1,k3⟩:=h1
  obtain⟨p1,p2⟩:=zdv (n:=12 - st.length) hp hx h8
  refine za rt (za (pf.ix (k:=0) (by rw [e];rfl)) ?_)
  refine jV (uq w1) (jV w5 (jV (uq w2) (jV (uq w3) ?_)))
  obtain⟨bs,c,rfl,k1'⟩:=id k1
  refine za (yb (by rfl) yc (by rfl) yd (by rfl)) ?_
  refine wZ (Ko (jR (by rfl) getD) (by rfl) (by rfl) (by rfl)) ?_
  refine za rt ?_
  refine za (take1 (jR (by rfl) getD) (vN (by rfl) (by rfl) (setD (by rfl)) (by rfl) (by rfl)) (by rfl) (by rfl)) ?_
  refine zdy k1 ?_ pf (hk.2.1.1.mono (u6 B t.length)) p1 hB λt' ht'=>?_
  ·rcases hk.2.1.2.2.1 with z | ⟨_,z⟩
   ·exact .inl z
   ·exact .inr z
  refine za (zdq (by rfl) (jR (by rfl) getD) (vN (by rfl) (by rfl) (setD (by rfl)) (by rfl) (by rfl))) ?_
  exact q _ ⟨_,rfl,_,_,rfl,ht',k3⟩
 | op g1 g2 g3 g4 g5=>
  rename_i st nm w n
  refine can rfl ?_ (λz1 z2=>g4 (ho z1) (by rw [← hlen];exact z2)) (λz=>?_) (λz=>?_) (λz=>?_) ?_
  ·rcases g3 with rfl | rfl | rfl<;>decide
  ·rcases g3 with rfl | rfl | rfl<;>cases z
  ·rcases g3 with rfl | rfl | rfl<;>cases z
  ·rcases g3 with rfl | rfl | rfl<;>cases z
  refine za rt (za (pf.ix (k:=0) rfl) ?_)
  refine jV (uq (by rcases g3 with rfl | rfl | rfl<;>decide)) ?_
  refine wZ (show inV (.str (S w)) [.str (S jX),.str (S wIf),.str (S zu)]=true by rcases g3 with rfl | rfl | rfl<;>rfl) ?_
  refine za rt (za (pf.ix (k:=1) rfl) ?_)
  exact zdz ⟨fs,rfl,h1⟩ g1 g5 hn λd' hd'=>q _ hd'
 | els g1 g2 g3=>
  rename_i f st nm
  obtain⟨tf,gs,rfl,⟨bs,c,rfl,k1,k2,k4⟩,k3⟩:=h1
  rw [g2] at k1
  cases Uu.mp k1
  refine can rfl (by decide) (λz1 z2=>?_) (λ_=>⟨gs,f.w,f.n,[ol c],rfl,g1,rfl⟩) (λz=>absurd z (by decide)) (λz=>absurd z (by decide)) ?_
  ·cases st with
   | nil=>exact absurd rfl (g3 (ho z1))
   | cons _ _=>simp only [ub] at hlen;omega
  refine za rt (za (pf.ix (k:=0) rfl) ?_)
  refine za (yb (by rfl) yc (by rfl) yd (by rfl)) ?_
  refine za (zjs (jR (by rfl) getD) (by rfl) (by rfl) (by rfl) (by rfl)) ?_
  refine wZ (kT (jR (by rfl) (by exact getD))) ?_
  refine za (qe (jR (by rfl) (by exact getD)) (by rfl) (vN (by rfl) (by rfl) (setD (by rfl)) (by rfl) (by rfl))) ?_
  exact q _ ⟨_,rfl,_,_,rfl,⟨[c],[],rfl,by rw [← k4.cn];rfl,λb hb=>by rw [ug.mp hb];exact k4.fz,rfl,rfl⟩,k3⟩
 | fin=>
  rename_i f g st nm
  have l2:fs.length≠1:=by simp only [ub] at hlen;lia
  refine can rfl (by decide) (λz1 z2=>absurd z2 l2) (λz=>absurd z (by decide)) (λ_=>l2) (λz=>absurd z (by decide)) ?_
  obtain⟨tf,r,rfl,k1,tg,gs,rfl,k2,k3⟩:=h1
  refine za rt (za (pf.ix (k:=0) rfl) ?_)
  refine za (qe (by rfl) X1 (by rfl)) ?_
  obtain⟨bs,c,rfl,k1'⟩:=id k1
  obtain⟨bs',c',rfl,k2'⟩:=id k2
  refine za (yb (by rfl) yc (by rfl) yd (by rfl)) ?_
  refine wZ (Ko (jR (by rfl) getD) (by rfl) (by rfl) (by rfl)) ?_
  refine zff k1 hk.2.1.2.2.1 λr t' hr=>?_
  refine za (take1 (jR (by rfl) getD) (vN (by rfl) (by rfl) (setD (by rfl)) (by rfl) (by rfl)) (by rfl) (by rfl)) ?_
  obtain⟨kk1,kk2,kk3,kk4,kk5⟩:=hk
  have e:12 - st.length=12 - (st.length+1)+1:=by simp only [ub] at kk1;lia
  have w1:Pc (B+t.length) (12 - st.length) f.whole:=by rw [e];exact(JZ kk2 h8).mono (u6 _ _)
  refine zdy k2 ?_ hr (kk4.1.mono (u6 B t.length)) w1 hB λt2 ht2=>?_
  ·rcases kk4.2.2.1 with z | ⟨_,z⟩
   ·exact .inl z
   ·exact .inr z
  refine za (zdq (by rfl) (jR (by rfl) getD) (vN (by rfl) (by rfl) (setD (by rfl)) (by rfl) (by rfl))) ?_
  exact q _ ⟨_,rfl,_,_,rfl,ht2,k3⟩
end
section
variable {Q:T->List T->Prop} {X:Exn->List T->Prop}
mutual
noncomputable def thw:T->T
 | .tp xs=>.tp (thws xs)
 | .nd _ k xs=>.nd true k (thws xs)
 | t=>t
noncomputable def thws:List T->List T
 | []=>[]
 | x::xs=>thw x::thws xs
end
theorem yN:∀ xs:List T,thws xs=xs.map thw
 | []=>rfl
 | x::xs=>congrArg (thw x::·) (yN xs)
theorem zh6 {t:T}{us:List T}(h:can t=fl us)(hs:frz t=t):∃ qs,t=fl qs/\LsP qs us:=by
 cases t with
 | nd o k xs=>
  cases h
  obtain⟨rfl,_,h2⟩:=T.nd.inj hs
  exact⟨xs,rfl,h2,rfl⟩
 | ks l xs=>cases l<;>cases h
 | _=>cases h
theorem LsP.mem {c cur:List T}(h:LsP c cur){x:T}(hx:x∈c):frz x=x:=by
 have e:∀ {c:List T},frzs c=c->x∈c->frz x=x:=λ{c}=>by
  induction c with
  | nil=>exact λ_ z=>by cases z
  | cons y c ih=>
   intro e z
   obtain⟨e1,e2⟩:=UG e
   rcases um.mp z with z | z
   ·rw [z];exact e1
   ·exact ih e2 z
 exact e h.fz hx
theorem Qf:∀ (m n:Nat) {Q:T->List T->Prop} {X:Exn->List T->Prop} {ps us:List T} {B:Nat},(us=[]/\0<m)\/n+1<m->LsP ps us->(∀ u∈us,Pc B n u)->B<=1000000->us.length<=B->Q (ol (thws us)) [.non]->qb m [fl ps] Q X
 | 0,_,_,_,_,_,_,h,_,_,_,_,_=>by rcases h with⟨_,h⟩ | h<;>omega
 | m+1,n,Q,X,ps,us,B,hn,hf,hp,hB,hl,q=>by
  refine⟨rfl,?_⟩
  refine za (kj hf.sh) ?_
  refine wB (λk s τ=>τ=[]/\∃ x,s=[.own (fl ps),.own (ol (thws (us.take k))),x]/\(x=.no\/∃ t,x=.own t)) ⟨rfl,_,rfl,.inl rfl⟩ ?_ ?_
  ·rintro k p _ _ K hd ⟨rfl,x,rfl,hx⟩ hK
   have hu:us[k]? = some (can p):=by rw [← hf.cn,qR,ux,hd];rfl
   have pc:=hp _ (uK hu)
   have pf:PF p (can p):=⟨hf.mem (uK hd),rfl⟩
   obtain⟨w,ys,ec,b1,b2,b3,b4⟩:=pc.body
   rw [ec] at pf
   obtain⟨xs,e1,e2,e3⟩:=pf.xs
   have hm:n<m:=by
    rcases hn with⟨h,_⟩ | h
    ·rw [h] at hu;cases hu
    ·lia
   have hxs:LsP xs (.str w::ys):=⟨e1,e2⟩
   refine za (vd rfl pf.sh) ?_
   have its:∀ {s τ:Sl},itS .seq 1 s (.own p::τ)=some ((xs,none),(s,τ)):=λ{s τ}=>by
    rcases e3 with rfl | rfl
    ·exact zh0 hxs.sh
    ·exact zh1 hxs.sh
   have l16:(thws (us.take k)).length<16777216:=by rw [yN,ue,Uv];lia
   have lx:xs.length<=16777216:=by rw [hxs.len,ub];lia
   have ek:thws (us.take (k+1))=thws (us.take k)++[.tp (xs.map λx=>thw (can x))]:=by
    rw [gE,hu,ec,yN,yN,uA]
    show _++[T.tp (thws (.str w::ys))]=_
    rw [← e2,yN,qR,Uq]
    rfl
   refine za its ?_
   refine zfW (g:=λx=>thw (can x)) rfl rfl rfl rfl (λa _ K h=>h) (λx hx K' hK'=>?_) lx ?_
   ·have hy:can x∈T.str w::ys:=by rw [← e2,qR];exact Uh.mpr ⟨x,hx,rfl⟩
    have hP:(∃ s,can x=.str s)\/∃ qs,can x=fl qs/\qs.length<=B/\∀ p∈qs,∃ m,m<n/\Pc B m p:=by
     rcases um.mp hy with e | hy
     ·exact .inl ⟨_,e⟩
     ·exact(b4 _ hy).imp (λ⟨s,e,_⟩=>⟨s,e⟩) id
    rcases hP with⟨s,e⟩ | ⟨us',e,l1,l2⟩
    ·cases zaI e
     exact hK'
    ·obtain⟨qs,rfl,h5⟩:=zh6 e (hxs.mem hx)
     refine Qf m (n - 1) (B:=B) ?_ h5 (λu hu=>?_) hB l1 ?_
     ·by_cases h0:n=0
      ·left
       refine⟨?_,by lia⟩
       cases us' with
       | nil=>rfl
       | cons u _=>obtain⟨m',h1,_⟩:=l2 u uf;omega
      ·right;lia
     ·obtain⟨m',h1,h2⟩:=l2 u hu
      exact h2.to (by lia)
     ·rw [show ol (thws us')=thw (can (fl qs)) by rw [e];rfl]
      exact hK'
   ·refine za (qe (by rfl) (jy l16) (by rfl)) ?_
    exact hK _ _ ⟨rfl,.own p,by rw [ek];rfl,.inr ⟨p,rfl⟩⟩
  ·rintro _ _ ⟨rfl,x,rfl,hx⟩
   rw [show us.take ps.length=us by rw [hf.len,UD]]
   exact q
noncomputable abbrev sF:Lh:=["over","pieces"]
noncomputable abbrev shT (ov:T)(us:List T):T:=.nd true (.ob 0 sF) [ov,ol (thws us)]
theorem Zb {ov:T}{c us:List T}{B n:Nat}(hv:ov=.non\/∃ n,ov=.str n)(hf:LsP c us)(hp:∀ u∈us,Pc B n u)(hn:n<=30)(hB:B<=1000000)(hl:us.length<=B)(q:Q .non [shT ov us,.non,.non]):zF [.nd true (.ob 0 []) [],ov,fl c] Q X:=by
 unfold zF
 refine⟨rfl,?_⟩
 rcases hv with rfl | ⟨_,rfl⟩
 all_goals exact Qf 40 n (B:=B) (.inr (by lia)) hf hp hB hl q
theorem zdD {ov d:T}{us:List T}{nm:List (Lc)}{a:Int}{B:Nat}(hv:ov=.non\/∃ n,ov=.str n)(h:DrP ov ([⟨[],[],[],us⟩],nm) d)(hp:PcL B 12 us)(hB:B<=1000000)(q:∀ d',Q (shT ov us) [d',.non]):qy [d,.int a] Q X:=by
 obtain⟨fs,rfl,t,r,rfl,⟨bs,c,rfl,h1,h2,h3⟩,h4⟩:=h
 have h4:r=[]:=h4
 subst h4
 cases Uu.mp h1
 unfold qy
 refine⟨rfl,?_⟩
 refine Vn (uS rfl) ?_
 have h5:LsP (frzs c) us:=by rw [h3.fz];exact h3
 rcases hv with rfl | ⟨_,rfl⟩
 ·exact Zb (.inl rfl) h5 hp.2 (by lia) hB hp.1 (q _)
 ·exact Zb (.inr ⟨_,rfl⟩) h5 hp.2 (by lia) hB hp.1 (q _)
end
section
variable {Q:T->List T->Prop} {X:Exn->List T->Prop}
theorem zfg {l:Lc}(h:∀ c∈l,c∈SG)(q:Q (.str l) [.non]):jl [.str l] Q X:=by
 unfold jl
 refine⟨rfl,?_⟩
 have en:∀ (l:Lc) (n:Nat),∀ d∈Zs n (signs l),∃ (j:Nat) (c:Nat),d=.tp [.int j,.str [c]]/\c∈l:=λl=>by
  induction l with
  | nil=>intro n d hd;cases hd
  | cons c l ih=>
   intro n d hd
   rcases um.mp hd with rfl | hd
   ·exact⟨n,c,rfl,uf⟩
   ·obtain⟨j,c',e,hc⟩:=ih (n+1) d hd
    exact⟨j,c',e,uh _ hc⟩
 refine wB (λk s τ=>τ=[]/\∃ x y,s=[.own (.str l),x,y]/\((x=.no/\y=.no)\/∃ a b,x=.own a/\y=.own b)) ⟨rfl,_,_,rfl,.inl ⟨rfl,rfl⟩⟩ ?_ ?_
 ·rintro k d _ _ K hd ⟨rfl,x,y,rfl,hxy⟩ hK
  obtain⟨j,c,rfl,hc⟩:=en l 0 d (uK hd)
  refine jV (show(!decide (c∈SG))=false by rw [uS (h c hc)];rfl) ?_
  exact hK _ _ ⟨rfl,_,_,rfl,.inr ⟨_,_,rfl,rfl⟩⟩
 ·rintro _ _ ⟨rfl,x,y,rfl,hxy⟩
  exact q
theorem Rd.inv {o:Bool}{s s':Sx}{l:Lc}(h:Rd o s l s'):(l=[]/\s=s')\/∃ k t r s1,l=t++r/\Stp o s k s1/\Tx k t/\Rd o s1 r s':=by
 cases h with
 | nil=>exact .inl ⟨rfl,rfl⟩
 | cons h1 h2 h3=>exact .inr ⟨_,_,_,_,rfl,h1,h2,h3⟩
theorem zh7 {o:Bool}{s s':Sx}{k:Tok}(h:Stp o s k s'):s'.2.length<=s.2.length+1:=by
 cases h with
 | put _ _=>exact UT _
 | op _ _ _ _ _=>
  show(if _ then _ else _:List (Lc)).length<=_
  split
  ·rw [ua];exact ui _
  ·exact UT _
 | els _ _ _=>exact UT _
 | fin=>exact UT _
noncomputable def root:Fr:=⟨[],[],[],[]⟩
noncomputable def yO (n:Lc):Lc:=123::((qu++32::n)++[125])
def Reads (ov:T)(l:Lc)(us:List T):Prop:=
 (ov=.non/\∃ nm,Rd false ([root],[]) l ([⟨[],[],[],us⟩],nm))\/∃ n r nm,ov=.str n/\qZ n/\l=yO n++r/\Rd true ([root],[]) r ([⟨[],[],[],us⟩],nm)
theorem zbD {n:Lc}{d:T}{s:Sx}(h:DrP .non s d)(q:∀ d',DrP (.str n) s d'->Q .non [d',.non,.non]):zY [d,.tp [.str qu,.str n],.int 0] Q X:=by
 obtain⟨fs,rfl,h1⟩:=h
 unfold zY
 refine⟨rfl,?_⟩
 have can:∀ {Q:T->List T->Prop} {X:Exn->List T->Prop},Q (.bl true) [drT .non fs (nmD s.2),.non,.non]->zr [drT .non fs (nmD s.2),.tp [.str qu,.str n],.int 0] Q X:=λq=>by
  unfold zr
  exact⟨rfl,q⟩
 exact can (q _ ⟨fs,rfl,h1⟩)
theorem Reads.sg {ov:T}{l:Lc}{us:List T}(h:Reads ov l us):∀ c∈l,c∈SG:=by
 rcases h with⟨_,nm,h⟩ | ⟨n,r,nm,_,hn,rfl,h⟩
 ·exact h.sg
 ·intro c hc
  rcases ur.mp hc with z | z
  ·unfold yO at z
   rcases um.mp z with rfl | z
   ·decide
   ·rcases ur.mp z with z | z
    ·rcases ur.mp z with z | z
     ·exact(by decide:∀ c∈qu,c∈SG) c z
     ·rcases um.mp z with rfl | z
      ·decide
      ·exact(xl hn c z).1
    ·rw [ug.mp z];decide
  ·exact h.sg c z
theorem QB (B:Nat):StK B [root]:=⟨uE _,⟨⟨uE _,nofun⟩,nofun,.inl rfl,uE _,uE _,by decide⟩,trivial⟩
theorem Reads.pc {ov:T}{l:Lc}{us:List T}(h:Reads ov l us):PcL (8+l.length) 12 us:=by
 rcases h with⟨_,nm,h⟩ | ⟨n,r,nm,_,hn,rfl,h⟩
 ·exact(h.ok (B:=8) (QB 8) (ui _)).2.1.1
 ·exact(h.ok (B:=8) (QB 8) (ui _)).2.1.1.mono (by rw [ua];lia)
theorem kM {ov:T}{l:Lc}{us:List T}(h:Reads ov l us)(hl:l.length<=2000)(q:Q (shT ov us) [.non]):qr [.str l] Q X:=by
 unfold qr
 refine⟨rfl,?_⟩
 have hpc:=h.pc
 have hsg:=h.sg
 have h':∃ o nm,((o=false/\ov=.non)\/(o=true/\∃ n,ov=.str n))/\((ov=.non/\Rd o ([root],[]) l ([⟨[],[],[],us⟩],nm))\/∃ n r,ov=.str n/\qZ n/\l=yO n++r/\Rd o ([root],[]) r ([⟨[],[],[],us⟩],nm)):=by
  rcases h with⟨e,nm,h⟩ | ⟨n,r,nm,e,hn,el,h⟩
  ·exact⟨false,nm,.inl ⟨rfl,e⟩,.inl ⟨e,h⟩⟩
  ·exact⟨true,nm,.inr ⟨rfl,n,e⟩,.inr ⟨n,r,e,hn,el,h⟩⟩
 clear h
 obtain⟨o,nm,hv,h⟩:=h'
 have hv':ov=.non\/∃ n,ov=.str n:=hv.imp And.right And.right
 refine jV (uq (by lia)) ?_
 refine zfg hsg ?_
 refine d_init ?_
 have d0:DrP .non ([root],[]) (drT .non [.nd true (.ob 1 oF) [.str [],.str [],ol [ol []]]] (nmD [])):=⟨_,rfl,_,[],rfl,⟨[],[],rfl,rfl,nofun,rfl,rfl⟩,rfl⟩
 refine zdn (λm s τ=>τ=[]/\((∃ a:Nat,∃ s1 x d,s=[.own (.str l),.own d,.own (.int a),x]/\(x=.no\/∃ t,x=.own t)/\DrP ov s1 d/\Rd o s1 (l.drop a) ([⟨[],[],[],us⟩],nm)/\a+m=l.length/\StK (8+a) s1.1/\s1.2.length<=a)\/∃ d n r,s=[.own (.str l),.own d,.own (.int 0),.no]/\DrP .non ([root],[]) d/\ov=.str n/\qZ n/\l=yO n++r/\Rd o ([root],[]) r ([⟨[],[],[],us⟩],nm)/\m=l.length)) l.length ⟨rfl,?_⟩ ?_
 ·rcases h with⟨e,h⟩ | ⟨n,r,e,hn,el,h⟩
  ·subst e
   exact .inl ⟨0,_,_,_,rfl,.inl rfl,d0,h,by lia,QB _,ui _⟩
  ·exact .inr ⟨_,n,r,rfl,d0,e,hn,el,h,rfl⟩
 rintro m _ _ K ⟨rfl,⟨a,s1,x,d,rfl,hx,hd,hr,hm,hk,hnm⟩ | ⟨d,n,r,rfl,hd,hov,hn,el,hr,hm⟩⟩ hK
 ·rcases hr.inv with⟨e,e'⟩ | ⟨k,t,r,s2,e,hs,ht,hr'⟩
  ·have:l.length<=a:=by
    have:=congrArg List.length e
    simp only [Ub,uc] at this
    lia
   subst e'
   refine jV (uq (by lia)) ?_
   obtain⟨fs,rfl,_⟩:=id hd
   rcases hx with rfl | ⟨_,rfl⟩
   all_goals exact zdD (B:=8+l.length) hv' hd hpc (by lia) λd'=>q
  ·have t1:=(Yv ht).1
   have ll:a+t.length+r.length=l.length:=by
    have:=congrArg List.length e
    simp only [Ub,ua] at this
    lia
   refine wZ (uS (by lia)) ?_
   refine Yy ht e λu hu=>?_
   have pf:=zdC hu
   obtain⟨fs,rfl,_⟩:=id hd
   have next:∀ {d'},DrP ov s2 d'->K [.own (.str l),.own d',.own (.int ((a:Int)+t.length)),.own (.tp [u,.int t.length])] []:=λ{d'} hd'=>by
    refine hK (m - t.length) _ _ (by lia) ⟨rfl,.inl ⟨a+t.length,s2,.own (.tp [u,.int t.length]),d',?_,.inr ⟨_,rfl⟩,hd',?_,by lia,?_,?_⟩⟩
    ·rw [show((a+t.length:Nat):Int)=(a:Int)+t.length by lia]
    ·rw [← List.drop_drop,e,List.drop_left];exact hr'
    ·rw [← gg];exact Kv hs ht hk (by lia)
    ·have:=zh7 hs;lia
   have hsh:shr (.tp [u,.int t.length])=true:=by show(shr u&&true)=true;rw [pf.sh];rfl
   refine za (zfa hsh) ?_
   rcases hx with rfl | ⟨_,rfl⟩
   all_goals
    refine za (vd rfl hsh) ?_
    refine take_ok hd hs ht hv hu hk (by lia) (by lia) (by lia) λd' hd'=>?_
    refine za (vd rfl hsh) ?_
    exact next hd'
 ·have oi:(qu++32::n).length<=13:=by have:=hn.2.1;simp only [ua,ub,uc];lia
  have ll:l.length=(qu++32::n).length+2+r.length:=by
   rw [el]
   unfold yO
   simp only [ua,ub,uc]
  have n125:125∉qu++32::n:=λz=>by
   rcases ur.mp z with z | z
   ·exact absurd z (by decide)
   ·rcases um.mp z with z | z
    ·cases z
    ·exact(xl hn _ z).2.1 rfl
  refine wZ (uS (by lia)) ?_
  refine kL (a:=0) (P:=λu=>u=.tp [.str qu,.str n]) (i:=qu++32::n) (r:=r) n125 (λq=>zdx (.inr (.inr rfl)) hn (q _ rfl)) (by rw [el];unfold yO;simp) λu hu=>?_
  subst hu
  obtain⟨fs,rfl,_⟩:=id hd
  refine zbD hd λd' hd'=>?_
  refine hK r.length _ _ (by lia) ⟨rfl,.inl ⟨(qu++32::n).length+2,([root],[]),.own (.tp [.tp [.str qu,.str n],.int (((qu++32::n).length:Int)+2)]),d',?_,.inr ⟨_,rfl⟩,by rw [hov];exact hd',?_,by lia,QB _,uE _⟩⟩
  ·rw [show(((qu++32::n).length+2:Nat):Int)=(0:Int)+(((qu++32::n).length:Int)+2) by lia];rfl
  ·have:l.drop ((qu++32::n).length+2)=r:=by
    rw [el,show(qu++32::n).length+2=(yO n).length by unfold yO;simp,List.drop_left]
   rw [this]
   exact hr
end
section
noncomputable def br (w:Lc):Lc:=123::(w++[125])
noncomputable def jB (c:Nat):Lc:=if c=123 then [123,40,125] else if c=125 then [123,41,125] else [c]
noncomputable def jx (s:Lc):Lc:=s.flatMap jB
noncomputable abbrev zdE (n:Lc):T:=.tp [.str JY,.str n]
noncomputable abbrev zdF (n:Lc):T:=.tp [.str yL,.str n]
noncomputable abbrev Kx:T:=.tp [.str xN]
mutual
noncomputable def txP:T->Lc
 | .tp [.str w]=>br w
 | .tp [.str w,.str s]=>if w=wLit then jx s else if w=JY then br s else br (w++32::s)
 | .tp [.str w,.str n,.nd _ _ ps]=>br (w++32::n)++(txPs ps++br wEnd)
 | .tp [.str w,.str n,.nd _ _ ps,.nd _ _ qs]=>br (w++32::n)++(txPs ps++((if qs.isEmpty=true then [] else br qf++txPs qs)++br wEnd))
 | _=>[]
noncomputable def txPs:List T->Lc
 | []=>[]
 | p::ps=>txP p++txPs ps
end
theorem yP:∀ ps:List T,txPs ps=(ps.map txP).flatten
 | []=>rfl
 | p::ps=>by rw [txPs,yP ps];rfl
theorem yQ (a b:List T):txPs (a++b)=txPs a++txPs b:=by rw [yP,yP,yP,uA,List.flatten_append]
def LsB (R:T->Prop)(ps:List T):Prop:=ps.length<=100000/\∀ p∈ps,R p
theorem LsB.mono {R R':T->Prop}{ps:List T}(h:LsB R ps)(hR:∀ p,R p->R' p):LsB R' ps:=⟨h.1,λp hp=>hR p (h.2 p hp)⟩
abbrev Sm (s:Lc):Prop:=s.length<=100000
def ShB (R:T->Prop)(t:T):Prop:=(∃ s,t=litP s/\Sm s)\/(∃ n,t=zdE n/\Sm n)\/(∃ n,t=zdF n/\Sm n)\/t=Kx\/(∃ w n ps,(w=jX\/w=zu)/\t=.tp [.str w,.str n,fl ps]/\Sm n/\LsB R ps)\/∃ n ps qs,t=.tp [.str wIf,.str n,fl ps,fl qs]/\Sm n/\LsB R ps/\LsB R qs
noncomputable def Sh:Nat->T->Prop
 | 0=>ShB λ_=>False
 | n+1=>ShB (Sh n)
theorem ShB.mono {R R':T->Prop}{t:T}(h:ShB R t)(hR:∀ p,R p->R' p):ShB R' t:=by
 rcases h with h | h | h | h | ⟨w,n,ps,h1,h2,hm,h3⟩ | ⟨n,ps,qs,h1,hm,h2,h3⟩
 ·exact .inl h
 ·exact .inr (.inl h)
 ·exact .inr (.inr (.inl h))
 ·exact .inr (.inr (.inr (.inl h)))
 ·exact .inr (.inr (.inr (.inr (.inl ⟨w,n,ps,h1,h2,hm,h3.mono hR⟩))))
 ·exact .inr (.inr (.inr (.inr (.inr ⟨n,ps,qs,h1,hm,h2.mono hR,h3.mono hR⟩))))
theorem Sh.up:∀ {n:Nat} {t:T},Sh n t->Sh (n+1) t
 | 0,_,h=>ShB.mono (R':=Sh 0) h λ_ z=>z.elim
 | n+1,_,h=>ShB.mono (R':=Sh (n+1)) h λ_ z=>Sh.up z
theorem Sh.to {n m:Nat}(h:n<=m){t:T}(k:Sh n t):Sh m t:=by
 induction h with
 | refl=>exact k
 | step _ ih=>exact ih.up
theorem Sh.body:∀ {n:Nat} {t:T},Sh n t->ShB (λp=>∃ m,m+1=n/\Sh m p) t
 | 0,_,h=>ShB.mono h λ_ z=>z.elim
 | n+1,_,h=>ShB.mono h λ_ z=>⟨n,rfl,z⟩
theorem Sh.lit {s:Lc}{n:Nat}(h:Sm s):Sh n (litP s):=Sh.to (uE n) (.inl ⟨s,rfl,h⟩:Sh 0 _)
theorem Sh.hole {s:Lc}{n:Nat}(h:Sm s):Sh n (zdE s):=Sh.to (uE n) (.inr (.inl ⟨s,rfl,h⟩):Sh 0 _)
theorem Sh.draw {s:Lc}{n:Nat}(h:Sm s):Sh n (zdF s):=Sh.to (uE n) (.inr (.inr (.inl ⟨s,rfl,h⟩)):Sh 0 _)
theorem Sh.elder {n:Nat}:Sh n Kx:=Sh.to (uE n) (.inr (.inr (.inr (.inl rfl))):Sh 0 _)
theorem Sh.blk {w m:Lc}{ps:List T}{n:Nat}(hw:w=jX\/w=zu)(hm:Sm m)(h:LsB (Sh n) ps):Sh (n+1) (.tp [.str w,.str m,fl ps]):=.inr (.inr (.inr (.inr (.inl ⟨w,m,ps,hw,rfl,hm,h⟩))))
theorem Sh.ife {m:Lc}{ps qs:List T}{n:Nat}(hm:Sm m)(h:LsB (Sh n) ps)(h':LsB (Sh n) qs):Sh (n+1) (.tp [.str wIf,.str m,fl ps,fl qs]):=.inr (.inr (.inr (.inr (.inr ⟨m,ps,qs,rfl,hm,h,h'⟩))))
theorem Sh.ind {C:Nat->T->Prop}(h:∀ {n:Nat} {t:T},ShB (λp=>∃ m,m+1=n/\Sh m p/\C m p) t->C n t):∀ {n:Nat} {t:T},Sh n t->C n t:=by
 intro n
 induction n with
 | zero=>exact λk=>h (ShB.mono k λ_ z=>z.elim)
 | succ n ih=>exact λk=>h (ShB.mono k λp z=>⟨n,rfl,z,ih z⟩)
theorem vW {n:Nat}:∀ {ps:List T},(∀ p∈ps,∃ d,datO p=some d/\jC d=true/\depD d<=n)->∃ ds,jD ps=some ds/\vI ds=true/\wL ds<=n
 | [],_=>⟨[],rfl,rfl,uE _⟩
 | p::ps,h=>by
  obtain⟨d,h1,h2,h3⟩:=h p uf
  obtain⟨ds,k1,k2,k3⟩:=vW (ps:=ps) λq hq=>h q (uh _ hq)
  refine⟨d::ds,?_,?_,?_⟩
  ·rw [jD,h1,k1];rfl
  ·simp only [vI,h2,k2,Bool.and_self]
  ·simp only [wL];lia
theorem Vo {n:Nat}{ps:List T}{o:Bool}(h:∃ ds,jD ps=some ds/\vI ds=true/\wL ds<=n):∃ d,datO (.nd o .ls ps)=some d/\jC d=true/\depD d<=n+1:=by
 obtain⟨ds,h1,h2,h3⟩:=h
 refine⟨.ls ds,?_,?_,?_⟩
 ·rw [datO,h1];rfl
 ·simp only [jC];exact h2
 ·simp only [depD];lia
theorem zh8 {n:Nat}{ps:List T}(h:∃ ds,jD ps=some ds/\vI ds=true/\wL ds<=n):∃ d,datO (.tp ps)=some d/\jC d=true/\depD d<=n+1:=by
 obtain⟨ds,h1,h2,h3⟩:=h
 refine⟨.tp ds,?_,?_,?_⟩
 ·rw [datO,h1];rfl
 ·simp only [jC];exact h2
 ·simp only [depD];lia
theorem zfh (n:Nat)(s:Lc):∃ d,datO (.str s)=some d/\jC d=true/\depD d<=n:=⟨_,rfl,rfl,uE _⟩
theorem Sh.dat {n:Nat}{t:T}:Sh n t->∃ d,datO t=some d/\jC d=true/\depD d<=2 * n+2:=by
 refine Sh.ind (C:=λn t=>∃ d,datO t=some d/\jC d=true/\depD d<=2 * n+2) λ{n t} h=>?_
 have st:∀ s,∃ d,datO (.str s)=some d/\jC d=true/\depD d<=2 * n+1:=λs=>zfh _ s
 have fs:∀ {ps:List T},LsB (λp=>∃ m,m+1=n/\Sh m p/\∃ d,datO p=some d/\jC d=true/\depD d<=2 * m+2) ps->∃ d,datO (fl ps)=some d/\jC d=true/\depD d<=2 * n+1:=λ{ps} k=>Vo (n:=2 * n) (vW λp hp=>by
  obtain⟨m,rfl,_,d,h1,h2,h3⟩:=k.2 p hp
  exact⟨d,h1,h2,by lia⟩)
 have al:∀ {xs:List T},(∀ x∈xs,∃ d,datO x=some d/\jC d=true/\depD d<=2 * n+1)->∃ d,datO (.tp xs)=some d/\jC d=true/\depD d<=2 * n+2:=λ{xs} k=>zh8 (vW k)
 rcases h with⟨s,rfl,_⟩ | ⟨s,rfl,_⟩ | ⟨s,rfl,_⟩ | rfl | ⟨w,m,ps,_,rfl,_,h3⟩ | ⟨m,ps,qs,rfl,_,h2,h3⟩
 all_goals refine al λx hx=>?_
 ·rcases um.mp hx with rfl | hx
  ·exact st _
  ·rw [ug.mp hx];exact st _
 ·rcases um.mp hx with rfl | hx
  ·exact st _
  ·rw [ug.mp hx];exact st _
 ·rcases um.mp hx with rfl | hx
  ·exact st _
  ·rw [ug.mp hx];exact st _
 ·rw [ug.mp hx];exact st _
 ·simp only [um,gp,or_false] at hx
  rcases hx with rfl | rfl | rfl
  ·exact st _
  ·exact st _
  ·exact fs h3
 ·simp only [um,gp,or_false] at hx
  rcases hx with rfl | rfl | rfl | rfl
  ·exact st _
  ·exact st _
  ·exact fs h2
  ·exact fs h3
theorem zjw {n:Nat}{ps:List T}{a b:Bool}(h:∀ p∈ps,Sh n p)(hn:n<=20):eqO (.nd a .ls ps) (.nd b .ls ps)=some true:=by
 obtain⟨d,h1,h2,h3⟩:=Vo (o:=a) (vW λp hp=>(h p hp).dat)
 obtain⟨e,k1,k2,k3⟩:=Vo (o:=b) (vW λp hp=>(h p hp).dat)
 have:d=e:=by
  rw [datO] at h1 k1
  rw [h1] at k1
  exact uG k1
 subst this
 show two (datO (.nd a .ls ps)) (datO (.nd b .ls ps)) _=_
 rw [h1,k1]
 show(if depD d<=50/\_ then some (eqD d d) else none)=_
 rw [uw ⟨by lia,rfl,rfl⟩,Jg h2]
mutual
theorem zfi:∀ t:T,frz (thw t)=frz t
 | .tp xs=>congrArg T.tp (xq xs)
 | .nd _ k xs=>congrArg (T.nd false k) (xq xs)
 | .non=>rfl
 | .bl _=>rfl
 | .int _=>rfl
 | .str _=>rfl
 | .any=>rfl
 | .ks _ _=>rfl
 | .xo _ _ _=>rfl
theorem xq:∀ ts:List T,frzs (thws ts)=frzs ts
 | []=>rfl
 | t::ts=>by rw [thws,frzs,zfi t,xq ts];rfl
end
theorem Sh.fz {n:Nat}{t:T}:Sh n t->frz t=t/\can t=t:=by
 have ls:∀ {ps:List T},(∀ p∈ps,frz p=p/\can p=p)->frzs ps=ps/\cans ps=ps:=λ{ps} h=>by
  rw [jI,qR]
  exact⟨(u4 λp hp=>(h p hp).1).trans (Ux _),(u4 λp hp=>(h p hp).2).trans (Ux _)⟩
 refine Sh.ind (C:=λn t=>frz t=t/\can t=t) λ{n t} h=>?_
 rcases h with⟨s,rfl,_⟩ | ⟨s,rfl,_⟩ | ⟨s,rfl,_⟩ | rfl | ⟨w,m,ps,_,rfl,_,h3⟩ | ⟨m,ps,qs,rfl,_,h2,h3⟩
 ·exact⟨rfl,rfl⟩
 ·exact⟨rfl,rfl⟩
 ·exact⟨rfl,rfl⟩
 ·exact⟨rfl,rfl⟩
 ·obtain⟨a,b⟩:=ls λp hp=>(h3.2 p hp).choose_spec.2.2
  exact⟨by show T.tp [.str w,.str m,fl (frzs ps)]=_;rw [a],by show T.tp [.str w,.str m,fl (cans ps)]=_;rw [b]⟩
 ·obtain⟨a,b⟩:=ls λp hp=>(h2.2 p hp).choose_spec.2.2
  obtain⟨c,d⟩:=ls λp hp=>(h3.2 p hp).choose_spec.2.2
  exact⟨by show T.tp [.str wIf,.str m,fl (frzs ps),fl (frzs qs)]=_;rw [a,c],by show T.tp [.str wIf,.str m,fl (cans ps),fl (cans qs)]=_;rw [b,d]⟩
theorem Sh.pc {n:Nat}{t:T}:Sh n t->Pc 100000 n t:=by
 refine Sh.ind (C:=Pc 100000) λ{n t} h=>?_
 have lf:∀ {w s:Lc},w.length<=8->Sm s->Pc 100000 n (.tp [.str w,.str s]):=λ{w s} h1 h2=>xX (by lia) (λ_=>⟨_,rfl⟩) (by simp) λx hx=>⟨s,ug.mp hx,h2⟩
 have nd:∀ {w:Lc} {xs:List T},w.length<=8->w≠wLit->xs.length<=8->(∀ x∈xs,(∃ s,x=.str s/\Sm s)\/∃ ps,x=fl ps/\LsB (λp=>∃ m,m+1=n/\Sh m p/\Pc 100000 m p) ps)->Pc 100000 n (.tp (.str w::xs)):=λ{w xs} h1 h2 h3 h4=>by
  cases n with
  | zero=>
   refine⟨w,xs,rfl,by lia,λz=>absurd z h2,h3,λx hx=>(h4 x hx).imp id λ⟨ps,e,l,k⟩=>⟨ps,e,l,λp hp=>?_⟩⟩
   obtain⟨m,e,_⟩:=k p hp
   lia
  | succ n=>
   refine⟨w,xs,rfl,by lia,λz=>absurd z h2,h3,λx hx=>(h4 x hx).imp id λ⟨ps,e,l,k⟩=>⟨ps,e,l,λp hp=>?_⟩⟩
   obtain⟨m,e,_,z⟩:=k p hp
   cases e
   exact z
 rcases h with⟨s,rfl,k⟩ | ⟨s,rfl,k⟩ | ⟨s,rfl,k⟩ | rfl | ⟨w,m,ps,hw,rfl,k,h3⟩ | ⟨m,ps,qs,rfl,k,h2,h3⟩
 ·exact lf (by decide) k
 ·exact lf (by decide) k
 ·exact lf (by decide) k
 ·exact xX (by decide) (λz=>absurd z (by decide)) (by decide) nofun
 ·refine nd (by rcases hw with rfl | rfl<;>decide) (by rcases hw with rfl | rfl<;>decide) (by simp) λx hx=>?_
  rcases um.mp hx with rfl | hx
  ·exact .inl ⟨_,rfl,k⟩
  ·exact .inr ⟨ps,ug.mp hx,h3⟩
 ·refine nd (by decide) (by decide) (by simp) λx hx=>?_
  simp only [um,gp,or_false] at hx
  rcases hx with rfl | rfl | rfl
  ·exact .inl ⟨_,rfl,k⟩
  ·exact .inr ⟨ps,rfl,h2⟩
  ·exact .inr ⟨qs,rfl,h3⟩
theorem Sh.ls {n:Nat}{ps:List T}(h:∀ p∈ps,Sh n p):LsP ps ps:=by
 refine⟨?_,?_⟩
 ·rw [jI];exact(u4 λp hp=>(h p hp).fz.1).trans (Ux _)
 ·rw [qR];exact(u4 λp hp=>(h p hp).fz.2).trans (Ux _)
end
section
variable {Q:T->List T->Prop} {X:Exn->List T->Prop}
theorem ZN {w:Lc}(h:w.length<=16000000)(q:Q (.str (br w)) [.non]):qG [.str w] Q X:=by
 unfold qG
 refine⟨rfl,?_⟩
 refine za (zf (by simp only [ub,uc];lia)) ?_
 refine za (zf (by simp only [ua,ub,uc];lia)) ?_
 exact q
theorem zh9 (c:Nat):kgO jt [c] (.str [c])=.str (jB c):=by
 show(if ([123]:Lc)=[c] then T.str [123,40,125] else if ([125]:Lc)=[c] then .str [123,41,125] else .str [c])=_
 unfold jB
 by_cases h:c=123
 ·subst h;rfl
 ·by_cases h':c=125
  ·subst h';rfl
  ·rw [uv (by simp;lia),uv (by simp;lia),uv h,uv h']
theorem zbE (s:Lc):(jx s).length<=3 * s.length:=by
 induction s with
 | nil=>exact ui _
 | cons c s ih=>
  have:(jB c).length<=3:=by unfold jB;split<;>(try split)<;>simp
  show(jB c++jx s).length<=_
  rw [ua,ub];lia
theorem zia {s:Lc}(h:s.length<=1000000)(q:Q (.str (jx s)) [.non]):qa [.str s] Q X:=by
 unfold qa
 refine⟨rfl,?_⟩
 refine JH (α:=Nat) (f:=λc=>.str [c]) (g:=λc=>.str (jB c)) (xs:=s) (acc:=[]) rfl rfl rfl rfl (λa _ K h=>h) (λc _ K hK=>?_) (by simp only [uc];lia) ?_
 ·show K _ (.own (kgO jt [c] (.str [c]))::_)
  rw [zh9]
  exact hK
 ·have:=zbE s
  refine za (X3 (f:=jB) (o:=true) (xs:=s) (by rw [show(s.map jB).flatten=jx s from(List.flatMap_def).symm];lia)) ?_
  rw [show(s.map jB).flatten=jx s from(List.flatMap_def).symm]
  exact q
theorem zdG {p:T}{ps:List T}(h:p∈ps):(txP p).length<=(txPs ps).length:=by
 induction ps with
 | nil=>cases h
 | cons q ps ih=>
  rw [txPs,ua]
  rcases um.mp h with rfl | h
  ·lia
  ·have:=ih h;lia
theorem kn:∀ (m n:Nat) {Q:T->List T->Prop} {X:Exn->List T->Prop} {us:List T},(us=[]/\0<m)\/n+1<m->LsB (Sh n) us->(txPs us).length<=1000000->Q (.str (txPs us)) [.non]->zh m [fl us] Q X
 | 0,_,_,_,_,h,_,_,_=>by rcases h with⟨_,h⟩ | h<;>omega
 | m+1,n,Q,X,us,hn,hs,hl,q=>by
  refine⟨rfl,?_⟩
  have ls:LsP us us:=Sh.ls hs.2
  refine za (kj ls.sh) ?_
  refine zfW (g:=λp=>.str (txP p)) rfl rfl rfl rfl (λa _ K h=>h) (λp hp K hK=>?_) (by have:=hs.1;lia) ?_
  ·have hm:n<m:=by
    rcases hn with⟨h,_⟩ | h
    ·rw [h] at hp;cases hp
    ·lia
   have l1:=zdG hp
   have sb:=(hs.2 p hp).body
   have rec':∀ {ps:List T} {Q:T->List T->Prop} {X:Exn->List T->Prop},LsB (λp=>∃ m,m+1=n/\Sh m p) ps->(txPs ps).length<=1000000->Q (.str (txPs ps)) [.non]->zh m [fl ps] Q X:=λ{ps Q X} k1 k2 q=>by
    cases n with
    | zero=>
     refine kn m 0 (.inl ⟨?_,hm⟩) (k1.mono λp z=>by obtain⟨_,e,_⟩:=z;lia) k2 q
     cases ps with
     | nil=>rfl
     | cons p _=>obtain⟨_,e,_⟩:=k1.2 p uf;omega
    | succ n=>exact kn m n (.inr (by omega)) (k1.mono λp z=>by obtain⟨_,e,z⟩:=z;cases e;exact z) k2 q
   have sh:=(hs.2 p hp).fz.1
   refine za (vd rfl (by rw [← sh];exact vM p)) ?_
   show zX (zh m) [p] _ _
   have fin:∀ {Q:T->List T->Prop} {X:Exn->List T->Prop},Q (.str (txP p)) [.non]->zX (zh m) [p] Q X:=λ{Q X} q=>by
    refine⟨rfl,?_⟩
    rcases sb with⟨s,rfl,k⟩ | ⟨s,rfl,k⟩ | ⟨s,rfl,k⟩ | rfl | ⟨w,nm,ps,hw,rfl,k,h3⟩ | ⟨nm,ps,qs,rfl,k,h2,h3⟩
    ·exact zia (by lia) q
    ·exact ZN (by lia) q
    ·refine za (zf (by simp only [ua,ub,uc];lia)) ?_
     refine ZN (by simp only [ua,ub,uc];lia) ?_
     exact q
    ·exact ZN (by decide) q
    ·have e:txP (.tp [.str w,.str nm,fl ps])=br (w++32::nm)++(txPs ps++br wEnd):=by rw [txP]
     rw [e] at q l1
     have l2:(br (w++32::nm)).length+((txPs ps).length+(br wEnd).length)<=1000000:=by simp only [ua] at l1;lia
     have l3:(w++32::nm).length<=1000000:=by have:=l2;unfold br at this;simp only [ua,ub,uc] at this ⊢;lia
     rcases hw with rfl | rfl
     all_goals
      refine za (zf (by simp only [ua,ub,uc];lia)) ?_
      refine ZN (by simp only [ua,ub,uc];lia) ?_
      refine rec' h3 (by lia) ?_
      refine za (zf (by unfold br at l2 ⊢;simp only [ua,ub,uc] at l2 ⊢;lia)) ?_
      refine za (zf (by unfold br at l2 ⊢;simp only [ua,ub,uc] at l2 ⊢;lia)) ?_
      refine ZN (by decide) ?_
      refine za (zf (by unfold br at l2 ⊢;simp only [ua,ub,uc] at l2 ⊢;lia)) ?_
      rw [← ud,← uk (_++txPs ps)] at q
      exact q
    ·have e:txP (.tp [.str wIf,.str nm,fl ps,fl qs])=br (wIf++32::nm)++(txPs ps++((if qs.isEmpty=true then [] else br qf++txPs qs)++br wEnd)):=by rw [txP]
     rw [e] at q l1
     have l2:(br (wIf++32::nm)).length+((txPs ps).length+((if qs.isEmpty=true then [] else br qf++txPs qs).length+(br wEnd).length))<=1000000:=by simp only [ua] at l1;lia
     refine za (zf (by simp only [ua,ub,uc];lia)) ?_
     refine ZN (by simp only [ua,ub,uc];lia) ?_
     have el:∀ {Q:T->List T->Prop} {X:Exn->List T->Prop},Q (.str (if qs.isEmpty=true then [] else br qf++txPs qs)) [.non]->qp (zh m) [fl qs] Q X:=λ{Q X} q=>by
      refine⟨rfl,?_⟩
      cases qs with
      | nil=>exact q
      | cons p qs=>
       refine ZN (by decide) ?_
       rw [uv (by simp)] at l2 q
       refine rec' h3 (by simp only [ua] at l2;lia) ?_
       refine za (zf (by show(br qf).length+_<=_;simp only [ua] at l2;lia)) ?_
       exact q
     refine el ?_
     refine rec' h2 (by lia) ?_
     refine za (zf (by unfold br at l2 ⊢;simp only [ua,ub,uc] at l2 ⊢;lia)) ?_
     refine za (zf (by unfold br at l2 ⊢;simp only [ua,ub,uc] at l2 ⊢;lia)) ?_
     refine ZN (by decide) ?_
     refine za (zf (by unfold br at l2 ⊢;simp only [ua,ub,uc] at l2 ⊢;lia)) ?_
     rw [← ud,← ud] at q
     exact q
   exact fin hK
  ·rw [yP] at hl q
   refine za (X3 (f:=txP) (o:=true) (xs:=us) (by lia)) ?_
   exact q
end
section
variable {Q:T->List T->Prop} {X:Exn->List T->Prop}
noncomputable def ovT:T->Lc
 | .str n=>br (qu++32::n)
 | _=>[]
noncomputable abbrev shF (ov:T)(us:List T):T:=.nd false (.ob 0 sF) [ov,fl us]
theorem Wx {ov:T}{us:List T}{n:Nat}(hv:ov=.non\/∃ n,ov=.str n/\n.length<=1000000)(hs:LsB (Sh n) us)(hn:n<=30)(hl:(txPs us).length<=1000000)(q:Q (.str (ovT ov++txPs us)) [.non]):zO [shF ov us] Q X:=by
 unfold zO
 refine⟨rfl,?_⟩
 rcases hv with rfl | ⟨nm,rfl,hm⟩
 ·refine kn 40 n (.inr (by lia)) hs hl ?_
  refine za (zf (by simp only [uc];lia)) ?_
  exact q
 ·refine za (zf (by simp only [ub,uc];lia)) ?_
  refine ZN (by simp only [ua,ub,uc];lia) ?_
  refine kn 40 n (.inr (by lia)) hs hl ?_
  refine za (zf (by unfold br;simp only [ua,ub,uc];lia)) ?_
  exact q
theorem Ky {ov:T}{us:List T}(hv:ov=.non\/∃ n,ov=.str n)(hf:frzs us=us):frz (shT ov us)=shF ov us:=by
 show T.nd false (.ob 0 sF) [frz ov,fl (frzs (thws us))]=_
 rw [xq,hf]
 rcases hv with rfl | ⟨n,rfl⟩<;>rfl
end
section
variable {Q:T->List T->Prop} {X:Exn->List T->Prop}
theorem zf0 {xs:List T}{i:Int}{u:T}{o:Bool}{s τ:Sl}(h0:0<=i)(h:xs[i.toNat]? = some u):ixS s (.own (.int i)::.own (.nd o .ls xs)::τ)=some (.own u::τ):=by
 obtain⟨j,rfl⟩:=gq h0
 rw [UK] at h
 exact JI (xQ (uN.mp h).1) rfl h
theorem zaL {t:Lc}{i:Int}{s τ:Sl}(h0:0<=i)(h1:i<t.length):ixS s (.own (.int i)::.own (.str t)::τ)=some (.own (.str [t.getD i.toNat 0])::τ):=by
 obtain⟨j,rfl⟩:=gq h0
 have l:j<t.length:=by lia
 rw [UK,uO,uu l]
 exact(Vm (r:=t.drop (j+1)) (a:=j) (Um l)).2
theorem getD_mem {t:Lc}{i:Int}(h0:0<=i)(h1:i<t.length):t.getD i.toNat 0∈t:=by
 have l:i.toNat<t.length:=by lia
 rw [uO,uu l]
 exact UR _
theorem Vp {x y:Int}(h:IntMulOk x y):opF .mul [.int x,.int y]=some (.int (x * y)):=by
 show(if IntMulOk x y then some (T.int (x * y)) else none)=_
 rw [uw h]
theorem Qg {x y:Int}(h:0<y):opF .mod [.int x,.int y]=some (.int (x % y)):=by
 show(if 0<y then some (T.int (x % y)) else none)=_
 rw [uw h]
noncomputable def m1:List Int:=[1000000007,1181783503,1372345291,1518500279,1636201513,1734723539,1871234567,2012345681]
noncomputable def m2:List Int:=[100000000003,223606797763,314159265359,414213562379,577215664943,693147180563,732050807573]
noncomputable def mixF (c k:Int):Int:=((c % 1000000000039+1) * m1.getD (k % 8).toNat 0 % 2147483629+1) * m2.getD (k % 7).toNat 0 % 999999999989
theorem zdH (c k:Int):0<=mixF c k/\mixF c k<999999999989:=⟨uR _ (by decide),uM _ (by decide)⟩
theorem yR {c k:Int}(q:Q (.int (mixF c k)) [.non,.non]):zK [.int c,.int k] Q X:=by
 unfold zK
 refine⟨rfl,?_⟩
 have at_:∀ {ms:List Int} {n:Nat} {s τ:Sl},ms.length=n->0<n->ixS s (.own (.int (k % (n:Int)))::.own (.nd true .ls (ms.map .int))::τ)=some (.own (.int (ms.getD (k % (n:Int)).toNat 0))::τ):=λ{ms n s τ} hn h0=>by
  have h1:=uR k (b:=(n:Int)) (by lia)
  have h2:=uM k (b:=(n:Int)) (by lia)
  refine zf0 h1 ?_
  rw [ux,uO,uu (by lia)]
  rfl
 have b1:∀ j:Nat,j<8->-(2 ^ 64)<m1.getD j 0/\m1.getD j 0<2 ^ 64:=by decide
 have b2:∀ j:Nat,j<7->-(2 ^ 64)<m2.getD j 0/\m2.getD j 0<2 ^ 64:=by decide
 refine za (at_ (ms:=m1) (n:=8) rfl (by decide)) ?_
 refine za (at_ (ms:=m2) (n:=7) rfl (by decide)) ?_
 have k8:=uR k (b:=8) (by decide)
 have k8':=uM k (b:=8) (by decide)
 have k7:=uR k (b:=7) (by decide)
 have k7':=uM k (b:=7) (by decide)
 refine za (Vp (QM (b1 _ (by lia)))) ?_
 refine za (Vp (QM (b2 _ (by lia)))) ?_
 exact q
theorem ZO {ns:List Int}{k:Nat}(q:∀ c,Q (.int c) [.non,.non]):zx [.ks true (ns.map .int),.int k] Q X:=by
 unfold zx
 refine⟨rfl,?_⟩
 refine zA (λh=>?_) λh=>?_
 ·have h:(k:Int)<((ns.map T.int).length:Nat):=uy h
  have l:k<(ns.map T.int).length:=by lia
  have l':k<ns.length:=by rw [ue] at l;exact l
  refine za (JI (t:=.ks true (ns.map .int)) (xQ l) rfl (uu l)) ?_
  rw [List.getElem_map]
  exact q _
 ·exact q _
theorem zfj {c:Int}(q:∀ n,0<=n->Q (.int n) [.non]):jm [.int c] Q X:=by
 unfold jm
 refine⟨rfl,?_⟩
 refine zA (λh=>?_) λh=>?_
 ·have h:(10:Int) ^ 18<=c:=uy h
  exact q _ (by lia)
 ·exact yR (q _ (zdH _ _).1)
noncomputable def AH:Lc:=[97,99,102,103,104,106,107,108,109,110,112,113,114,115,116,117,118,119,120,121,122]
def Gd (n:Lc):Prop:=(∀ c∈n,c∈LT)/\∃ c r,n=c::r/\c∈AH
theorem zib {c:Nat}(h:c∈LT):97<=c/\c<=122:=(by decide:∀ c∈LT,97<=c/\c<=122) c h
theorem zf1 {c:Nat}(h:c∈AH):c∈LT:=(by decide:∀ c∈AH,c∈LT) c h
theorem Gd.own {n:Lc}(h:Gd n)(hl:n.length<=8):xW n:=by
 obtain⟨h1,c,r,rfl,hc⟩:=h
 refine⟨⟨by simp,hl,λc hc=>zib (h1 c hc)⟩,λz=>?_⟩
 have:∀ w∈Vk,w.head?≠none/\∀ c,w.head? = some c->c∉AH:=by decide
 exact(this _ z).2 c rfl hc
end
section
variable {Q:T->List T->Prop} {X:Exn->List T->Prop}
noncomputable def qz (j:Nat):Lc:=if j=0 then AH else LT
noncomputable def chF (c:Int)(a k j:Nat):Nat:=(qz j).getD ((mixF c (2+(j:Int))+(if j=a then(k:Int) else 0)) % ((qz j).length:Int)).toNat 0
theorem J2 (j:Nat):21<=(qz j).length/\(qz j).length<=26:=by
 unfold qz
 split<;>decide
theorem zdI {j a b:Nat}(ha:a<(qz j).length)(hb:b<(qz j).length)(h:(qz j).getD a 0=(qz j).getD b 0):a=b:=by
 unfold qz at *
 split at ha
 ·rename_i e
  rw [uw e] at hb h
  exact(by decide:∀ a,a<21->∀ b,b<21->AH.getD a 0=AH.getD b 0->a=b) a ha b hb h
 ·rename_i e
  rw [uv e] at hb h
  exact(by decide:∀ a,a<26->∀ b,b<26->LT.getD a 0=LT.getD b 0->a=b) a ha b hb h
theorem zf2 (c:Int)(a k j:Nat):chF c a k j∈qz j:=by
 have:=J2 j
 unfold chF
 exact getD_mem (uR _ (by lia)) (uM _ (by lia))
theorem zic {c:Int}{a k k':Nat}(hk:k<21)(hk':k' < 21)(h:chF c a k a=chF c a k' a):k=k':=by
 have pl:=J2 a
 unfold chF at h
 rw [uw rfl,uw rfl] at h
 generalize mixF c (2+(a:Int))=x at h
 have h1:=uR (x+(k:Int)) (b:=((qz a).length:Int)) (by lia)
 have h2:=uM (x+(k:Int)) (b:=((qz a).length:Int)) (by lia)
 have h3:=uR (x+(k':Int)) (b:=((qz a).length:Int)) (by lia)
 have h4:=uM (x+(k':Int)) (b:=((qz a).length:Int)) (by lia)
 have e:=zdI (by lia) (by lia) h
 have e:(x+(k:Int)) % ((qz a).length:Int)=(x+(k':Int)) % ((qz a).length:Int):=by lia
 have e3:((x+(k:Int)) - (x+(k':Int))) % ((qz a).length:Int)=0:=Int.emod_eq_emod_iff_emod_sub_eq_zero.mp e
 have e4:((k:Int) - k') % ((qz a).length:Int)=0:=by rw [← e3];congr 1;lia
 obtain⟨z,hz⟩:=Int.dvd_of_emod_eq_zero e4
 have pl':(21:Int)<=((qz a).length:Int):=by lia
 clear h1 h2 h3 h4 e e3 e4 h
 generalize ((qz a).length:Int)=L at *
 have:z=0:=by
  rcases Int.lt_trichotomy z 0 with y | y | y
  ·have:L * z<=L * (-1):=gW (by lia) (by lia)
   lia
  ·exact y
  ·have:L * 1<=L * z:=gW (by lia) (by lia)
   lia
 rw [this] at hz
 lia
noncomputable def nmF (c:Int)(a s k:Nat):Lc:=(List.range s).map (chF c a k)
theorem zjx {c:Int}{a s k:Nat}(hs:0<s):Gd (nmF c a s k):=by
 refine⟨λx hx=>?_,?_⟩
 ·obtain⟨j,_,rfl⟩:=Uh.mp hx
  have:=zf2 c a k j
  unfold qz at this
  split at this
  ·exact zf1 this
  ·exact this
 ·cases s with
  | zero=>omega
  | succ s=>
   unfold nmF
   rw [List.range_succ_eq_map,uo]
   exact⟨_,_,rfl,zf2 c a k 0⟩
theorem Yz {ns:List (Lc)}(h:∀ (i j:Nat) (a b:Lc),i<j->ns[i]? = some a->ns[j]? = some b->a≠b):ns.Nodup:=by
 rw [List.nodup_iff_pairwise_ne,List.pairwise_iff_getElem]
 intro i j hi hj hij
 exact h i j _ _ hij (uu hi) (uu hj)
def Nms (n:Nat)(ns:List (Lc)):Prop:=ns.length=n/\ns.Nodup/\∀ x∈ns,xW x
theorem Vq {n:Nat}{s τ:Sl}(h:n<1000000):itS .rng 1 s (.own (.int (n:Int))::τ)=some (((List.range n).map λ(k:Nat)=>.int (k:Int),none),(s,τ)):=by
 show(cond (okR (n:Int)) (some ((List.range (n:Int).toNat).map λ(k:Nat)=>T.int (k:Int))) none).bind _=_
 rw [zg3 ⟨by lia,by lia⟩,UK]
 rfl
theorem Vr {n k:Nat}{d:T}(h:((List.range n).map λ(k:Nat)=>T.int (k:Int))[k]? = some d):d=.int (k:Int)/\k<n:=by
 rw [ux] at h
 obtain⟨j,h1,rfl⟩:=uz.mp h
 obtain⟨h2,h3⟩:=uN.mp h1
 rw [List.getElem_range] at h3
 subst h3
 exact⟨rfl,by simpa using h2⟩
theorem Q2 {n:Nat}:((List.range n).map λ(k:Nat)=>T.int (k:Int)).length=n:=by simp
theorem J3 {c:Int}{many:Nat}(hm:many<=6)(q:∀ ns,Nms many ns->Q (.nd true .ls (ns.map .str)) [.non,.non]):zS [.int c,.int many] Q X:=by
 unfold zS
 refine⟨rfl,?_⟩
 refine yR ?_
 have x0:=zdH c 1
 generalize mixF c 1=x at *
 obtain⟨sz,hsz⟩:∃ sz:Nat,(1+x % 8:Int)=sz:=⟨(1+x % 8).toNat,by lia⟩
 refine za (Qg (x:=x / 8) (y:=1+x % 8) (by lia)) ?_
 rw [hsz]
 obtain⟨a,ha⟩:∃ a:Nat,(x / 8 % (sz:Int))=a:=⟨(x / 8 % (sz:Int)).toNat,by have:=uR (x / 8) (b:=(sz:Int)) (by lia);lia⟩
 have ha':a<sz:=by have:=uM (x / 8) (b:=(sz:Int)) (by lia);lia
 rw [ha]
 have own8:∀ n,Gd n->n.length<=8->xW n:=λn h1 h2=>h1.own h2
 refine za (Vq (by lia)) ?_
 refine wB (λk s τ=>τ=[]/\∃ y8 y9 y10 y11 y12,s=[.own (.int c),.own (.int many),.own (.str LT),.own (.str AH),.own (.int x),.own (.int sz),.own (.int a),.own (.nd true .ls ((List.range k).map λi=>.str (nmF c a sz i))),y8,y9,y10,y11,y12]) ⟨rfl,_,_,_,_,_,rfl⟩ ?_ ?_
 ·rintro k d _ _ K hd ⟨rfl,y8,y9,y10,y11,y12,rfl⟩ hK
  obtain⟨rfl,hk⟩:=Vr hd
  refine za (Vq (by lia)) ?_
  refine wB (λj s τ=>τ=[]/\∃ y10 y11 y12,s=[.own (.int c),.own (.int many),.own (.str LT),.own (.str AH),.own (.int x),.own (.int sz),.own (.int a),.own (.nd true .ls ((List.range k).map λi=>.str (nmF c a sz i))),.own (.int k),.own (.str ((List.range j).map (chF c a k))),y10,y11,y12]) ⟨rfl,_,_,_,rfl⟩ ?_ ?_
  ·rintro j d _ _ K hd ⟨rfl,y10,y11,y12,rfl⟩ hK
   obtain⟨rfl,hj⟩:=Vr hd
   have p0:∀ {s τ:Sl},ixS s (.own (.int (cond (decide ((j:Int)=0)) 1 0))::.own (.nd true .ls [.str LT,.str AH])::τ)=some (.own (.str (qz j))::τ):=λ{s τ}=>by
    unfold qz
    by_cases z:j=0
    ·rw [uS (by lia),uw z];rfl
    ·rw [uq (by lia),uv z];rfl
   have em:(mixF c (2+(j:Int))+(k:Int) * (cond (decide ((j:Int)=a)) 1 0))=mixF c (2+(j:Int))+(if j=a then(k:Int) else 0):=by
    by_cases z:j=a
    ·rw [uS (by lia),uw z];show _+(k:Int) * 1=_;lia
    ·rw [uq (by lia),uv z];show _+(k:Int) * 0=_;lia
   have pl:=J2 j
   refine za p0 ?_
   refine yR ?_
   refine za (Vp (QM (by cases decide ((j:Int)=a)<;>decide))) ?_
   refine za (Qg (y:=((qz j).length:Int)) (by lia)) ?_
   have ix:∀ {s τ:Sl},ixS s (.own (.int ((mixF c (2+(j:Int))+(k:Int) * (cond (decide ((j:Int)=a)) 1 0)) % ((qz j).length:Int)))::.own (.str (qz j))::τ)=some (.own (.str [chF c a k j])::τ):=λ{s τ}=>by
    rw [em]
    exact zaL (uR _ (by lia)) (uM _ (by lia))
   refine za ix ?_
   refine za (zf (by simp only [ue,U7,ub,uc];lia)) ?_
   refine hK _ _ ⟨rfl,.own (.int j),.own (.str (qz j)),xO 9 0 (xO 11 0 (xO 10 0 y12)),?_⟩
   rw [List.range_succ,uA]
   rfl
  ·rintro _ _ ⟨rfl,y10,y11,y12,rfl⟩
   rw [Q2]
   refine za (qe (by rfl) (jy (by rw [ue,U7];lia)) (by rfl)) ?_
   refine hK _ _ ⟨rfl,.own (.int k),.own (.str (nmF c a sz k)),xO 7 1 y10,xO 7 1 y11,xO 7 1 y12,?_⟩
   rw [List.range_succ,uA]
   rfl
 ·rintro _ _ ⟨rfl,y8,y9,y10,y11,y12,rfl⟩
  have e:(List.range many).map (λi=>T.str (nmF c a sz i))=((List.range many).map (nmF c a sz)).map .str:=by rw [Uq];rfl
  rw [Q2,e]
  refine zA (λh1=>?_) λh1=>?_
  ·refine yR ?_
   have b21:=uR (mixF c 2) (b:=21) (by decide)
   have b21':=uM (mixF c 2) (b:=21) (by decide)
   have g0:AH.getD (mixF c 2 % 21).toNat 0∈AH:=getD_mem b21 b21'
   refine za (zaL (t:=AH) b21 b21') ?_
   refine za (Vq (by lia)) ?_
   refine wB (λk s τ=>τ=[]/\∃ y8 y9 y10 y11 ns w,s=[.own (.int c),.own (.int many),.own (.str LT),.own (.str AH),.own (.int x),.own (.int sz),.own (.int a),.own (.nd true .ls (ns.map .str)),y8,y9,y10,y11,.own (.str w)]/\ns.length=many/\w.length=k+1/\Gd w/\∀ i,i<k->∃ n,ns[i]? = some n/\n.length=i+1/\Gd n) ⟨rfl,_,_,_,_,(List.range many).map (nmF c a sz),[AH.getD (mixF c 2 % 21).toNat 0],rfl,by simp,rfl,⟨λy hy=>by rw [ug.mp hy];exact zf1 g0,_,_,rfl,g0⟩,λi hi=>by lia⟩ ?_ ?_
   ·rintro k d _ _ K hd ⟨rfl,y8,y9,y10,y11,ns,w,rfl,hn1,hw1,hw2,hn2⟩ hK
    obtain⟨rfl,hk⟩:=Vr hd
    have sb:subF (.nd true .ls (ns.map .str)) (.int (k:Int)) (.str w)=some (.nd true .ls ((ns.set k w).map .str)):=by
     show(ixN (ns.map T.str).length (k:Int)).bind _=_
     rw [xQ (by rw [ue];lia)]
     show(putN (ns.map T.str) k (.str w)).bind _=_
     rw [Zq (by rw [ue];lia),gx]
     rfl
    refine za (Kn (by rfl) sb (by rfl)) ?_
    refine yR ?_
    have b26:=uR (mixF c (12+(k:Int))) (b:=26) (by decide)
    have b26':=uM (mixF c (12+(k:Int))) (b:=26) (by decide)
    have g1:LT.getD (mixF c (12+(k:Int)) % 26).toNat 0∈LT:=getD_mem b26 b26'
    refine za (zaL (t:=LT) b26 b26') ?_
    refine za (zf (by simp only [ub,uc];lia)) ?_
    refine hK _ _ ⟨rfl,_,_,_,_,ns.set k w,w++[LT.getD (mixF c (12+(k:Int)) % 26).toNat 0],rfl,by rw [List.length_set];exact hn1,by rw [ua,hw1];rfl,⟨λy hy=>?_,?_⟩,λi hi=>?_⟩
    ·rcases ur.mp hy with z | z
     ·exact hw2.1 y z
     ·rw [ug.mp z];exact g1
    ·obtain⟨_,e,r,rfl,h⟩:=hw2
     exact⟨e,r++_,rfl,h⟩
    ·by_cases z:i=k
     ·subst z
      exact⟨w,by rw [uU (by lia)],hw1,hw2⟩
     ·obtain⟨n,e1,e2⟩:=hn2 i (by lia)
      exact⟨n,by rw [Ui (λz'=>z z'.symm)];exact e1,e2⟩
   ·rintro _ _ ⟨rfl,y8,y9,y10,y11,ns,w,rfl,hn1,hw1,hw2,hn2⟩
    rw [Q2] at hn2
    refine q ns ⟨hn1,Yz λi j u v hij e1 e2 z=>?_,λn hn=>?_⟩
    ·have hj:=(uN.mp e2).1
     obtain⟨n1,a1,a2,_⟩:=hn2 i (by lia)
     obtain⟨n2,a3,a4,_⟩:=hn2 j (by lia)
     rw [e1] at a1
     rw [e2] at a3
     cases a1
     cases a3
     rw [z] at a2
     lia
    ·obtain⟨i,hi⟩:=List.getElem?_of_mem hn
     have hi':=(uN.mp hi).1
     obtain⟨n1,a1,a2,a3⟩:=hn2 i (by lia)
     rw [hi] at a1
     cases a1
     exact own8 _ a3 (by lia)
  ·refine q _ ⟨by simp,Yz λi j u v hij e1 e2 z=>?_,λn hn=>?_⟩
   ·have hj:=(uN.mp e2).1
    simp only [ue,U7] at hj
    rw [ux,List.getElem?_range (by lia)] at e1 e2
    cases e1
    cases e2
    have:=congrArg (λl=>l[a]?) z
    simp only [nmF,ux,List.getElem?_range ha',Uo,U6] at this
    have:=zic (by lia) (by lia) this
    lia
   ·obtain⟨i,_,rfl⟩:=Uh.mp hn
    refine own8 _ (zjx (by lia)) ?_
    unfold nmF
    simp only [ue,U7]
    lia
end
section
variable {Q:T->List T->Prop} {X:Exn->List T->Prop}
noncomputable abbrev frL (f:Fr)(bl:List T)(c:List T):T:=.tp [.str f.w,.str f.n,ol (bl++[ol c])]
noncomputable abbrev lawT (f:Fr):T:=frL f (f.ps.map ol) f.cur
theorem ne_nil {c:List T}{o:Bool}(hd:∃ ds,jD c=some ds/\wL ds<=45/\ds.length=c.length):opF .ne [.nd o .ls c,.nd true .ls []]=some (.bl (!c.isEmpty)):=by
 obtain⟨ds,h1,h2,h3⟩:=hd
 show((two (datO (.nd o .ls c)) (some (Dat.ls [])) _).bind _)=_
 rw [datO,h1]
 show((if depD (.ls ds)<=50/\_ then some (eqD (.ls ds) (.ls [])) else none).bind _)=_
 rw [uw ⟨by simp only [depD];lia,rfl,rfl⟩]
 cases ds with
 | nil=>
  cases c with
  | nil=>rfl
  | cons _ _=>cases h3
 | cons _ _=>
  cases c with
  | nil=>cases h3
  | cons _ _=>rfl
theorem Pc.dat {B n:Nat}:∀ {t:T},Pc B n t->∃ d,datO t=some d/\depD d<=2 * n+2:=by
 induction n using Nat.strongRecOn with
 | _ n ih=>
  intro t h
  obtain⟨w,xs,rfl,_,_,_,h4⟩:=h.body
  have ls:∀ {m:Nat} {xs:List T},(∀ x∈xs,∃ d,datO x=some d/\depD d<=m)->∃ ds,jD xs=some ds/\wL ds<=m:=λ{m xs}=>by
   induction xs with
   | nil=>exact λ_=>⟨[],rfl,uE _⟩
   | cons x xs ih=>
    intro h
    obtain⟨d,h1,h2⟩:=h x uf
    obtain⟨ds,k1,k2⟩:=ih λy hy=>h y (uh _ hy)
    exact⟨d::ds,by rw [jD,h1,k1];rfl,by simp only [wL];lia⟩
  obtain⟨ds,k1,k2⟩:=ls (m:=2 * n+1) (xs:=.str w::xs) λx hx=>by
   rcases um.mp hx with rfl | hx
   ·exact⟨_,rfl,uE _⟩
   ·rcases h4 x hx with⟨s,rfl,_⟩ | ⟨ps,rfl,_,hp⟩
    ·exact⟨_,rfl,uE _⟩
    ·obtain⟨es,j1,j2⟩:=ls (m:=2 * n) (xs:=ps) λy hy=>by
      obtain⟨m,hm,hpc⟩:=hp y hy
      obtain⟨d,a1,a2⟩:=ih m hm hpc
      exact⟨d,a1,by lia⟩
     exact⟨.ls es,by rw [datO,j1];rfl,by simp only [depD];lia⟩
  exact⟨.tp ds,by rw [datO,k1];rfl,by simp only [depD];lia⟩
theorem Pc.fz {B n:Nat}:∀ {t:T},Pc B n t->frz t=t:=by
 induction n using Nat.strongRecOn with
 | _ n ih=>
  intro t h
  obtain⟨w,xs,rfl,_,_,_,h4⟩:=h.body
  have e:frzs xs=xs:=by
   rw [jI]
   refine(u4 λx hx=>?_).trans (Ux _)
   rcases h4 x hx with⟨s,rfl,_⟩ | ⟨ps,rfl,_,hp⟩
   ·rfl
   ·show fl (frzs ps)=_
    rw [jI,(u4 λy hy=>by obtain⟨m,hm,hpc⟩:=hp y hy;exact ih m hm hpc).trans (Ux ps)]
  show T.tp (.str w::frzs xs)=_
  rw [e]
theorem Pc.sh {B n:Nat}{t:T}(h:Pc B n t):shr t=true:=by rw [← h.fz];exact vM t
theorem PcL.fz {B n:Nat}{l:List T}(h:PcL B n l):frzs l=l:=by rw [jI];exact(u4 λp hp=>(h.2 p hp).fz).trans (Ux _)
theorem PcL.dat {B n:Nat}{l:List T}(h:PcL B n l):∃ ds,jD l=some ds/\wL ds<=2 * n+2/\ds.length=l.length:=by
 have:∀ {l:List T},(∀ p∈l,Pc B n p)->∃ ds,jD l=some ds/\wL ds<=2 * n+2/\ds.length=l.length:=λ{l}=>by
  induction l with
  | nil=>exact λ_=>⟨[],rfl,uE _,rfl⟩
  | cons x xs ih=>
   intro h
   obtain⟨d,h1,h2⟩:=(h x uf).dat
   obtain⟨ds,k1,k2,k3⟩:=ih λy hy=>h y (uh _ hy)
   exact⟨d::ds,by rw [jD,h1,k1];rfl,by simp only [wL];lia,by rw [ub,ub,k3]⟩
 exact this h.2
theorem Pc.ix0 {B n:Nat}{p:T}(h:Pc B n p){s τ:Sl}:ixS s (.own (.int 0)::.own p::τ)=some (.own (.str (hd1 p))::τ):=by
 obtain⟨w,xs,rfl,_⟩:=h.body
 exact JI (xQ (k:=0) (by simp)) rfl rfl
theorem Pc.ix1 {B n:Nat}{p:T}(h:Pc B n p)(hl:hd1 p=wLit):(∀ {s τ:Sl},ixS s (.own (.int 1)::.own p::τ)=some (.own (.str (hd2 p))::τ))/\(hd2 p).length<=B:=by
 obtain⟨s,rfl,hs⟩:=Q0 h hl
 exact⟨rfl,hs⟩
section
variable {f:Fr} {r bl:List T}
theorem gL {c:List T}{l:Sl}:getP (.own (ol (r++[frL f bl c]))::l) 0 [r.length,2,bl.length]=some (ol c):=by
 refine jR rfl (vx.trans ?_)
 show getT [bl.length] (ol (bl++[ol c]))=_
 exact vx
theorem gL1 {c:List T}{l:Sl}:getP (.own (ol (r++[frL f bl c]))::l) 0 [r.length]=some (frL f bl c):=jR rfl vx
theorem gL2 {c:List T}{l:Sl}:getP (.own (ol (r++[frL f bl c]))::l) 0 [r.length,2]=some (ol (bl++[ol c])):=jR rfl vx
theorem sL {c c':List T}:setT [r.length,2,bl.length] (ol (r++[frL f bl c])) (ol c')=some (ol (r++[frL f bl c'])):=by
 refine kl ?_
 show(setT [bl.length] (ol (bl++[ol c])) (ol c')).bind _=_
 rw [kl (t':=ol c') rfl]
 rfl
theorem pL {c c':List T}{u:T}{τ τ':Sl}(h:mapO (j6 0 4) τ=some τ'):putSt [.own (ol (r++[frL f bl c])),.own u,.al 0 [r.length,2,bl.length]] τ 0 [r.length,2,bl.length] (ol c')=some ([.own (ol (r++[frL f bl c'])),.own u,.al 0 [r.length,2,bl.length]],τ'):=vN rfl rfl sL rfl h
end
theorem zfk {f:Fr}{r bl c:List T}{p:T}{B n:Nat}(hc:PcL B n c)(hp:Pc B n p)(hn:n<=20)(hB:B<=1000000)(q:Q .non [ol (r++[frL f bl (addP c p)]),.non]):zD [ol (r++[frL f bl c]),p] Q X:=by
 unfold zD
 refine⟨rfl,?_⟩
 have hlen:=hc.1
 have hd:=hc.dat
 have r1:∀ {t':T} {x:Slot},rdS [.own t',.own p,x] 1=some (.own p):=λ{t' x}=>vd rfl hp.sh
 refine za (yb (p:=[]) rfl yc rfl yd rfl) ?_
 refine za (yb gL1 rfl rfl rfl rfl) ?_
 refine za (yb gL2 yc rfl yd rfl) ?_
 have l16:c.length<16777216:=by lia
 have rA:∀ {c':List T} {u:T},rdS [.own (ol (r++[frL f bl c'])),.own u,.al 0 [r.length,2,bl.length]] 2=some (.al 0 [r.length,2,bl.length]):=λ{c' u}=>zjr rfl gL rfl
 have app:¬ (hd1 p=wLit/\∃ q,c.getLast? = some q/\hd1 q=wLit)->Q .non [ol (r++[frL f bl (c++[p])]),.non]:=λhn=>by rw [zaJ hn] at q;exact q
 refine za r1 (za hp.ix0 ?_)
 refine zA (λhw=>?_) (λhw=>?_)
 ·have hw:hd1 p=wLit:=uy hw
  refine za rA ?_
  refine za (zfb gL) ?_
  refine za (ne_nil (by obtain⟨ds,h1,h2,h3⟩:=hd;exact⟨ds,h1,by lia,h3⟩)) ?_
  rcases Ud c with rfl | ⟨c',v,rfl⟩
  ·exact za rA (wZ (kT gL) (za r1 (za (qe gL (jy l16) (pL rfl)) (app λ⟨_,z,e,_⟩=>by cases e))))
  ·rw [Ue] at *
   have hv:Pc B n v:=hc.2 v (by simp)
   refine wZ (by simp) ?_
   refine za rA (za (X0 gL yc rfl yd hv.sh) (za hv.ix0 ?_))
   refine zA (λhv'=>?_) (λhv'=>?_)
   ·have hv':hd1 v=wLit:=uy hv'
    obtain⟨i3,l3⟩:=hv.ix1 hv'
    obtain⟨i4,l4⟩:=hp.ix1 hw
    refine za rA (wZ (kT gL) ?_)
    refine za (qe gL X1 (pL rfl)) ?_
    refine za i3 (za r1 (za i4 (za (zf (by lia)) ?_)))
    refine za rA (wZ (kT gL) (za (qe gL (jy (by rw [ua] at l16;lia)) (pL rfl)) ?_))
    rw [qW,uw ⟨hw,hv'⟩] at q
    exact q
   ·refine za rA (wZ (kT gL) (za r1 ?_))
    refine za (qe gL (jy l16) (pL rfl)) ?_
    refine app λ⟨_,q,e,z⟩=>?_
    rw [UW] at e
    cases e
    exact uL hv' z
 ·refine za rA (wZ (kT gL) (za r1 ?_))
  refine za (qe gL (jy l16) (pL rfl)) ?_
  exact app λz=>uL hw z.1
theorem put_ok {f:Fr}{r:List T}{p:T}{B n:Nat}(hc:PcL B n f.cur)(hp:Pc B n p)(hn:n<=20)(hB:B<=1000000)(q:Q .non [ol (r++[lawT (f.put p)]),.non]):zD [ol (r++[lawT f]),p] Q X:=zfk (f:=f) hc hp hn hB q
theorem zaM {f g:Fr}{r:List T}{B n:Nat}(kf:FrK B n f)(kg:FrK B (n+1) g)(h8:8<=B)(hn:n<=15)(hB:B<=1000000)(q:Q .non [ol (r++[lawT (g.put f.whole)])]):qt [ol (r++[lawT g]++[lawT f])] Q X:=by
 have hw:=JZ kf h8
 have fin:∀ {Q:T->List T->Prop} {X:Exn->List T->Prop} {u:T},u=f.whole->Q .non [ol (r++[lawT (g.put f.whole)]),.non]->zD [ol (r++[lawT g]),u] Q X:=λ{Q X u} e q=>by
  subst e
  exact put_ok kg.1 hw (by lia) hB q
 have fc:=kf.1.fz
 unfold qt
 refine⟨rfl,?_⟩
 rcases kf.2.2.1 with e | ⟨ew,a,e⟩
 ·rw [show lawT f=.tp [.str f.w,.str f.n,ol [ol f.cur]] by show T.tp [.str f.w,.str f.n,ol (f.ps.map ol++[ol f.cur])]=_;rw [e];rfl]
  refine za (qe (p:=[]) rfl X1 rfl) ?_
  refine zA (λh=>?_) λh=>?_
  ·refine fin ?_ q
   unfold Fr.whole
   rw [e,uw ⟨uy h,rfl⟩]
   show T.tp [.str f.w,.str f.n,fl (frzs f.cur),fl []]=_
   rw [fc]
   rfl
  ·refine fin ?_ q
   unfold Fr.whole
   rw [e,uv λz=>uL h z.1]
   show T.tp [.str f.w,.str f.n,fl (frzs f.cur)]=_
   rw [fc]
   rfl
 ·have fa:=(kf.2.1 a (by rw [e];exact uf)).fz
  rw [show lawT f=.tp [.str f.w,.str f.n,ol [ol a,ol f.cur]] by show T.tp [.str f.w,.str f.n,ol (f.ps.map ol++[ol f.cur])]=_;rw [e];rfl]
  refine za (qe (p:=[]) rfl X1 rfl) ?_
  refine zA (λh=>?_) λh=>absurd ew (uL h)
  refine fin ?_ q
  unfold Fr.whole
  rw [e,uv λz=>by cases z.2]
  show T.tp [.str f.w,.str f.n,fl (frzs a),fl (frzs f.cur)]=_
  rw [fc,fa]
  rfl
end
section
variable {Q:T->List T->Prop} {X:Exn->List T->Prop}
noncomputable def SG2:Lc:=[32,33,34,35,36,38,39,40,41,42,43,44,45,46,47,48,49,50,51,52,53,54,55,56,57,58,59,60,61,62,63,64,65,66,67,68,69,70,71,72,73,74,75,76,77,78,79,80,81,82,83,84,85,86,87,88,89,90,91,92,93,94,95,96,97,98,99,100,101,102,103,104,105,106,107,108,109,110,111,112,113,114,115,116,117,118,119,120,121,122,124,126]
theorem sg2 {c:Nat}(h:c∈SG2):c∈SG/\c≠123/\c≠125:=(by decide:∀ c∈SG2,c∈SG/\c≠123/\c≠125) c h
theorem zdJ (q:Q (.str SG2) []):qN [] Q X:=by
 unfold qN
 exact⟨rfl,q⟩
inductive Tk (ov:Bool):Sx->Lc->Sx->Prop where
 | nil {s:Sx}:Tk ov s [] s
 | sg {f:Fr} {st:List Fr} {nm:List (Lc)} {t:Lc}:(ov=true->st≠[])->t≠[]->t.length<=3->(∀ c∈t,c∈SG/\c≠123/\c≠125)->Tk ov (f::st,nm) t (f.put (litP t)::st,nm)
 | st {s s':Sx} {k:Tok} {i:Lc}:Stp ov s k s'->Ins k i->Tk ov s (123::(i++[125])) s'
theorem Tk.rd {ov:Bool}{s s':Sx}{t:Lc}(h:Tk ov s t s'):Rd ov s t s':=by
 cases h with
 | nil=>exact .nil
 | sg h1 h2 _ h3=>exact Rd.lits h1 t h2 h3
 | st h1 h2=>exact .one h1 (.word h2)
theorem Tk.len {ov:Bool}{s s':Sx}{t:Lc}(h:Tk ov s t s'):t.length<=16:=by
 cases h with
 | nil=>decide
 | sg _ _ h _=>omega
 | st _ h=>
  have:=(Ku h).1
  simp only [ub,ua,uc]
  lia
theorem Vs {f:Fr}{r:List T}{B n:Nat}{s:Lc}(hk:FrK B n f)(h8:8<=B)(hs:s.length<=3)(hn:n<=20)(hB:B<=1000000)(q:Q .non [ol (r++[lawT (f.put (litP s))]),.non]):zD [ol (r++[lawT f]),litP s] Q X:=
 put_ok hk.1 (xX (by simp only [ub,uc];lia) (λ_=>⟨_,rfl⟩) (by simp) λx hx=>⟨s,ug.mp hx,by lia⟩) hn hB q
theorem Kz {f:Fr}{r:List T}{B m:Nat}{n:Int}(hk:FrK B m f)(h8:8<=B)(hm:m<=20)(hB:B<=1000000)(h0:0<=n)(q:∀ t s,(∀ ov st nm,(ov=true->st≠[])->Tk ov (f::st,nm) t (f.put (litP s)::st,nm))->Q (.str t) [ol (r++[lawT (f.put (litP s))]),.non]):qd [ol (r++[lawT f]),.int n] Q X:=by
 unfold qd
 refine⟨rfl,?_⟩
 refine zdJ ?_
 refine zA (λh5=>?_) λh5=>?_
 ·have c2:n / 5 % 2=0\/n / 5 % 2=1:=by lia
  rcases c2 with h2 | h2
  ·refine za (z:=[.own (.str [123]),.own (.str wLit),.al 0 [],.al 0 []]) (by show ixS _ (.own (.int (n / 5 % 2))::_)=_;rw [h2];rfl) ?_
   refine Vs (s:=[123]) hk h8 (by decide) hm hB ?_
   refine za (z:=[.own (.str [123,40,125]),.al 0 []]) (by show ixS _ (.own (.int (n / 5 % 2))::_)=_;rw [h2];rfl) ?_
   exact q _ _ λov st nm ho=>.st (.put (k:=.lit [123]) rfl ho) .lb
  ·refine za (z:=[.own (.str [125]),.own (.str wLit),.al 0 [],.al 0 []]) (by show ixS _ (.own (.int (n / 5 % 2))::_)=_;rw [h2];rfl) ?_
   refine Vs (s:=[125]) hk h8 (by decide) hm hB ?_
   refine za (z:=[.own (.str [123,41,125]),.al 0 []]) (by show ixS _ (.own (.int (n / 5 % 2))::_)=_;rw [h2];rfl) ?_
   exact q _ _ λov st nm ho=>.st (.put (k:=.lit [125]) rfl ho) .rb
 ·obtain⟨k,hk'⟩:∃ k:Nat,(1+n / 5 % 3:Int)=k:=⟨(1+n / 5 % 3).toNat,by lia⟩
  have rg:∀ {s τ:Sl},itS .rng 1 s (.own (.int (1+n / 5 % 3))::τ)=some (((List.range k).map λ(k:Nat)=>.int (k:Int),none),(s,τ)):=λ{s τ}=>by rw [hk'];exact Vq (by lia)
  refine za rg ?_
  refine wB (λj s τ=>τ=[.al 0 []]/\∃ (t:Lc) (x:Int) (y:Slot),s=[.own (ol (r++[lawT f])),.own (.int n),.own (.str SG2),.own (.str t),.own (.int x),y]/\t.length=j/\0<=x/\∀ c∈t,c∈SG2) ⟨rfl,[],n / 15,_,rfl,rfl,by lia,nofun⟩ ?_ ?_
  ·rintro j d _ _ K hd ⟨rfl,t,x,y,rfl,ht,hx,hc⟩ hK
   obtain⟨rfl,hj⟩:=Vr hd
   have b1:=uR x (b:=92) (by decide)
   have b2:=uM x (b:=92) (by decide)
   refine za (zaL (t:=SG2) b1 b2) ?_
   refine za (zf (by simp only [ub,uc];lia)) ?_
   refine hK _ _ ⟨rfl,t++[SG2.getD (x % 92).toNat 0],x / 92,_,rfl,by rw [ua,ht];rfl,by lia,λc hc'=>?_⟩
   rcases ur.mp hc' with z | z
   ·exact hc c z
   ·rw [ug.mp z];exact getD_mem b1 b2
  ·rintro _ _ ⟨rfl,t,x,y,rfl,ht,hx,hc⟩
   rw [Q2] at ht
   refine Vs (s:=t) hk h8 (by lia) hm hB ?_
   exact q _ _ λov st nm ho=>.sg ho (λz=>by rw [z] at ht;simp at ht;lia) (by lia) λc hc'=>sg2 (hc c hc')
end
section
variable {Q:T->List T->Prop} {X:Exn->List T->Prop}
noncomputable def stT (st:List Fr):List T:=(st.map lawT).reverse
theorem qw {f:Fr}{st:List Fr}:stT (f::st)=stT st++[lawT f]:=by unfold stT;rw [uo,UM]
theorem kq (st:List Fr):(stT st).length=st.length:=by unfold stT;rw [List.length_reverse,ue]
def BlOk (bl nm:List (Lc)):Prop:=bl.Nodup/\(∀ x∈bl,qZ x)/\∀ x∈bl,x∉nm
theorem Q3 {ns:List (Lc)}{i:Int}{o:Bool}(h0:0<=i)(h1:i<ns.length):∃ n∈ns,∀ {s τ:Sl},ixS s (.own (.int i)::.own (.nd o .ls (ns.map .str))::τ)=some (.own (.str n)::τ):=by
 obtain⟨j,rfl⟩:=gq h0
 have hj:j<ns.length:=by lia
 refine⟨ns[j],UR hj,λ{s τ}=>zf0 h0 ?_⟩
 rw [ux,UK,uu hj];rfl
theorem YA:∀ os:List (Lc),∃ ds,jD (os.map .str)=some ds/\wL ds<=0/\ds.length=os.length
 | []=>⟨[],rfl,ui _,rfl⟩
 | o::os=>by
  obtain⟨ds,h1,h2,h3⟩:=YA os
  exact⟨_::ds,by rw [uo,jD,h1];rfl,by simp only [wL,depD];lia,by rw [ub,ub,h3]⟩
theorem eq_nil {os:List (Lc)}:opF .eq [ol (os.map .str),ol []]=some (.bl os.isEmpty):=by
 obtain⟨ds,h1,h2,h3⟩:=YA os
 show((two (datO (ol (os.map .str))) (some (Dat.ls [])) _).bind _)=_
 rw [datO,h1]
 show((if depD (.ls ds)<=50/\_ then some (eqD (.ls ds) (.ls [])) else none).bind _)=_
 rw [uw ⟨by simp only [depD];lia,rfl,rfl⟩]
 cases os<;>cases ds<;>first | rfl | cases h3
theorem zid {l:List (Lc)}{j:Nat}(h:l.Nodup)(hj:j<l.length):l[j]∉l.eraseIdx j:=by
 rw [List.eraseIdx_eq_take_drop_succ]
 have e:l=l.take j++l[j]::l.drop (j+1):=by rw [← Um hj,UA]
 rw [e] at h
 have n:=UB.mp h
 intro z
 rcases ur.mp z with z | z
 ·exact n.2.2 _ z _ uf rfl
 ·exact(Uc.mp n.2.1).1 z
theorem YB:∀ {l:List (Lc)} {j:Nat} (hj:j<l.length),Z6 (l.map T.str) j=some (.str l[j],(l.eraseIdx j).map .str)
 | x::l,0,_=>rfl
 | x::l,j+1,hj=>by
  show(Z6 (l.map T.str) j).bind _=_
  rw [YB (Nat.lt_of_succ_lt_succ hj)];rfl
theorem Xi {ov:Bool}{st:List Fr}{nm ns bl:List (Lc)}{n:Int}(hst:st≠[])(h0:0<=n)(hl:0<ns.length)(hns:∀ x∈ns,xW x)(hb:BlOk bl nm)(ho:ov=true->st.length=1->n % 4=2)(hb2:bl.length<=100)(q:∀ t s' bl',Tk ov (st,nm) t s'->s'.1≠[]->BlOk bl' s'.2->bl'.length<=100->Q (.str t) [ol (stT s'.1),.non,.non,ol (bl'.map .str)]):z4 [ol (stT st),.int n,fl (ns.map .str),ol (bl.map .str)] Q X:=by
 unfold z4
 refine⟨rfl,?_⟩
 have q0:Q (.str []) [ol (stT st),.non,.non,ol (bl.map .str)]:=q [] (st,nm) bl .nil hst hb hb2
 have iw:∃ w,(∀ {s τ:Sl},ixS s (.own (.int (n % 4))::.own (ol [.str jX,.str wIf,.str zu,.str zu])::τ)=some (.own (.str w)::τ))/\(w=jX\/w=wIf\/w=zu)/\(n % 4=2->w=zu):=by
  have:n % 4=0\/n % 4=1\/n % 4=2\/n % 4=3:=by lia
  rcases this with e | e | e | e<;>rw [e]
  ·exact⟨_,rfl,.inl rfl,λz=>by lia⟩
  ·exact⟨_,rfl,.inr (.inl rfl),λz=>by lia⟩
  ·exact⟨_,rfl,.inr (.inr rfl),λ_=>rfl⟩
  ·exact⟨_,rfl,.inr (.inr rfl),λ_=>rfl⟩
 obtain⟨w,iw,hw,hw2⟩:=iw
 have wl:w.length<=5:=by rcases hw with rfl | rfl | rfl<;>decide
 have ln:((ns.map T.str).length:Int)=ns.length:=by rw [ue]
 obtain⟨x,xin,ix⟩:=Q3 (ns:=ns) (o:=false) (i:=n / 4 % (ns.length:Int)) (uR _ (by lia)) (uM _ (by lia))
 have xo:=hns x xin
 have sl:=kq st
 have tx:∀ y:Lc,[123]++w++[32]++y++[125]=123::((w++32::y)++[125]):=λy=>by simp
 have done:∀ (y:Lc) (bl' nm':List (Lc)),Ins (.op w y) (w++32::y)->st.length<=12->(w=zu->y∉nm)->nm' = (if w=zu then nm++[y] else nm)->BlOk bl' nm'->bl'.length<=100->Q (.str ([123]++w++[32]++y++[125])) [ol (stT st++[.tp [.str w,.str y,ol [ol []]]]),.non,.non,ol (bl'.map .str)]:=λy bl' nm' hi h12 hyn e hbl hb'=>by
  subst e
  rw [tx]
  have:=q _ (⟨w,y,[],[]⟩::st,_) bl' (.st (.op h12 hst hw (λz1 z2=>hw2 (ho z1 z2)) hyn) hi) (by simp) hbl hb'
  rw [qw] at this
  exact this
 refine za iw ?_
 refine za (Qg (by rw [ln];lia)) ?_
 refine za (z:=[.own (.str x),.al 0 [],.al 3 []]) (by show ixS _ (.own (.int (n / 4 % ((ns.map T.str).length:Int)))::_)=_;rw [ln];exact ix) ?_
 have big:∀ {P R:Prop},(st.length<=12->R)->(¬ st.length<=12->P)->Bool.rec (motive:=λ_=>Prop) R P (decide ((12:Int)<((stT st).length:Nat))):=λ{P R} hR hP=>zA (λz=>hP (by have:=uy z;lia)) λz=>hR (by have:=uL z;lia)
 refine zA (λz=>?_) λz=>?_
 ·have hwb:w=zu:=uy z
  refine za eq_nil ?_
  cases bl with
  | nil=>exact q0
  | cons b0 bl0=>
   refine big (λh12=>?_) λ_=>q0
   refine wZ (uS hwb) ?_
   have lb:(((b0::bl0).map T.str).length:Int)=(b0::bl0).length:=by rw [ue]
   have l0:0<(b0::bl0).length:=by simp
   generalize b0::bl0=bl at *
   obtain⟨j,hj⟩:∃ j:Nat,n / 4 % (bl.length:Int)=j:=⟨(n / 4 % (bl.length:Int)).toNat,by have:=uR (n / 4) (b:=(bl.length:Int)) (by lia);lia⟩
   have hj':j<bl.length:=by have:=uM (n / 4) (b:=(bl.length:Int)) (by lia);lia
   have mp:muF .popI (bl.map .str) [.int (n / 4 % ((bl.map T.str).length:Int))]=some ((bl.eraseIdx j).map .str,.str bl[j]):=by
    rw [lb,hj]
    show(ixN (bl.map T.str).length (j:Int)).bind _=_
    rw [xQ (by rw [ue];exact hj')]
    show(Z6 (bl.map T.str) j).bind _=_
    rw [YB hj']
    show(if (bl.map T.str).length<=16777216 then _ else _)=_
    rw [uw (by rw [ue];lia)]
   have ym:bl[j]∈bl:=UR _
   have yn:=hb.2.1 _ ym
   have y8:=yn.2.1
   refine za (Qg (by rw [lb];lia)) ?_
   refine za (qe (by rfl) mp (by rfl)) ?_
   refine za (qe (by rfl) (jy (by lia)) (by rfl)) ?_
   refine za (zf (by simp only [ub,uc];lia)) ?_
   refine za (zf (by simp only [ua,ub,uc];lia)) ?_
   refine za (zf (by simp only [ua,ub,uc];lia)) ?_
   refine za (zf (by simp only [ua,ub,uc];lia)) ?_
   refine done bl[j] (bl.eraseIdx j) (nm++[bl[j]]) (by rw [hwb];exact .op2 yn) h12 (λ_=>hb.2.2 _ ym) (by rw [uw hwb]) ⟨hb.1.sublist (List.eraseIdx_sublist _ _),λx hx=>hb.2.1 x (Gi hx),λx hx z=>?_⟩ (uJ (List.Sublist.length_le (List.eraseIdx_sublist _ _)) hb2)
   rcases ur.mp z with z | z
   ·exact hb.2.2 x (Gi hx) z
   ·rw [ug.mp z] at hx
    exact zid hb.1 hj' hx
 ·have hwb:¬ w=zu:=uL z
  refine big (λh12=>?_) λ_=>q0
  refine jV (uq hwb) ?_
  have x8:=xo.1.2.1
  refine za (qe (by rfl) (jy (by lia)) (by rfl)) ?_
  refine za (zf (by simp only [ub,uc];lia)) ?_
  refine za (zf (by simp only [ua,ub,uc];lia)) ?_
  refine za (zf (by simp only [ua,ub,uc];lia)) ?_
  refine za (zf (by simp only [ua,ub,uc];lia)) ?_
  refine done x bl nm (.op1 ?_ xo) h12 (λz=>absurd z hwb) (by rw [uv hwb]) hb hb2
  rcases hw with z | z | z
  ·exact .inl z
  ·exact .inr z
  ·exact absurd z hwb
end
section
variable {Q:T->List T->Prop} {X:Exn->List T->Prop}
theorem in_of {x:Lc}{ws:List (Lc)}{o:Bool}:opF .isin [.str x,.nd o .ls (ws.map .str)]=some (.bl (decide (x∈ws))):=by
 have sc:∀ ws:List (Lc),scOs (ws.map T.str)=some (ws.map λw=>.str (S w)):=λws=>by
  induction ws with
  | nil=>rfl
  | cons w ws ih=>rw [uo,scOs,ih];rfl
 have e:inO (.str x) (.nd o .ls (ws.map .str))=some (decide (x∈ws)):=by
  show two (some (V.str (S x))) ((some (ws.map T.str)).bind scOs) (λx vs=>some (inV x vs))=_
  rw [uT,sc,zdo,Vl]
 show(inO (.str x) (.nd o .ls (ws.map .str))).bind _=_
 rw [e]
 rfl
theorem zfl {a:List T}{x:T}(h:shr x=false):shrs (a++[x])=false:=by
 induction a with
 | nil=>show(shr x&&true)=false;rw [h];rfl
 | cons y a ih=>show(shr y&&shrs (a++[x]))=false;rw [ih,gC]
theorem zbF (a b:List T):views (a++b)=views a++views b:=by
 induction a with
 | nil=>rfl
 | cons x a ih=>show view x::views (a++b)=view x::(views a++views b);rw [ih]
theorem YC:∀ st:List Fr,views (stT st)=(st.map λf=>T.tp [.str f.w,.str f.n,.any]).reverse
 | []=>rfl
 | f::st=>by rw [qw,zbF,YC st,uo,UM];rfl
noncomputable abbrev brW:List (Lc):=[jX,wIf,qf,wEnd,zu,xN,yL,qu]
theorem KA:∀ w∈brW,qZ w:=by
 intro w hw
 simp only [um,gp,or_false] at hw
 rcases hw with rfl | rfl | rfl | rfl | rfl | rfl | rfl | rfl<;>exact⟨by decide,by decide,by decide⟩
section
variable {ov:Bool} {f:Fr} {st:List Fr} {nm ns:List (Lc)} {n:Int} {B:Nat}
noncomputable def wdS (f:Fr)(st:List Fr)(n:Int)(ns:List (Lc))(ov:Bool):Sl:=[.own (ol (stT st++[lawT f])),.own (.int n),.own (fl (ns.map .str)),.own (.bl ov),.own (.int (n % 6)),.no,.no]
noncomputable def wdK (Q:T->List T->Prop):KP:=λs τ=>bnd (retA [.mu,.mv,.mv,.mv] 0 s τ) λr=>Q .non r
theorem zjy (hk:StK B (f::st))(h8:8<=B)(hB:B<=1000000)(hl:0<ns.length)(hl':ns.length<=100)(hns:∀ x∈ns,xW x)(ho:ov=true->st≠[])(q:∀ t s',Tk ov (f::st,nm) t s'->s'.1≠[]->s'.2=nm->Q (.str t) [ol (stT s'.1),.non,.non,.non]):WSs (jW.drop 4) (wdS f st n ns ov) [.al 0 []] (wdK Q) (fnE [.mu,.mv,.mv,.mv] Q X):=by
 obtain⟨k1,k2,k3⟩:=hk
 have leaf:∀ (w s:Lc),w.length<=8->w≠wLit->s.length<=8->Pc B (12 - st.length) (.tp [.str w,.str s]):=λw s a b c=>xX (by lia) (λz=>absurd z b) (by simp) λx hx=>⟨s,ug.mp hx,by lia⟩
 have done:∀ (k:Tok) (i:Lc),Ins k i->k.isP ov=true->Q (.str (123::(i++[125]))) [ol (stT st++[lawT (f.put (.tp k.xs))]),.non,.non,.non]:=λk i hi hp=>by
  have:=q _ (f.put (.tp k.xs)::st,nm) (.st (.put hp ho) hi) (by simp) rfl
  rw [qw] at this
  exact this
 have ln:((ns.map T.str).length:Int)=ns.length:=by rw [ue]
 refine zA (λz=>?_) λz=>?_
 ·have sb:∀ ws:List (Lc),shrs (ws.map T.str)=true:=λws=>by
   induction ws with
   | nil=>rfl
   | cons w ws ih=>exact ih
  have e:ns.map T.str++brW.map T.str=(ns++brW).map .str:=by rw [uA]
  refine za (X2 (b:=brW.map T.str) (by rw [ue];show ns.length+8<=_;lia) (sb ns) (sb brW)) ?_
  rw [e]
  refine za (Qg (by rw [ln];lia)) ?_
  obtain⟨x,xin,ix⟩:=Q3 (ns:=ns++brW) (o:=true) (i:=n / 6 % ((ns.length:Int)+8)) (uR _ (by lia)) (by rw [ua];exact uM _ (by lia))
  have xo:qZ x:=by
   rcases ur.mp xin with z | z
   ·exact(hns x z).1
   ·exact KA x z
  have x8:=xo.2.1
  refine za (z:=[.own (.str x),.al 0 []]) (by show ixS _ (.own (.int (n / 6 % (((ns.map T.str).length:Int)+8)))::_)=_;rw [ln];exact ix) ?_
  refine put_ok k2.1 (leaf yL x (by decide) (by decide) x8) (by lia) hB ?_
  refine za (zf (by simp only [ub,uc];lia)) ?_
  refine za (zf (by simp only [ua,ub,uc];lia)) ?_
  exact done (.draw x) _ (.draw xo) rfl
 ·obtain⟨x,xin,ix⟩:=Q3 (ns:=ns) (o:=false) (i:=n / 6 % (ns.length:Int)) (uR _ (by lia)) (uM _ (by lia))
  have xo:=hns x xin
  have x8:=xo.1.2.1
  refine za (Qg (by rw [ln];lia)) ?_
  refine za (z:=[.own (.str x),.al 0 []]) (by show ixS _ (.own (.int (n / 6 % ((ns.map T.str).length:Int)))::_)=_;rw [ln];exact ix) ?_
  refine put_ok k2.1 (leaf JY x (by decide) (by decide) x8) (by lia) hB ?_
  refine za (zf (by simp only [ub,uc];lia)) ?_
  refine za (zf (by simp only [ua,ub,uc];lia)) ?_
  exact done (.hole x) _ (.hole xo) rfl
theorem zjz (hk:StK B (f::st))(h8:8<=B)(hB:B<=1000000)(hl:0<ns.length)(hl':ns.length<=100)(hns:∀ x∈ns,xW x)(ho:ov=true->st≠[])(q:∀ t s',Tk ov (f::st,nm) t s'->s'.1≠[]->s'.2=nm->Q (.str t) [ol (stT s'.1),.non,.non,.non]):WSs (jW.drop 3) (wdS f st n ns ov) [.al 0 []] (wdK Q) (fnE [.mu,.mv,.mv,.mv] Q X):=by
 have t5:=zjy (X:=X) (n:=n) hk h8 hB hl hl' hns ho q
 refine zA (λz=>?_) λz=>t5
 cases ov with
 | false=>exact t5
 | true=>
  have sf:shrs (stT st++[lawT f])=false:=zfl rfl
  have it:itS .seq 1 (wdS f st n ns true) [.al 0 [],.own (.str zu),.al 0 []]=some (((st.reverse++[f]).map (λf=>T.tp [.str f.w,.str f.n,.any]),some (ol (stT st++[lawT f]))),([.own .any,.own (.int n),.own (fl (ns.map .str)),.own (.bl true),.own (.int (n % 6)),.no,.no],[.al 0 [],.own (.str zu),.al 0 []])):=by
   show(orO none (cond (shrs (stT st++[lawT f])) (some (stT st++[lawT f])) (some (views (stT st++[lawT f]))))).bind _=_
   rw [sf,← qw,YC,uA,uo,UM,← List.map_reverse]
   rfl
  refine za it ?_
  refine JH (g:=λf:Fr=>.str f.w) rfl rfl rfl rfl (λa _ K h=>h) (λa _ K h=>h) (by have:=hk.1;simp only [ua,List.length_reverse,ub,uc];lia) ?_
  rw [show []++(st.reverse++[f]).map (λf=>T.str f.w)=((st.reverse++[f]).map λf=>f.w).map .str by rw [Uq];rfl]
  refine za in_of ?_
  refine zA (λz=>?_) λz=>t5
  obtain⟨k1,k2,k3⟩:=hk
  refine put_ok k2.1 (xX (by simp only [ub,uc];lia) (λz=>absurd z (by decide)) (by simp) nofun) (by lia) hB ?_
  have:=q _ (f.put (.tp Tok.elder.xs)::st,nm) (.st (.put (k:=.elder) rfl ho) .elder) (by simp) rfl
  rw [qw] at this
  exact this
end
end
section
variable {Q:T->List T->Prop} {X:Exn->List T->Prop} {ov:Bool} {f:Fr} {st:List Fr} {nm ns:List (Lc)} {n:Int} {B:Nat}
theorem zjA (hk:StK B (f::st))(h8:8<=B)(hB:B<=1000000)(hl:0<ns.length)(hl':ns.length<=100)(hns:∀ x∈ns,xW x)(ho:ov=true->st≠[])(q:∀ t s',Tk ov (f::st,nm) t s'->s'.1≠[]->s'.2=nm->Q (.str t) [ol (stT s'.1),.non,.non,.non]):WSs (jW.drop 2) (wdS f st n ns ov) [.al 0 []] (wdK Q) (fnE [.mu,.mv,.mv,.mv] Q X):=by
 have t4:=zjz (X:=X) (n:=n) hk h8 hB hl hl' hns ho q
 refine zA (λz=>?_) λz=>t4
 refine za (yb (p:=[]) rfl yc rfl yd rfl) ?_
 refine za (X0 gL1 rfl rfl rfl rfl) ?_
 refine zA (λw=>?_) λz=>t4
 refine za (yb (p:=[]) rfl yc rfl yd rfl) ?_
 refine za (yb gL1 rfl rfl rfl rfl) ?_
 refine za (zfc gL2) ?_
 refine zA (λz=>?_) λz=>t4
 have hw:f.w=wIf:=uy w
 have hp:f.ps=[]:=by
  have z:(((f.ps.map ol++[ol f.cur]).length:Nat):Int)=1:=uy z
  rw [ua,ue] at z
  exact Gm.mp (by simp only [ub,uc] at z;lia)
 refine za (yb (p:=[]) rfl yc rfl yd rfl) ?_
 refine za (yb gL1 rfl rfl rfl rfl) ?_
 refine wZ (kT gL2) ?_
 have pt:putSt (wdS f st n ns ov) [.al 0 []] 0 [(stT st).length,2] (ol (f.ps.map ol++[ol f.cur]++[ol []]))=some ([.own (ol (stT st++[.tp [.str f.w,.str f.n,ol (f.ps.map ol++[ol f.cur]++[ol []])]])),.own (.int n),.own (fl (ns.map .str)),.own (.bl ov),.own (.int (n % 6)),.no,.no],[.al 0 []]):=vN rfl rfl (kl rfl) rfl rfl
 refine za (qe gL2 (jy (by rw [hp];show 1<_;decide)) pt) ?_
 have:=q _ ({ f with ps:=[f.cur],cur:=[] }::st,nm) (.st (.els hw hp ho) .els) (by simp) rfl
 rw [qw] at this
 rw [hp]
 exact this
theorem zfm (hk:StK B (f::st))(h8:8<=B)(hB:B<=1000000)(hl:0<ns.length)(hl':ns.length<=100)(hns:∀ x∈ns,xW x)(ho:ov=true->st≠[])(q:∀ t s',Tk ov (f::st,nm) t s'->s'.1≠[]->s'.2=nm->Q (.str t) [ol (stT s'.1),.non,.non,.non]):jn [ol (stT (f::st)),.int n,fl (ns.map .str),.bl ov] Q X:=by
 have t3:=zjA (X:=X) (n:=n) hk h8 hB hl hl' hns ho q
 unfold jn
 refine⟨rfl,?_⟩
 rw [qw]
 refine zA (λz=>?_) λz=>t3
 refine zA (λz2=>?_) λz2=>t3
 have l:(1:Int)<((stT st++[lawT f]).length:Nat):=uy z2
 obtain⟨k1,k2,k3⟩:=hk
 cases st with
 | nil=>rw [ua,kq] at l;simp at l
 | cons g st=>
  obtain⟨j1,j2,j3⟩:=k3
  have e12:12 - st.length=12 - (st.length+1)+1:=by simp only [ub] at k1;lia
  rw [e12] at j2
  rw [qw]
  refine zaM k2 j2 h8 (by simp only [ub];lia) hB ?_
  have:=q _ (g.put f.whole::st,nm) (.st .fin .fin) (by simp) rfl
  rw [qw] at this
  exact this
theorem zdK {bl:List (Lc)}(hk:StK B (f::st))(h8:8<=B)(hB:B<=1000000)(h0:0<=n)(hl:0<ns.length)(hl':ns.length<=100)(hns:∀ x∈ns,xW x)(hb:BlOk bl nm)(hb2:bl.length<=100)(q:∀ t s' bl',Tk ov (f::st,nm) t s'->s'.1≠[]->BlOk bl' s'.2->bl'.length<=100->Q (.str t) [ol (stT s'.1),.non,.non,ol (bl'.map .str),.non]):qO [ol (stT (f::st)),.int n,fl (ns.map .str),ol (bl.map .str),.bl ov] Q X:=by
 unfold qO
 refine⟨rfl,?_⟩
 have rest:(ov=true->st≠[])->WSs (xj.drop 2) [.own (ol (stT (f::st))),.own (.int n),.own (fl (ns.map .str)),.own (ol (bl.map .str)),.own (.bl ov),.own (.int (n % 8))] [.al 0 [],.al 3 []] (λs τ=>bnd (retA [.mu,.mv,.mv,.mu,.mv] 0 s τ) λr=>Q .non r) (fnE [.mu,.mv,.mv,.mu,.mv] Q X):=λho=>by
  refine zA (λz=>?_) λz=>?_
  ·rw [qw]
   refine Kz hk.2.1 h8 (by lia) hB (by lia) λt s ht=>?_
   have:=q t _ bl (ht ov st nm ho) (by simp) hb hb2
   rw [qw] at this
   exact this
  ·refine zA (λz=>?_) λz=>?_
   ·exact Xi (by simp) (by lia) hl hns hb (λz1 z2=>absurd (ho z1) (by simpa using z2)) hb2 λt s' bl' h1 h2 h3 h4=>q t s' bl' h1 h2 h3 h4
   ·exact zfm hk h8 hB hl hl' hns ho λt s' h1 h2 h3=>q t s' bl h1 h2 (by rw [h3];exact hb) hb2
 cases ov with
 | false=>exact rest nofun
 | true=>
  refine zA (λz=>?_) λz=>?_
  ·have l:((stT (f::st)).length:Int)=1:=uy z
   rw [kq] at l
   refine za (Vp (QM ⟨by decide,by decide⟩)) ?_
   exact Xi (by simp) (by lia) hl hns hb (λ_ _=>by lia) hb2 λt s' bl' h1 h2 h3 h4=>q t s' bl' h1 h2 h3 h4
  ·have l:¬ ((stT (f::st)).length:Int)=1:=uL z
   rw [kq] at l
   exact rest λ_ e=>by rw [e] at l;exact l rfl
end
section
variable {Q:T->List T->Prop} {X:Exn->List T->Prop} {ov:Bool}
theorem Qh:∀ ns:List Int,shrs (ns.map T.int)=true
 | []=>rfl
 | _::ns=>Qh ns
theorem zfn {α β:Type}(f:α->β)(xs:List α)(a b:Option Int):cutL (xs.map f) a b=(cutL xs a b).map f:=by
 unfold cutL
 rw [ue,List.map_take,List.map_drop]
theorem zfo {α:Type}(xs:List α)(a b:Option Int):(cutL xs a b).length<=xs.length:=by
 unfold cutL
 rw [Uv,Ub];lia
theorem zdL {ns:List Int}{a b:Int}:opF (.sl true true) [.ks true (ns.map .int),.int a,.int b]=some (.nd true .ls ((cutL ns (some a) (some b)).map .int)):=by
 show orO (cond (shrs (ns.map T.int)) (some (T.nd true .ls (cutL (ns.map T.int) (some a) (some b)))) none) _=_
 rw [Qh,zfn];rfl
inductive Tks (ov:Bool):Sx->List (Lc)->Sx->Prop where
 | nil {s:Sx}:Tks ov s [] s
 | cons {s s1 s2:Sx} {t:Lc} {ts:List (Lc)}:Tk ov s t s1->Tks ov s1 ts s2->Tks ov s (t::ts) s2
theorem Tks.app {s s1 s2:Sx}{a b:List (Lc)}(h:Tks ov s a s1)(k:Tks ov s1 b s2):Tks ov s (a++b) s2:=by
 induction h with
 | nil=>exact k
 | cons h1 _ ih=>exact .cons h1 (ih k)
theorem Tks.snoc {s s1 s2:Sx}{a:List (Lc)}{t:Lc}(h:Tks ov s a s1)(k:Tk ov s1 t s2):Tks ov s (a++[t]) s2:=h.app (.cons k .nil)
theorem Tks.rd {s s':Sx}{ts:List (Lc)}(h:Tks ov s ts s'):Rd ov s ts.flatten s':=by
 induction h with
 | nil=>exact .nil
 | cons h1 _ ih=>rw [List.flatten_cons];exact h1.rd.app ih
theorem Tks.len {s s':Sx}{ts:List (Lc)}(h:Tks ov s ts s'):ts.flatten.length<=16 * ts.length:=by
 induction h with
 | nil=>exact ui _
 | cons h1 _ ih=>
  have:=h1.len
  rw [List.flatten_cons,ua,ub]
  lia
def Bot (st:List Fr):Prop:=∃ c,st.getLast? = some ⟨[],[],[],c⟩
theorem Stp.bot {s s':Sx}{k:Tok}(h:Stp ov s k s')(b:Bot s.1):Bot s'.1:=by
 have tl:∀ {f g:Fr} {st:List Fr},st≠[]->Bot (f::st)->Bot (g::st):=λ{f g st} hs ⟨c,e⟩=>by
  refine⟨c,?_⟩
  rw [UZ hs] at e ⊢
  exact e
 cases h with
 | @put f st nm k hp ho=>
  cases st with
  | nil=>
   obtain⟨c,e⟩:=b
   cases e
   exact⟨_,rfl⟩
  | cons g st=>exact tl (by simp) b
 | op h1 h2 h3 h4 h5=>
  obtain⟨c,e⟩:=b
  exact⟨c,by rw [UZ h2];exact e⟩
 | @els f st nm h1 h2 h3=>
  cases st with
  | nil=>
   obtain⟨c,e⟩:=b
   cases e
   cases h1
  | cons g st=>exact tl (by simp) b
 | @fin f g st nm=>
  obtain⟨c,e⟩:=b
  rw [UZ (by simp)] at e
  cases st with
  | nil=>
   cases e
   exact⟨_,rfl⟩
  | cons h st=>exact tl (f:=g) (by simp) ⟨c,e⟩
theorem Rd.bot {s s':Sx}{l:Lc}(h:Rd ov s l s'):Bot s.1->Bot s'.1:=by
 induction h with
 | nil=>exact id
 | cons h1 _ _ ih=>exact λb=>ih (h1.bot b)
def Made (ov:Bool)(toks:List (Lc))(us:List T):Prop:=(∃ nm,Tks ov ([root],[]) toks ([⟨[],[],[],us⟩],nm))/\toks.length<=80
theorem Vt:∀ ws:List (Lc),frzs (ws.map T.str)=ws.map T.str
 | []=>rfl
 | w::ws=>congrArg (T.str w::·) (Vt ws)
theorem zfp {ns:List Int}(hns:ns.length<=63)(q:∀ toks us,Made ov toks us->Q (.tp [fl (toks.map .str),fl us]) [.non,.non]):jo [.ks true (ns.map .int),.bl ov] Q X:=by
 unfold jo
 refine⟨rfl,?_⟩
 refine ZO (k:=0) λc=>J3 (many:=4) (by decide) λnms hn=>?_
 refine ZO (k:=1) λc=>J3 (many:=6) (by decide) λbls hb=>?_
 have sb:∀ ws:List (Lc),shrs (ws.map T.str)=true:=λws=>by
  induction ws with
  | nil=>rfl
  | cons w ws ih=>exact ih
 refine za (X2 (b:=brW.map T.str) (by rw [ue];show bls.length+8<=_;have:=hb.1;lia) (sb bls) (sb brW)) ?_
 have eb:bls.map T.str++brW.map T.str=(bls++brW).map .str:=by rw [uA]
 rw [eb]
 have bok:BlOk (bls++brW) []:=by
  refine⟨UB.mpr ⟨hb.2.1,by decide,λa ha b hb' e=>?_⟩,λx hx=>?_,λ_ _=>by simp⟩
  ·subst e
   exact(hb.2.2 a ha).2 hb'
  ·rcases ur.mp hx with z | z
   ·exact(hb.2.2 x z).1
   ·exact KA x z
 have bl14:(bls++brW).length<=100:=by rw [ua,hb.1];decide
 refine za zdL ?_
 have lc:=zfo ns (some 2) (some 62)
 generalize cutL ns (some 2) (some 62)=cs at lc
 refine za (kj (Qh cs)) ?_
 refine wB (λj s τ=>τ=[]/\∃ f st nm toks bl y,s=[.own (.ks true (ns.map .int)),.own (.bl ov),.own (fl (nms.map .str)),.own (ol (bl.map .str)),.own (ol (stT (f::st))),.own (ol (toks.map .str)),y]/\Tks ov ([root],[]) toks (f::st,nm)/\BlOk bl nm/\bl.length<=100/\toks.length=j) ⟨rfl,root,[],[],[],bls++brW,.no,?_,.nil,bok,bl14,rfl⟩ ?_ ?_
 ·show [Slot.own (.ks true (ns.map .int)),.own (.bl ov),.own (fl (frzs (nms.map .str))),.own (ol ((bls++brW).map .str)),.own (ol [.tp [.str [],.str [],ol [ol []]]]),.own (ol []),.no]=_
  rw [Vt]
  rfl
 ·rintro j d _ _ K hd ⟨rfl,f,st,nm,toks,bl,y,rfl,ht,hbl,hb2,hj⟩ hK
  rw [ux] at hd
  obtain⟨cell,hc,rfl⟩:=uz.mp hd
  have hj':j<cs.length:=(uN.mp hc).1
  have tl:=ht.len
  have stk:=ht.rd.ok (B:=8) (QB 8) (ui _)
  refine zfj λn h0=>?_
  refine zdK stk (by lia) (by lia) h0 (by rw [hn.1];decide) (by rw [hn.1];decide) hn.2.2 hbl hb2 λt s' bl' h1 h2 h3 h4=>?_
  obtain⟨st',nm'⟩:=s'
  cases st' with
  | nil=>exact absurd rfl h2
  | cons f' st'=>
   refine za (qe (by rfl) (jy (by rw [ue];lia)) (by rfl)) ?_
   refine hK _ _ ⟨rfl,f',st',nm',toks++[t],bl',.own (.int cell),?_,ht.snoc h1,h3,h4,by rw [ua,hj];rfl⟩
   rw [uA]
   rfl
 ·rintro _ _ ⟨rfl,f,st,nm,toks,bl,y,rfl,ht,hbl,hb2,hj⟩
  rw [ue] at hj
  have stk:=ht.rd.ok (B:=8) (QB 8) (ui _)
  refine zdn (λm s τ=>τ=[]/\∃ f st toks y,s=[.own (.ks true (ns.map .int)),.own (.bl ov),.own (fl (nms.map .str)),.own (ol (bl.map .str)),.own (ol (stT (f::st))),.own (ol (toks.map .str)),y]/\Tks ov ([root],[]) toks (f::st,nm)/\st.length=m/\toks.length+m<=80) st.length ⟨rfl,f,st,toks,y,rfl,ht,rfl,by have:=stk.1;lia⟩ ?_
  clear hbl ht stk hj
  rintro m _ _ K ⟨rfl,f,st,toks,y,rfl,ht,hm,hl⟩ hK
  have tl:=ht.len
  have stk:=ht.rd.ok (B:=8) (QB 8) (ui _)
  have bot:=ht.rd.bot ⟨[],rfl⟩
  refine zA (λz=>?_) λz=>?_
  ·have l:(1:Int)<((stT (f::st)).length:Nat):=uy z
   cases st with
   | nil=>rw [kq] at l;simp at l
   | cons g st=>
    obtain⟨k1,k2,k3,k4,k5⟩:=stk
    have e12:12 - st.length=12 - (st.length+1)+1:=by simp only [ub] at k1;lia
    rw [e12] at k4
    rw [qw,qw]
    refine zaM k2 k4 (by lia) (by simp only [ub];lia) (by lia) ?_
    refine za (qe (by rfl) (jy (by rw [ue];lia)) (by rfl)) ?_
    refine hK st.length _ _ (by rw [← hm];simp) ⟨rfl,g.put f.whole,st,toks++[[123,101,110,100,125]],xO 5 1 (xO 4 1 (xO 4 1 y)),?_,ht.snoc (.st .fin .fin),rfl,?_⟩
    ·rw [uA,qw]
     rfl
    ·rw [ua];simp only [ub,uc] at hm ⊢;lia
  ·have l:¬ (1:Int)<((stT (f::st)).length:Nat):=uL z
   rw [kq] at l
   have hs:st=[]:=UU (by simp only [ub] at l;lia)
   subst hs
   obtain⟨c,e⟩:=bot
   cases e
   have fc:=stk.2.1.1.fz
   show Q (.tp [fl (frzs (toks.map .str)),fl (frzs c)]) [.non,.non]
   rw [Vt,show frzs c=c from fc]
   exact q toks c ⟨⟨nm,ht⟩,by lia⟩
end
section
mutual
noncomputable def alP:T->List T
 | .tp xs=>.tp xs::alXs xs
 | t=>[t]
noncomputable def alX:T->List T
 | .nd _ _ ps=>alPs ps
 | _=>[]
noncomputable def alXs:List T->List T
 | []=>[]
 | x::xs=>alX x++alXs xs
noncomputable def alPs:List T->List T
 | []=>[]
 | p::ps=>alP p++alPs ps
end
theorem J4:∀ a b:List T,alPs (a++b)=alPs a++alPs b
 | [],_=>rfl
 | x::a,b=>by
  show alP x++alPs (a++b)=(alP x++alPs a)++alPs b
  rw [J4 a b,ud]
theorem yS {q:T}:∀ {ps:List T},q∈alPs ps->∃ p∈ps,q∈alP p
 | [],h=>by cases h
 | p::ps,h=>by
  rcases ur.mp (show q∈alP p++alPs ps from h) with h | h
  ·exact⟨p,uf,h⟩
  ·obtain⟨p',h1,h2⟩:=yS h
   exact⟨p',uh _ h1,h2⟩
theorem zdM {n:Nat}{t:T}(h:Sh n t):∀ q∈alP t,Sh n q:=by
 refine Sh.ind (C:=λn t=>Sh n t->∀ q∈alP t,Sh n q) (λ{n t} h k q hq=>?_) h h
 have fs:∀ {ps:List T},LsB (λp=>∃ m,m+1=n/\Sh m p/\(Sh m p->∀ q∈alP p,Sh m q)) ps->q∈alPs ps->Sh n q:=λ{ps} g hq=>by
  obtain⟨p,h1,h2⟩:=yS hq
  obtain⟨m,rfl,h3,h4⟩:=g.2 p h1
  exact(h4 h3 q h2).up
 have one:∀ {u:T},alP t=[u]->u=t->Sh n q:=λe1 e2=>by
  rw [e1,e2] at hq
  rw [ug.mp hq];exact k
 rcases h with⟨s,rfl,_⟩ | ⟨s,rfl,_⟩ | ⟨s,rfl,_⟩ | rfl | ⟨w,nm,ps,_,rfl,_,g⟩ | ⟨nm,ps,qs,rfl,_,g1,g2⟩
 ·exact one rfl rfl
 ·exact one rfl rfl
 ·exact one rfl rfl
 ·exact one rfl rfl
 ·rcases um.mp (show q∈_::(alPs ps++[]) from hq) with z | z
  ·rw [z];exact k
  ·rw [uk] at z;exact fs g z
 ·rcases um.mp (show q∈_::(alPs ps++(alPs qs++[])) from hq) with z | z
  ·rw [z];exact k
  ·rw [uk] at z
   rcases ur.mp z with z | z
   ·exact fs g1 z
   ·exact fs g2 z
theorem zdN {n:Nat}{us:List T}(h:∀ p∈us,Sh n p):shrs (alPs us)=true:=(Sh.ls (n:=n) λq hq=>by
 obtain⟨p,h1,h2⟩:=yS hq
 exact zdM (h p h1) q h2).sh
theorem KC {xs ys:List T}{o:Bool}(h:xs.length+ys.length<=16777216)(s:shrs ys=true):muF .extend xs [.nd o .ls ys]=some (xs++ys,.non):=by
 show(if _/\_ then _ else _)=_
 rw [uw ⟨h,s⟩]
theorem Qi:∀ (m n:Nat) {Q:T->List T->Prop} {X:Exn->List T->Prop} {us:List T},(us=[]/\0<m)\/n+1<m->LsB (Sh n) us->(alPs us).length<=1000000->Q (ol (alPs us)) [.non]->qq m [fl us] Q X
 | 0,_,_,_,_,h,_,_,_=>by rcases h with⟨_,h⟩ | h<;>omega
 | m+1,n,Q,X,us,hn,hs,hl,q=>by
  refine⟨rfl,?_⟩
  have ls:LsP us us:=Sh.ls hs.2
  refine za (kj ls.sh) ?_
  refine wB (λk s τ=>τ=[]/\∃ x y,s=[.own (fl us),.own (ol (alPs (us.take k))),x,y]) ⟨rfl,_,_,rfl⟩ ?_ ?_
  ·rintro k p _ _ K hd ⟨rfl,x,y,rfl⟩ hK
   have hp:=uK hd
   have hm:n<m:=by
    rcases hn with⟨h,_⟩ | h
    ·rw [h] at hp;cases hp
    ·lia
   have ek:alPs (us.take (k+1))=alPs (us.take k)++alP p:=by
    rw [gE,hd,J4]
    show _++(alP p++[])=_
    rw [uk]
   have lk:(alPs (us.take k)).length+(alP p).length<=1000000:=by
    have e:alPs us=alPs (us.take (k+1))++alPs (us.drop (k+1)):=by rw [← J4,UA]
    rw [e,ek,ua,ua] at hl
    lia
   have rec':∀ {ps:List T} {Q:T->List T->Prop} {X:Exn->List T->Prop},LsB (λp=>∃ m,m+1=n/\Sh m p) ps->(alPs ps).length<=1000000->(shrs (alPs ps)=true->Q (ol (alPs ps)) [.non])->qq m [fl ps] Q X:=λ{ps Q X} k1 k2 q=>by
    cases n with
    | zero=>
     have e:ps=[]:=by
      cases ps with
      | nil=>rfl
      | cons p _=>obtain⟨_,e,_⟩:=k1.2 p uf;omega
     refine Qi m 0 (.inl ⟨e,hm⟩) (k1.mono λp z=>by obtain⟨_,e,_⟩:=z;lia) k2 (q ?_)
     rw [e];rfl
    | succ n=>
     have k3:LsB (Sh n) ps:=k1.mono λp z=>by obtain⟨_,e,z⟩:=z;cases e;exact z
     exact Qi m n (.inr (by lia)) k3 k2 (q (zdN k3.2))
   have fin:∀ {zs:List T} {x y:Slot},zs=alP p->K [.own (fl us),.own (ol (alPs (us.take k)++zs)),x,y] []:=λ{zs x y} e=>hK _ _ ⟨rfl,x,y,by rw [ek,e]⟩
   have app:∀ {t:T},muF .append (alPs (us.take k)) [t]=some (alPs (us.take k)++[t],.non):=λ{t}=>jy (by lia)
   rcases(hs.2 p hp).body with⟨s,rfl,g⟩ | ⟨s,rfl,g⟩ | ⟨s,rfl,g⟩ | rfl | ⟨w,nm,ps,hw,rfl,g,h3⟩ | ⟨nm,ps,qs,rfl,g,h2,h3⟩
   ·refine za (qe (by rfl) app (by rfl)) ?_
    exact fin rfl
   ·refine za (qe (by rfl) app (by rfl)) ?_
    exact fin rfl
   ·refine za (qe (by rfl) app (by rfl)) ?_
    exact fin rfl
   ·refine za (qe (by rfl) app (by rfl)) ?_
    exact fin rfl
   ·refine za (qe (by rfl) app (by rfl)) ?_
    have e:alP (.tp [.str w,.str nm,fl ps])=.tp [.str w,.str nm,fl ps]::(alPs ps++[]):=rfl
    rw [e,ub,uk] at lk
    refine rec' h3 (by lia) λsp=>?_
    refine za (qe (by rfl) (KC (by rw [ua,UP];lia) sp) (by rfl)) ?_
    rw [ud]
    exact fin (by rw [e,uk];rfl)
   ·refine za (qe (by rfl) app (by rfl)) ?_
    have e:alP (.tp [.str wIf,.str nm,fl ps,fl qs])=.tp [.str wIf,.str nm,fl ps,fl qs]::(alPs ps++(alPs qs++[])):=rfl
    rw [e,ub,uk,ua] at lk
    refine rec' h2 (by lia) λsp=>?_
    refine za (qe (by rfl) (KC (by rw [ua,UP];lia) sp) (by rfl)) ?_
    refine rec' h3 (by lia) λsq=>?_
    refine za (qe (by rfl) (KC (by rw [ua,ua,UP];lia) sq) (by rfl)) ?_
    rw [ud,ud]
    exact fin (by rw [e,uk];rfl)
  ·rintro _ _ ⟨rfl,x,y,rfl⟩
   rw [show us.take us.length=us from UD]
   exact q
end
section
theorem Vu {c:T->Bool}{g:T->T}{tt:Sl->Sl->(Bool->KP)->Prop}{fe:Sl->Sl->KP->Prop}{s τ s1 τ1:Sl}{K:List T->KP}(e1:mapO (shN 1) s=some s1)(e2:mapO (shN 1) τ=some τ1)(e3:mapO (unN 1) s1=some s)(e4:mapO (unN 1) τ1=some τ) :
  ∀ {xs:List T} {acc:List T},(∀ a∈xs,∀ K:Bool->KP,K (c a) (.own a::s1) τ1->tt (.own a::s1) τ1 K)->(∀ a∈xs,c a=true->∀ K:KP,K (.own a::s1) (.own (g a)::τ1)->fe (.own a::s1) τ1 K)->acc.length+xs.length<=16777216->K (acc++(xs.filter c).map g) s τ->Jv 1 tt fe xs acc s τ K
 | [],acc,_,_,_,h=>by rw [List.filter_nil,Uw,uk] at h;exact h
 | a::xs,acc,ht,hf,hl,h=>by
  rw [ub] at hl
  refine za e1 (za e2 (ht a uf _ ?_))
  cases ca:c a with
  | true=>
   refine hf a uf ca _ ⟨by lia,za e3 (za e4 ?_)⟩
   refine Vu e1 e2 e3 e4 (λb hb=>ht b (uh _ hb)) (λb hb=>hf b (uh _ hb)) ?_ ?_
   ·rw [ua,ub,uc];lia
   ·rw [List.filter_cons_of_pos ca,uo] at h
    rw [ud];exact h
  | false=>
   refine za e3 (za e4 ?_)
   refine Vu e1 e2 e3 e4 (λb hb=>ht b (uh _ hb)) (λb hb=>hf b (uh _ hb)) (by lia) ?_
   rw [List.filter_cons_of_neg (by rw [ca];decide)] at h
   exact h
end
section
variable {Q:T->List T->Prop} {X:Exn->List T->Prop}
noncomputable def isBk:T->Bool
 | .tp (.str w::_)=>decide (w=zu)
 | _=>false
noncomputable def bkN:T->Lc×List T
 | .tp (_::.str n::.nd _ _ ps::_)=>(n,ps)
 | _=>([],[])
noncomputable abbrev bkT (a:T):T:=.tp [.str (bkN a).1,fl (bkN a).2]
noncomputable def bkp (us:List T):List (Key×T):=((alPs us).filter isBk).map λa=>(.inr (S (bkN a).1),fl (bkN a).2)
theorem YD:∀ xs:List T,kR (xs.map bkT)=some (xs.map λa=>(.inr (S (bkN a).1),fl (bkN a).2))
 | []=>rfl
 | x::xs=>by
  show two (some _) (kR (xs.map bkT)) _=_
  rw [YD xs];rfl
theorem zaN:∀ xs:List T,shrs (xs.map bkT)=true
 | []=>rfl
 | x::xs=>by
  show(true&&shrs (xs.map bkT))=true
  rw [zaN xs];rfl
theorem zfq {xs:List T}{o:Bool}(h:xs.length<=16777216):opF .dict [.nd o .ls (xs.map bkT)]=some (Ju (jd (xs.map λa=>(.inr (S (bkN a).1),fl (bkN a).2)) ([],[]))):=by
 show((cond (shrs (xs.map bkT)) (some (xs.map bkT)) none).bind λys=>(kR ys).bind λps=>if ps.length<=16777216 then some (Ju (jd ps ([],[]))) else none)=_
 rw [zaN]
 show(kR (xs.map bkT)).bind _=_
 rw [YD]
 show(if _ then _ else _)=_
 rw [uw (by rw [ue];exact h)]
theorem zbG {ov:T}{us:List T}{n:Nat}(hs:LsB (Sh n) us)(hn:n<=30)(hl:(alPs us).length<=1000000)(q:Q (Ju (jd (bkp us) ([],[]))) [.non]):zP [shF ov us] Q X:=by
 unfold zP
 refine⟨rfl,?_⟩
 refine Qi 40 n (.inr (by lia)) hs hl ?_
 refine za (kj (zdN hs.2)) ?_
 have sh:∀ a∈alPs us,Sh n a:=λa ha=>by
  obtain⟨p,h1,h2⟩:=yS ha
  exact zdM (hs.2 p h1) a h2
 refine Vu (c:=isBk) (g:=bkT) (acc:=[]) rfl rfl rfl rfl (λa ha K hK=>?_) (λa ha ca K hK=>?_) (by simp only [uc];lia) ?_
 ·rcases(sh a ha).body with⟨s,rfl,g⟩ | ⟨s,rfl,g⟩ | ⟨s,rfl,g⟩ | rfl | ⟨w,nm,ps,hw,rfl,g,h3⟩ | ⟨nm,ps,qs,rfl,g,h2,h3⟩
  ·exact hK
  ·exact hK
  ·exact hK
  ·exact hK
  ·rcases hw with rfl | rfl<;>exact hK
  ·exact hK
 ·rcases(sh a ha).body with⟨s,rfl,g⟩ | ⟨s,rfl,g⟩ | ⟨s,rfl,g⟩ | rfl | ⟨w,nm,ps,hw,rfl,g,h3⟩ | ⟨nm,ps,qs,rfl,g,h2,h3⟩
  ·cases ca
  ·cases ca
  ·cases ca
  ·cases ca
  ·have k3:∀ p∈ps,Sh n p:=λp hp=>by
    obtain⟨m,e,z⟩:=h3.2 p hp
    exact z.to (by lia)
   have lp:LsP ps ps:=Sh.ls k3
   refine Qf 40 n (B:=100000) (.inr (by lia)) lp (λu hu=>(k3 u hu).pc) (by lia) h3.1 ?_
   show K _ (.own (.tp [.str nm,fl (frzs (thws ps))])::_)
   rw [xq,lp.fz]
   exact hK
  ·cases ca
 ·have lf:((alPs us).filter isBk).length<=16777216:=uJ (List.length_filter_le _ _) (by lia)
  refine za (zfq lf) ?_
  exact q
end
section
theorem zdO (c:Nat){s τ:Sl}:dgS s (.own (.str [c])::.own (.str [c])::.own (.nd true (.dc [.inr (S [123]),.inr (S [125])]) [.str [123,40,125],.str [123,41,125]])::τ)=some (.own (.str (jB c))::τ):=by
 have e:∀ d:Nat,decide ((.inr (S [d]):Key)=.inr (S [c]))=decide (d=c):=λd=>by
  by_cases h:d=c
  ·subst h;simp
  ·rw [uq h,uq]
   intro z
   have:=Ja.mp (Sum.inr.inj z)
   simp at this
   exact h this
 have f:dcJ (.inr (S [c])) (.nd true (.dc [.inr (S [123]),.inr (S [125])]) [.str [123,40,125],.str [123,41,125]])=if c=123 then some 0 else if c=125 then some 1 else none:=by
  show List.findIdx? _ _=_
  rw [Uj,Uj,List.findIdx?_nil,e,e]
  by_cases h:c=123
  ·subst h;rfl
  ·rw [uq (λz=>h z.symm),uv h]
   by_cases h':c=125
   ·subst h';rfl
   ·rw [uq (λz=>h' z.symm),uv h'];rfl
 show(match dcJ (.inr (S [c])) (.nd true (.dc [.inr (S [123]),.inr (S [125])]) [.str [123,40,125],.str [123,41,125]]) with
  | some _=>(kF s (.own (.nd true (.dc [.inr (S [123]),.inr (S [125])]) [.str [123,40,125],.str [123,41,125]])) (dcJ (.inr (S [c])))).bind λz=>some (z::τ)
  | none=>some (.own (.str [c])::τ))=_
 show(match dcJ (.inr (S [c])) (.nd true (.dc [.inr (S [123]),.inr (S [125])]) [.str [123,40,125],.str [123,41,125]]) with
  | some _=>((dcJ (.inr (S [c])) (.nd true (.dc [.inr (S [123]),.inr (S [125])]) [.str [123,40,125],.str [123,41,125]])).bind λn=>(some [T.str [123,40,125],.str [123,41,125]]).bind λxs=>(xs[n]?).bind λu=>some (Slot.own u)).bind λz=>some (z::τ)
  | none=>some (.own (.str [c])::τ))=_
 rw [f]
 unfold jB
 by_cases h:c=123
 ·rw [uw h,uw h];rfl
 ·rw [uv h,uv h]
  by_cases h':c=125
  ·rw [uw h',uw h'];rfl
  ·rw [uv h',uv h']
theorem J5 {s:Lc}{k c:Nat}(h:s[k]? = some c):jx (s.take (k+1))=jx (s.take k)++jB c:=by
 rw [gE,h]
 unfold jx
 rw [U0]
 show _++(jB c++[])=_
 rw [uk]
theorem zdP (s:Lc)(k:Nat):(jx (s.take k)).length<=(jx s).length:=by
 have e:jx s=jx (s.take k)++jx (s.drop k):=by
  unfold jx
  rw [← U0,UA]
 rw [e,ua];lia
theorem zfr {n:Nat}{q:T}{qs:List T}{o:Bool}(h:∀ p∈q::qs,Sh n p)(hn:n<=20):opF .ne [fl (q::qs),.nd o .ls []]=some (.bl true):=by
 obtain⟨ds,h1,_,h3⟩:=vW (n:=2 * n+2) (ps:=q::qs) λp hp=>(h p hp).dat
 obtain⟨d,es,e1,e2,e3⟩:=zt h1
 cases e3
 show(eqO (fl (q::qs)) (.nd o .ls [])).bind _=_
 have e:eqO (fl (q::qs)) (.nd o .ls [])=some false:=by
  show two ((jD (q::qs)).map Dat.ls) (some (Dat.ls [])) _=_
  rw [h1]
  show(if depD (Dat.ls (d::es))<=50/\_/\_ then some (eqD (Dat.ls (d::es)) (Dat.ls [])) else none)=_
  rw [uw ⟨by simp only [depD];lia,rfl,rfl⟩]
  simp [eqD,eqDs]
 rw [e];rfl
theorem Zc:∀ (m n:Nat) {Q:T->List T->Prop} {X:Exn->List T->Prop} {us:List T},(us=[]/\0<m)\/n+1<m->n<=20->LsB (Sh n) us->(txPs us).length<=1000000->Q (.str (txPs us)) [.non]->zm m [fl us] Q X
 | 0,_,_,_,_,h,_,_,_,_=>by rcases h with⟨_,h⟩ | h<;>omega
 | m+1,n,Q,X,us,hn,h20,hs,hl,q=>by
  refine⟨rfl,?_⟩
  have ls:LsP us us:=Sh.ls hs.2
  refine za (kj ls.sh) ?_
  refine wB (λk s τ=>τ=[]/\∃ x y,s=[.own (fl us),.own (.str (txPs (us.take k))),x,y]) ⟨rfl,_,_,rfl⟩ ?_ ?_
  ·rintro k p _ _ K hd ⟨rfl,x,y,rfl⟩ hK
   have hp:=uK hd
   have hm:n<m:=by
    rcases hn with⟨h,_⟩ | h
    ·rw [h] at hp;cases hp
    ·lia
   have ek:txPs (us.take (k+1))=txPs (us.take k)++txP p:=by
    rw [gE,hd,yQ]
    show _++(txP p++[])=_
    rw [uk]
   have lk:(txPs (us.take k)).length+(txP p).length<=1000000:=by
    have e:txPs us=txPs (us.take (k+1))++txPs (us.drop (k+1)):=by rw [← yQ,UA]
    rw [e,ek,ua,ua] at hl
    lia
   have rec':∀ {ps:List T} {Q:T->List T->Prop} {X:Exn->List T->Prop},LsB (λp=>∃ m,m+1=n/\Sh m p) ps->(txPs ps).length<=1000000->Q (.str (txPs ps)) [.non]->zm m [fl ps] Q X:=λ{ps Q X} k1 k2 q=>by
    cases n with
    | zero=>
     refine Zc m 0 (.inl ⟨?_,hm⟩) (by lia) (k1.mono λp z=>by obtain⟨_,e,_⟩:=z;lia) k2 q
     cases ps with
     | nil=>rfl
     | cons p _=>obtain⟨_,e,_⟩:=k1.2 p uf;omega
    | succ n=>exact Zc m n (.inr (by omega)) (by omega) (k1.mono λp z=>by obtain⟨_,e,z⟩:=z;cases e;exact z) k2 q
   have fin:∀ {t:Lc} {x y:Slot},t=txPs (us.take k)++txP p->K [.own (fl us),.own (.str t),x,y] []:=λ{t x y} e=>hK _ _ ⟨rfl,x,y,by rw [ek,e]⟩
   generalize txPs (us.take k)=A at *
   rcases(hs.2 p hp).body with⟨s,rfl,g⟩ | ⟨s,rfl,g⟩ | ⟨s,rfl,g⟩ | rfl | ⟨w,nm,ps,hw,rfl,g,h3⟩ | ⟨nm,ps,qs,rfl,g,h2,h3⟩
   ·have lk:A.length+(jx s).length<=1000000:=lk
    refine wB (λi s' τ=>τ=[]/\∃ y,s' = [.own (fl us),.own (.str (A++jx (s.take i))),.own (litP s),y]) ⟨rfl,_,by show _=[_,Slot.own (.str (A++[])),_,_];rw [uk];rfl⟩ ?_ ?_
    ·rintro i d _ _ K' hd ⟨rfl,y,rfl⟩ hK'
     obtain⟨c,hc,rfl⟩:=uz.mp ((ux).symm.trans hd)
     have l1:=zdP s (i+1)
     rw [J5 hc,ua] at l1
     refine za (zdO c) ?_
     refine za (zf (by rw [ua];lia)) ?_
     exact hK' _ _ ⟨rfl,_,by rw [J5 hc,ud];rfl⟩
    ·rintro _ _ ⟨rfl,y,rfl⟩
     rw [show(L5.signs s).length=s.length by simp [L5.signs],UD]
     exact fin rfl
   ·have lk:A.length+(br s).length<=1000000:=lk
    simp only [br,ub,ua,uc] at lk
    refine za (zf (by simp only [ub,uc];lia)) ?_
    refine za (zf (by simp only [ua,ub,uc];lia)) ?_
    refine za (zf (by simp only [ua,ub,uc];lia)) ?_
    exact fin (by show _=A++br s;simp [br])
   ·have lk:A.length+(br (yL++32::s)).length<=1000000:=lk
    simp only [br,ub,ua,uc] at lk
    refine za (zf (by simp only [ua,ub,uc];lia)) ?_
    refine za (zf (by simp only [ua,ub,uc];lia)) ?_
    refine za (zf (by simp only [ua,ub,uc];lia)) ?_
    refine za (zf (by simp only [ua,ub,uc];lia)) ?_
    refine za (zf (by simp only [ua,ub,uc];lia)) ?_
    exact fin (by show _=A++br (yL++32::s);simp [br])
   ·have lk:A.length+(br xN).length<=1000000:=lk
    simp only [br,ub,ua,uc] at lk
    refine za (zf (by simp only [ua,ub,uc];lia)) ?_
    refine za (zf (by simp only [ua,ub,uc];lia)) ?_
    refine za (zf (by simp only [ua,ub,uc];lia)) ?_
    exact fin (by show _=A++br xN;simp [br])
   ·have lk:A.length+(br (w++32::nm)++(txPs ps++br wEnd)).length<=1000000:=lk
    simp only [br,ub,ua,uc] at lk
    have e5:wEnd.length=3:=rfl
    have tx:txP (.tp [.str w,.str nm,fl ps])=br (w++32::nm)++(txPs ps++br wEnd):=rfl
    rcases hw with rfl | rfl
    all_goals (
     refine za (zf (by simp only [ua,ub,uc];lia)) ?_
     refine za (zf (by simp only [ua,ub,uc];lia)) ?_
     refine za (zf (by simp only [ua,ub,uc];lia)) ?_
     refine za (zf (by simp only [ua,ub,uc];lia)) ?_
     refine za (zf (by simp only [ua,ub,uc];lia)) ?_
     refine rec' h3 (by lia) ?_
     refine za (zf (by simp only [ua,ub,uc];lia)) ?_
     refine za (zf (by simp only [ua,ub,uc];lia)) ?_
     exact fin (by rw [tx];simp [br]))
   ·have lk:A.length+(br (wIf++32::nm)++(txPs ps++((if qs.isEmpty=true then [] else br qf++txPs qs)++br wEnd))).length<=1000000:=lk
    have tx:txP (.tp [.str wIf,.str nm,fl ps,fl qs])=br (wIf++32::nm)++(txPs ps++((if qs.isEmpty=true then [] else br qf++txPs qs)++br wEnd)):=rfl
    have e5:wEnd.length=3:=rfl
    have e6:qf.length=4:=rfl
    cases qs with
    | nil=>
     have lk:A.length+(br (wIf++32::nm)++(txPs ps++([]++br wEnd))).length<=1000000:=lk
     simp only [br,ub,ua,uc] at lk
     refine za (zf (by simp only [ua,ub,uc];lia)) ?_
     refine za (zf (by simp only [ua,ub,uc];lia)) ?_
     refine za (zf (by simp only [ua,ub,uc];lia)) ?_
     refine za (zf (by simp only [ua,ub,uc];lia)) ?_
     refine za (zf (by simp only [ua,ub,uc];lia)) ?_
     refine rec' h2 (by lia) ?_
     refine za (zf (by simp only [ua,ub,uc];lia)) ?_
     refine za (zf (by simp only [ua,ub,uc];lia)) ?_
     exact fin (by rw [tx];simp [br])
    | cons q0 qs=>
     have lk:A.length+(br (wIf++32::nm)++(txPs ps++((br qf++txPs (q0::qs))++br wEnd))).length<=1000000:=lk
     simp only [br,ub,ua,uc] at lk
     refine za (zf (by simp only [ua,ub,uc];lia)) ?_
     refine za (zf (by simp only [ua,ub,uc];lia)) ?_
     refine za (zf (by simp only [ua,ub,uc];lia)) ?_
     refine za (zf (by simp only [ua,ub,uc];lia)) ?_
     refine za (zf (by simp only [ua,ub,uc];lia)) ?_
     refine rec' h2 (by lia) ?_
     refine za (zf (by simp only [ua,ub,uc];lia)) ?_
     have k3:∀ p∈q0::qs,Sh n p:=λp hp=>by
      obtain⟨m,e,z⟩:=h3.2 p hp
      exact z.to (by lia)
     refine za (zfr k3 h20) ?_
     refine za (zf (by simp only [ua,ub,uc];lia)) ?_
     refine rec' h3 (by lia) ?_
     refine za (zf (by simp only [ua,ub,uc];lia)) ?_
     refine za (zf (by simp only [ua,ub,uc];lia)) ?_
     exact fin (by rw [tx];simp [br])
  ·rintro _ _ ⟨rfl,x,y,rfl⟩
   rw [show us.take us.length=us from UD]
   exact q
end
section
theorem zaO:∀ {ks:List Key} {ds:List Dat} {i:Nat} {k:Key} {d:Dat},ks.Nodup->ks[i]? = some k->ds[i]? = some d->datV ks ds k=some d
 | [],_,_,_,_,_,h,_=>by simp at h
 | _::_,[],_,_,_,_,_,h=>by simp at h
 | k'::ks,d'::ds,0,k,d,_,h1,h2=>by
  cases h1;cases h2
  rw [datV,uw rfl]
 | k'::ks,d'::ds,i+1,k,d,nd,h1,h2=>by
  obtain⟨n1,n2⟩:=Uc.mp nd
  have h1:ks[i]? = some k:=by simpa using h1
  have h2:ds[i]? = some d:=by simpa using h2
  rw [datV,uv (λz:k' = k=>n1 (by rw [z];exact uK h1))]
  exact zaO n2 h1 h2
theorem zdQ {kb:List Key}{es:List Dat}:∀ {ka:List Key} {ds:List Dat},(∀ (i:Nat) (k:Key) (d:Dat),ka[i]? = some k->ds[i]? = some d->datV kb es k=some d)->(∀ d∈ds,eqD d d=true)->hitV kb es ka ds=true
 | [],_,_,_=>by simp [hitV]
 | _::_,[],_,_=>by simp [hitV]
 | k::ka,d::ds,h,r=>by
  rw [hitV,h 0 k d rfl rfl]
  show(eqD d d&&hitV kb es ka ds)=true
  rw [r d uf,zdQ (λi k d h1 h2=>h (i+1) k d (by simpa using h1) (by simpa using h2)) λd hd=>r d (uh _ hd)]
  rfl
theorem zbH {ks:List Key}{ds:List Dat}(nd:ks.Nodup)(r:∀ d∈ds,eqD d d=true):eqDc ks ds ks ds=true:=by
 unfold eqDc
 rw [zdQ (λi k d h1 h2=>zaO nd h1 h2) r,uW];rfl
theorem KD {ks:List Key}{xs:List T}{k:Key}{x:T}(h:ks.Nodup):(dput ks xs k x).1.Nodup:=by
 unfold dput
 split
 ·exact h
 ·rename_i hn
  refine UB.mpr ⟨h,by simp,λa ha b hb=>?_⟩
  rw [ug.mp hb]
  intro z
  exact hn (List.any_eq_true.mpr ⟨a,ha,uS z⟩)
theorem zdR {ks:List Key}{xs:List T}{k:Key}{x t:T}(h:t∈(dput ks xs k x).2):t∈xs\/t=x:=by
 unfold dput at h
 split at h
 ·obtain⟨kv,h1,rfl⟩:=Uh.mp h
  by_cases hk:kv.1=k
  ·rw [uw hk];exact .inr rfl
  ·rw [uv hk];exact .inl (UY h1).2
 ·rcases ur.mp h with z | z
  ·exact .inl z
  ·exact .inr (ug.mp z)
theorem Xj {P:T->Prop}:∀ {ps:List (Key×T)} {r:List Key×List T},(∀ p∈ps,P p.2)->r.1.Nodup->(∀ t∈r.2,P t)->(jd ps r).1.Nodup/\∀ t∈(jd ps r).2,P t
 | [],_,_,h1,h2=>⟨h1,h2⟩
 | p::ps,r,h,h1,h2=>Xj (ps:=ps) (r:=dput r.1 r.2 p.1 p.2) (λq hq=>h q (uh _ hq)) (KD h1) λt ht=>by
  rcases zdR ht with z | z
  ·exact h2 t z
  ·rw [z];exact h p uf
theorem zie {n:Nat}{xs:List T}(h:∀ t∈xs,∃ d,datO t=some d/\jC d=true/\depD d<=n)(hn:n<=50):∃ ds,dtsO xs=some ds/\∀ d∈ds,eqD d d=true:=by
 have:∃ ds,jD xs=some ds/\(∀ d∈ds,jC d=true/\depD d<=n):=by
  induction xs with
  | nil=>exact⟨[],rfl,λ_ z=>by cases z⟩
  | cons x xs ih=>
   obtain⟨d,h1,h2,h3⟩:=h x uf
   obtain⟨ds,k1,k2⟩:=ih λt ht=>h t (uh _ ht)
   refine⟨d::ds,by rw [jD,h1,k1];rfl,λe he=>?_⟩
   rcases um.mp he with rfl | he
   ·exact⟨h2,h3⟩
   ·exact k2 e he
 obtain⟨ds,h1,h2⟩:=this
 refine⟨ds,?_,λd hd=>Jg (h2 d hd).1⟩
 unfold dtsO
 rw [h1]
 show(if _ then _ else _)=_
 rw [uw (gk.mpr λd hd=>uS (uJ (h2 d hd).2 hn))]
theorem zdS {us:List T}{n:Nat}(hs:∀ p∈us,Sh n p)(hn:n<=20):opF .ned [Ju (jd (bkp us) ([],[])),Ju (jd (bkp us) ([],[]))]=some (.bl false):=by
 have hb:∀ p∈bkp us,∃ d,datO p.2=some d/\jC d=true/\depD d<=2 * n+3:=λp hp=>by
  obtain⟨a,h1,rfl⟩:=Uh.mp hp
  obtain⟨h1,h2⟩:=gX.mp h1
  obtain⟨u,h3,h4⟩:=yS h1
  have sa:=(zdM (hs u h3) a h4).body
  rcases sa with⟨s,rfl,g⟩ | ⟨s,rfl,g⟩ | ⟨s,rfl,g⟩ | rfl | ⟨w,nm,ps,hw,rfl,g,h5⟩ | ⟨nm,ps,qs,rfl,g,h5,h6⟩
  ·cases h2
  ·cases h2
  ·cases h2
  ·cases h2
  ·refine Vo (n:=2 * n+2) (vW λp hp=>?_)
   obtain⟨m,e,z⟩:=h5.2 p hp
   obtain⟨d,k1,k2,k3⟩:=z.dat
   exact⟨d,k1,k2,by lia⟩
  ·cases h2
 obtain⟨m1,m2⟩:=Xj (P:=λt=>∃ d,datO t=some d/\jC d=true/\depD d<=2 * n+3) (r:=([],[])) hb List.nodup_nil (λt z=>by cases z)
 obtain⟨ds,d1,d2⟩:=zie m2 (by lia)
 show(two (dtsO (jd (bkp us) ([],[])).2) (dtsO (jd (bkp us) ([],[])).2) λx y=>some (eqDc (jd (bkp us) ([],[])).1 x (jd (bkp us) ([],[])).1 y)).bind (λb=>some (T.bl (cond true (!b) b)))=_
 rw [d1]
 show some (T.bl (!eqDc _ ds _ ds))=_
 rw [zbH m1 d2];rfl
end
section
noncomputable def txF (f:Fr):Lc:=(if f.w=[] then [] else br (f.w++32::f.n))++(match f.ps with
 | []=>txPs f.cur
 | a::_=>txPs a++(br qf++txPs f.cur))
noncomputable def txS:List Fr->Lc
 | []=>[]
 | f::st=>txS st++txF f
noncomputable def WdK:List Fr->Prop
 | []=>True
 | f::st=>(st=[]\/f.w=jX\/f.w=wIf\/f.w=zu)/\WdK st
def Sz (n:Nat)(p:T):Prop:=Sh n p/\(alP p).length<=(txP p).length
noncomputable def ShK:List Fr->Prop
 | []=>True
 | f::st=>(∀ p∈f.cur,Sz (12 - st.length) p)/\(∀ l∈f.ps,∀ p∈l,Sz (12 - st.length) p)/\ShK st
theorem yT (s:Lc):txP (litP s)=jx s:=by rw [txP,uw rfl]
theorem Xk (a b:Lc):jx (a++b)=jx a++jx b:=by unfold jx;rw [U0]
theorem Sh.litI {n:Nat}{p:T}(h:Sh n p)(e:hd1 p=wLit):∃ s,p=litP s:=by
 rcases h.body with⟨s,rfl,_⟩ | ⟨s,rfl,_⟩ | ⟨s,rfl,_⟩ | rfl | ⟨w,nm,ps,hw,rfl,_⟩ | ⟨nm,ps,qs,rfl,_⟩
 ·exact⟨s,rfl⟩
 ·exact absurd (show JY=wLit from e) (by decide)
 ·exact absurd (show yL=wLit from e) (by decide)
 ·exact absurd (show xN=wLit from e) (by decide)
 ·have e:w=wLit:=e
  rcases hw with z | z<;>rw [z] at e<;>exact absurd e (by decide)
 ·exact absurd (show wIf=wLit from e) (by decide)
theorem zdT {l:List T}{p:T}(hl:∀ q∈l,hd1 q=wLit->∃ s,q=litP s)(hp:hd1 p=wLit->∃ s,p=litP s):txPs (addP l p)=txPs l++txP p:=by
 rcases Ud l with rfl | ⟨l',q,rfl⟩
 ·rw [yM];show txP p++[]=_;rw [uk];rfl
 ·rw [Ue] at hl ⊢
  rw [qW]
  split
  ·rename_i h
   obtain⟨a,rfl⟩:=hl q (by simp) h.2
   obtain⟨b,rfl⟩:=hp h.1
   rw [yQ,yQ]
   show txPs l'++(txP (litP (a++b))++[])=(txPs l'++(txP (litP a)++[]))++txP (litP b)
   rw [yT,yT,yT,Xk]
   simp
  ·rw [yQ (l'++[q])]
   show _++(txP p++[])=_
   rw [uk]
theorem zaP {f:Fr}{p:T}(hl:∀ q∈f.cur,hd1 q=wLit->∃ s,q=litP s)(hp:hd1 p=wLit->∃ s,p=litP s):txF (f.put p)=txF f++txP p:=by
 have e:=zdT hl hp
 obtain⟨w,n,ps,c⟩:=f
 cases ps with
 | nil=>
  show _++txPs (addP c p)=(_++txPs c)++txP p
  rw [e,ud];rfl
 | cons a ps=>
  show _++(txPs a++(br qf++txPs (addP c p)))=(_++(txPs a++(br qf++txPs c)))++txP p
  rw [e];simp only [ud];rfl
theorem zdU {ov:Bool}{k:Tok}{t:Lc}(hp:k.isP ov=true)(ht:Tx k t):txP (.tp k.xs)=t:=by
 cases ht with
 | @sign c h h1 h2=>
  show txP (litP [c])=_
  rw [yT]
  show jB c++[]=_
  unfold jB
  rw [uv h1,uv h2];rfl
 | word h=>
  cases h with
  | lb=>show txP (litP [123])=_;rw [yT];rfl
  | rb=>show txP (litP [125])=_;rw [yT];rfl
  | hole h=>show txP (zdE _)=_;rw [txP,uv (by decide),uw rfl];rfl
  | draw h=>show txP (zdF _)=_;rw [txP,uv (by decide),uv (by decide)];rfl
  | elder=>show txP Kx=_;rw [txP];rfl
  | els=>cases hp
  | fin=>cases hp
  | op1 _ _=>cases hp
  | op2 _=>cases hp
theorem zaQ {l:List T}{p:T}:addP l p≠[]:=by
 rcases Ud l with rfl | ⟨l',q,rfl⟩
 ·rw [yM];simp
 ·rw [Ue,qW]
  split<;>simp
theorem zdV {f:Fr}(hw:f.w=jX\/f.w=wIf\/f.w=zu)(hp:f.ps=[]\/f.w=wIf/\∃ a,f.ps=[a]):txP f.whole=txF f++br wEnd\/∃ a,f.ps=[a]/\f.cur=[]/\txP f.whole=txF { f with ps:=[],cur:=a }++br wEnd/\f.whole=({ f with ps:=[],cur:=a }:Fr).whole:=by
 obtain⟨w,n,ps,c⟩:=f
 have w0:w≠[]:=by rcases hw with z | z | z<;>(have z:w=_:=z;rw [z];simp)
 have eF:∀ c:List T,txF ⟨w,n,[],c⟩=br (w++32::n)++txPs c:=λc=>by
  show(if w=[] then [] else _)++_=_
  rw [uv w0]
 rcases hp with hp | ⟨hi,a,hp⟩
 ·have hp:ps=[]:=hp
  subst hp
  left
  rw [eF]
  rcases hw with z | z | z
  ·have z:w=jX:=z
   subst z
   show txP (.tp [.str jX,.str n,fl c])=_
   rw [txP,ud]
  ·have z:w=wIf:=z
   subst z
   show txP (.tp [.str wIf,.str n,fl c,fl []])=_
   rw [txP,ud];rfl
  ·have z:w=zu:=z
   subst z
   show txP (.tp [.str zu,.str n,fl c])=_
   rw [txP,ud]
 ·have hp:ps=[a]:=hp
  have hi:w=wIf:=hi
  subst hp hi
  cases c with
  | nil=>
   right
   refine⟨a,rfl,rfl,?_,rfl⟩
   rw [eF]
   show txP (.tp [.str wIf,.str n,fl a,fl []])=_
   rw [txP,ud];rfl
  | cons x c=>
   left
   show txP (.tp [.str wIf,.str n,fl a,fl (x::c)])=(_++(txPs a++(br qf++txPs (x::c))))++_
   rw [txP,uv (by simp),uv (by simp)]
   simp only [ud]
theorem J6 {l:List T}(h:∀ p∈l,(alP p).length<=(txP p).length):(alPs l).length<=(txPs l).length:=by
 induction l with
 | nil=>exact ui _
 | cons p l ih=>
  show(alP p++alPs l).length<=(txP p++txPs l).length
  have:=h p uf
  have:=ih λq hq=>h q (uh _ hq)
  simp only [ua];lia
theorem zif {ov:Bool}{k:Tok}{t:Lc}{n:Nat}(hp:k.isP ov=true)(ht:Tx k t):Sz n (.tp k.xs):=by
 have t1:=(Yv ht).1
 have e:=zdU hp ht
 have nm:∀ {n:Lc},qZ n->Sm n:=λh=>by have:=h.2.1;show _<=_;lia
 refine⟨?_,?_⟩
 ·cases ht with
  | sign h=>exact Sh.lit (by show _<=_;simp)
  | word h=>
   cases h with
   | lb=>exact Sh.lit (by show _<=_;simp)
   | rb=>exact Sh.lit (by show _<=_;simp)
   | hole h=>exact Sh.hole (nm h.1)
   | draw h=>exact Sh.draw (nm h)
   | elder=>exact Sh.elder
   | els=>cases hp
   | fin=>cases hp
   | op1 _ _=>cases hp
   | op2 _=>cases hp
 ·rw [e]
  refine uJ (Up ?_) t1
  cases k<;>first | rfl | cases hp
theorem zaR {n B:Nat}{l:List T}{p:T}(hl:∀ q∈l,Sz n q)(hp:Sz n p)(hpc:PcL B n (addP l p))(hB:B<=100000):∀ q∈addP l p,Sz n q:=by
 rcases Ud l with rfl | ⟨l',q,rfl⟩
 ·rw [yM];intro x hx;rw [ug.mp hx];exact hp
 ·rw [Ue] at hl hpc ⊢
  rw [qW] at hpc ⊢
  by_cases h:hd1 p=wLit/\hd1 q=wLit
  ·rw [uw h] at hpc ⊢
   have hq:=hl q (by simp)
   obtain⟨a,rfl⟩:=hq.1.litI h.2
   obtain⟨b,rfl⟩:=hp.1.litI h.1
   intro x hx
   rcases ur.mp hx with z | z
   ·exact hl x (uX _ z)
   ·rw [ug.mp z]
    obtain⟨s,e,hs⟩:=Q0 (hpc.2 (litP (a++b)) (by simp [hd2])) rfl
    cases e
    refine⟨Sh.lit (uJ hs hB),?_⟩
    have:=hq.2
    rw [yT] at this
    show _<=(txP (litP (a++b))).length
    rw [yT,Xk,ua]
    have l1:(alP (litP a)).length=1:=rfl
    have l2:(alP (litP (a++b))).length=1:=rfl
    show(alP (litP (a++b))).length<=_
    lia
  ·rw [uv h]
   intro x hx
   rcases ur.mp hx with z | z
   ·exact hl x z
   ·rw [ug.mp z];exact hp
theorem J7 (w:Lc):(br w).length=w.length+2:=by unfold br;simp
theorem zdW {f:Fr}{n B:Nat}(hw:f.w=jX\/f.w=wIf\/f.w=zu)(hk:FrK B n f)(hB:B<=100000)(h1:∀ p∈f.cur,Sz n p)(h2:∀ l∈f.ps,∀ p∈l,Sz n p):Sz (n+1) f.whole:=by
 obtain⟨w,m,ps,c⟩:=f
 obtain⟨k1,k2,k3,k4,k5,k6⟩:=hk
 have sm:Sm m:=by have k5:m.length<=8:=k5;show _<=_;lia
 have lc:LsB (Sh n) c:=⟨uJ k1.1 hB,λp hp=>(h1 p hp).1⟩
 have ac:=J6 λp hp=>(h1 p hp).2
 rcases k3 with hp | ⟨hi,a,hp⟩
 ·have hp:ps=[]:=hp
  subst hp
  have blk:∀ w,(w=jX\/w=zu)->Sz (n+1) (.tp [.str w,.str m,fl c]):=λw hw=>by
   refine⟨Sh.blk hw sm lc,?_⟩
   show(T.tp [.str w,.str m,fl c]::(alPs c++[])).length<=_
   rw [txP,uk,ub,ua,ua,J7]
   have ac:(alPs c).length<=(txPs c).length:=ac
   lia
  rcases hw with z | z | z
  ·have z:w=jX:=z
   subst z
   exact blk _ (.inl rfl)
  ·have z:w=wIf:=z
   subst z
   refine⟨Sh.ife (ps:=c) (qs:=[]) sm lc ⟨uE _,nofun⟩,?_⟩
   show(T.tp [.str wIf,.str m,fl c,fl []]::(alPs c++([]++[]))).length<=(txP (.tp [.str wIf,.str m,fl c,fl []])).length
   rw [txP,uk,uk,ub,ua,ua,J7]
   have ac:(alPs c).length<=(txPs c).length:=ac
   lia
  ·have z:w=zu:=z
   subst z
   exact blk _ (.inr rfl)
 ·have hp:ps=[a]:=hp
  have hi:w=wIf:=hi
  subst hp hi
  have h2:=h2 a uf
  have la:LsB (Sh n) a:=⟨uJ (k2 a uf).1 hB,λp hp=>(h2 p hp).1⟩
  have aa:=J6 λp hp=>(h2 p hp).2
  refine⟨Sh.ife (ps:=a) (qs:=c) sm la lc,?_⟩
  show(T.tp [.str wIf,.str m,fl a,fl c]::(alPs a++(alPs c++[]))).length<=(txP (.tp [.str wIf,.str m,fl a,fl c])).length
  have ac:(alPs c).length<=(txPs c).length:=ac
  rw [txP,uk,ub,ua,ua,J7]
  cases c with
  | nil=>
   have:(alPs ([]:List T)).length=0:=rfl
   simp only [ua,J7]
   lia
  | cons x c=>
   rw [uv (by simp)]
   simp only [ua,J7]
   lia
end
section
structure Cn (ov:Bool)(l:Lc)(s:Sx):Prop where
 rd:Rd ov ([root],[]) (txS s.1) s
 k:StK (8+l.length) s.1
 wd:WdK s.1
 sh:ShK s.1
 el:∀ f st a,s.1=f::st->f.ps=[a]->f.cur=[]->Rd ov ([root],[]) (txS ({ f with ps:=[],cur:=a }::st)) ({ f with ps:=[],cur:=a }::st,s.2)/\∃ l',l=l'++br qf
 tx:l=txS s.1\/∃ a b,l=a++(br qf++br wEnd)++b
 ln:(txS s.1).length<=l.length
theorem zaS {n:Nat}{c:List T}(h:∀ p∈c,Sz n p):∀ q∈c,hd1 q=wLit->∃ s,q=litP s:=λq hq e=>(h q hq).1.litI e
theorem Cn.step {ov:Bool}{l t:Lc}{s s':Sx}{k:Tok}(h:Cn ov l s)(hs:Stp ov s k s')(ht:Tx k t)(hl:(l++t).length<=90000):Cn ov (l++t) s':=by
 have K:StK (8+(l++t).length) s'.1:=by
  rw [ua,← gg];exact Kv hs ht h.k (by lia)
 have tx':∀ {x:Lc},(l=txS s.1->l++t=x)->(l++t=x\/∃ a b,l++t=a++(br qf++br wEnd)++b):=λ{x} e=>by
  rcases h.tx with z | ⟨a,b,z⟩
  ·exact .inl (e z)
  ·exact .inr ⟨a,b++t,by rw [z];simp only [ud]⟩
 have one:txS s'.1=txS s.1++t->Rd ov ([root],[]) (txS s'.1) s'/\(l++t=txS s'.1\/∃ a b,l++t=a++(br qf++br wEnd)++b)/\(txS s'.1).length<=(l++t).length:=λe=>by
  refine⟨by rw [e];exact h.rd.app (.one hs ht),tx' λz=>by rw [e,← z],?_⟩
  have:=h.ln
  rw [e,ua,ua];lia
 have W:=h.wd
 have S:=h.sh
 cases hs with
 | @put f st nm k hp ho=>
  have sz:Sz (12 - st.length) (.tp k.xs):=zif hp ht
  have e:txS (f.put (.tp k.xs)::st)=txS (f::st)++t:=by
   show txS st++txF (f.put _)=(txS st++txF f)++t
   rw [zaP (zaS S.1) sz.1.litI,zdU hp ht,ud]
  obtain⟨a,b,c⟩:=one e
  refine⟨a,K,W,⟨zaR S.1 sz K.2.1.1 (by lia),S.2⟩,λf' st' a' e1 e2 e3=>?_,b,c⟩
  cases e1
  exact absurd e3 zaQ
 | @op st nm w n h1 h2 h3 h4 h5=>
  have et:t=br (w++32::n):=by
   cases ht with
   | word hi=>
    cases hi with
    | op1 _ _=>rfl
    | op2 _=>rfl
  have e:txS (⟨w,n,[],[]⟩::st)=txS st++t:=by
   show txS st++((if w=[] then [] else br (w++32::n))++[])=_
   rw [uv (by rcases h3 with z | z | z<;>(rw [z];simp)),uk,et]
  obtain⟨a,b,c⟩:=one e
  refine⟨a,K,⟨.inr h3,W⟩,⟨nofun,nofun,S⟩,λf' st' a' e1 e2 e3=>?_,b,c⟩
  cases e1
  cases e2
 | @els f st nm h1 h2 h3=>
  have et:t=br qf:=by
   cases ht with
   | word hi=>
    cases hi with
    | els=>rfl
  have e:txS ({ f with ps:=[f.cur],cur:=[] }::st)=txS (f::st)++t:=by
   obtain⟨w,n,ps,c⟩:=f
   have h2:ps=[]:=h2
   subst h2
   show txS st++(_++(txPs c++(br qf++[])))=(txS st++(_++txPs c))++t
   rw [et];simp only [ud,uk]
  obtain⟨a,b,c⟩:=one e
  refine⟨a,K,W,⟨nofun,λl hl=>?_,S.2.2⟩,λf' st' a' e1 e2 e3=>?_,b,c⟩
  ·rw [ug.mp hl];exact S.1
  ·cases e1
   cases e2
   have:({ w:=f.w,n:=f.n,ps:=[],cur:=f.cur }:Fr)=f:=by rw [← h2]
   rw [show({ ({ f with ps:=[f.cur],cur:=[] }:Fr) with ps:=[],cur:=f.cur }:Fr)=f from this]
   exact⟨h.rd,l,by rw [et]⟩
 | @fin f g st nm=>
  have et:t=br wEnd:=by
   cases ht with
   | word hi=>
    cases hi with
    | fin=>rfl
  have fw:f.w=jX\/f.w=wIf\/f.w=zu:=W.1.resolve_left (by simp)
  have KS:=h.k
  have sz:Sz (12 - st.length) f.whole:=by
   have k1:st.length+1<=12:=KS.1
   have:=zdW fw KS.2.1 (by rw [ua] at hl;lia) S.1 S.2.1
   rw [show 12 - st.length=12 - (st.length+1)+1 by lia]
   exact this
  have eg:txF (g.put f.whole)=txF g++txP f.whole:=zaP (zaS S.2.2.1) sz.1.litI
  have fin:Rd ov ([root],[]) (txS (g.put f.whole::st)) (g.put f.whole::st,nm)->(l++t=txS (g.put f.whole::st)\/∃ a b,l++t=a++(br qf++br wEnd)++b)->(txS (g.put f.whole::st)).length<=(l++t).length->Cn ov (l++t) (g.put f.whole::st,nm):=λa b c=>by
   refine⟨a,K,W.2,⟨zaR S.2.2.1 sz K.2.1.1 (by lia),S.2.2.2⟩,λf' st' a' e1 e2 e3=>?_,b,c⟩
   cases e1
   exact absurd e3 zaQ
  rcases zdV fw KS.2.1.2.2.1 with e | ⟨a,ep,ec,e,ew⟩
  ·have e:txS (g.put f.whole::st)=txS (f::g::st)++t:=by
    show txS st++txF (g.put f.whole)=((txS st++txF g)++txF f)++t
    rw [eg,e,et];simp only [ud]
   obtain⟨a,b,c⟩:=one e
   exact fin a b c
  ·obtain⟨r,l',el⟩:=h.el f (g::st) a rfl ep ec
   have e':txS (g.put f.whole::st)=txS ({ f with ps:=[],cur:=a }::g::st)++t:=by
    show txS st++txF (g.put f.whole)=((txS st++txF g)++txF _)++t
    rw [eg,e,et];simp only [ud]
   refine fin ?_ (.inr ⟨l',[],?_⟩) ?_
   ·rw [e']
    refine r.app ?_
    rw [ew]
    exact .one .fin ht
   ·rw [el,et];simp only [ud,uk]
   ·rw [e',ua,ua]
    have l0:(txS (f::g::st)).length<=l.length:=h.ln
    have l1:(txS ({ f with ps:=[],cur:=a }::g::st)).length<=(txS (f::g::st)).length:=by
     show(txS (g::st)++txF _).length<=(txS (g::st)++txF f).length
     rw [ua,ua]
     obtain⟨w,n,ps,c⟩:=f
     have ep:ps=[a]:=ep
     subst ep
     show _+(_++txPs a).length<=_+(_++(txPs a++(br qf++txPs c))).length
     simp only [ua]
     show _+(_+_)<=_+(_+(_+_))
     lia
    lia
theorem Rd.cn {ov:Bool}{s s':Sx}{r:Lc}(h:Rd ov s r s'):∀ {l:Lc},Cn ov l s->(l++r).length<=90000->Cn ov (l++r) s':=by
 induction h with
 | nil=>intro l h _;rw [uk];exact h
 | cons h1 h2 _ ih=>
  intro l c hl
  rw [← ud] at hl ⊢
  refine ih (c.step h1 h2 ?_) hl
  rw [ua] at hl;lia
theorem canon {ov:Bool}{l:Lc}{us:List T}{nm:List (Lc)}(h:Rd ov ([root],[]) l ([⟨[],[],[],us⟩],nm))(hl:l.length<=90000):Rd ov ([root],[]) (txPs us) ([⟨[],[],[],us⟩],nm)/\(l=txPs us\/∃ a b,l=a++(br qf++br wEnd)++b)/\(txPs us).length<=l.length/\LsB (Sh 12) us/\(alPs us).length<=l.length:=by
 have c0:Cn ov [] ([root],[]):=⟨.nil,QB _,⟨.inl rfl,trivial⟩,⟨nofun,nofun,trivial⟩,(λf st a e1 e2 _=>by cases e1;cases e2),.inl rfl,ui _⟩
 have c:=h.cn c0 hl
 rw [UH] at c
 have e:txS [(⟨[],[],[],us⟩:Fr)]=txPs us:=rfl
 obtain⟨c1,c2,c3,c4,c5,c6,c7⟩:=c
 have c1:Rd ov ([root],[]) (txS [(⟨[],[],[],us⟩:Fr)]) _:=c1
 have c7:(txS [(⟨[],[],[],us⟩:Fr)]).length<=_:=c7
 rw [e] at c1 c7
 refine⟨c1,c6,c7,⟨?_,λp hp=>(c4.1 p hp).1⟩,uJ (J6 λp hp=>(c4.1 p hp).2) c7⟩
 exact uJ c2.2.1.1.1 (by lia)
end
section
theorem zig {l y a b:Lc}(e:l=a++y++b)(hy:2<=y.length):inS y l=true:=by
 have e1:inS y l = !(occs l y).isEmpty:=by
  match y,hy with
  | c::d::r,_=>rfl
 rw [e1]
 unfold occs
 rcases StrLaws.occ_head (S l) (S y) 1 (ui _) with⟨_,h2⟩ | ⟨i,r,h1,_⟩
 ·refine absurd ?_ (h2 a.length)
  unfold StrLaws.At Builtin.Str.subAt
  rw [jw,jw,gr]
  refine⟨by rw [e,ua,ua];lia,?_⟩
  show(l.toArray).extract a.length (a.length+y.length)=y.toArray
  rw [← Array.toList_inj]
  simp [Array.toList_extract,List.extract,UI,e]
 ·rw [h1];rfl
theorem zdX {n:Lc}(h:qZ n):(yO n).length<=20:=by
 have:=h.2.1
 unfold yO;simp only [ua,ub,uc];lia
noncomputable abbrev K0:KP:=λs τ=>bnd (retA [.mv] 0 s τ) λr=>(λt _=>t=T.bl true) T.non r
noncomputable abbrev D0:L5.Ends:=fnE [.mv] (λt _=>t=T.bl true) (λ_ _=>False)
theorem zih {ov:T}{us:List T}(hv:ov=.non\/∃ n,ov=.str n)(hf:frzs us=us):shr (shF ov us)=true:=by
 rw [← Ky hv hf];exact vM _
theorem YE {s0 nv:T}{ov:Bool}{toks:List (Lc)}{us:List T}{nm:List (Lc)}{ah:Lc}(hv:(ov=false/\nv=.non/\ah=[])\/∃ n,ov=true/\nv=.str n/\qZ n/\ah=yO n)(ht:Tks ov ([root],[]) toks ([⟨[],[],[],us⟩],nm))(h80:toks.length<=80) :
  WSs (Xg.drop 5) [.own s0,.own (.bl ov),.own (fl (toks.map .str)),.own (fl us),.own (.str ah),.own nv,.no,.no,.no,.no,.no] [] K0 D0:=by
 have rd:=ht.rd
 have tl:=ht.len
 obtain⟨c1,c2,c3,c4,c5⟩:=canon rd (by lia)
 have idm:∀ ts:List (Lc),(ts.map λt=>t)=ts:=λts=>Ux ts
 have lo:ah.length<=20:=by
  rcases hv with⟨_,_,rfl⟩ | ⟨n,_,_,hn,rfl⟩
  ·exact uE _
  ·exact zdX hn
 have rds:∀ {l:Lc},Rd ov ([root],[]) l ([⟨[],[],[],us⟩],nm)->Reads nv (ah++l) us:=λ{l} rd=>by
  rcases hv with⟨rfl,rfl,rfl⟩ | ⟨n,rfl,rfl,hn,rfl⟩
  ·exact .inl ⟨rfl,nm,rd⟩
  ·exact .inr ⟨n,l,nm,rfl,hn,rfl,rd⟩
 have eo:ovT nv=ah:=by
  rcases hv with⟨rfl,rfl,rfl⟩ | ⟨n,rfl,rfl,hn,rfl⟩<;>rfl
 have hv1:nv=.non\/∃ n,nv=.str n/\n.length<=1000000:=by
  rcases hv with⟨rfl,rfl,rfl⟩ | ⟨n,rfl,rfl,hn,rfl⟩
  ·exact .inl rfl
  ·exact .inr ⟨n,rfl,by have:=hn.2.1;lia⟩
 have hv2:nv=.non\/∃ n,nv=.str n:=hv1.imp id λ⟨n,e,_⟩=>⟨n,e⟩
 have ls:LsP us us:=Sh.ls c4.2
 have pc:∀ u∈us,Pc 100000 12 u:=λu hu=>(c4.2 u hu).pc
 have sh:=zih hv2 ls.fz
 have nsh:shr nv=true:=by rcases hv2 with rfl | ⟨n,rfl⟩<;>rfl
 have st:∀ {Q:T->List T->Prop} {X:Exn->List T->Prop},Q (.str (ah++txPs us)) [.non]->zO [frz (shT nv us)] Q X:=λ{Q X} q=>by
  rw [Ky hv2 ls.fz]
  refine Wx hv1 c4 (by lia) (by lia) ?_
  rw [eo];exact q
 refine za (X3 (f:=λt=>t) (o:=false) (xs:=toks) (by rw [idm];lia)) ?_
 rw [idm]
 refine za (zf (a:=ah) (by lia)) ?_
 refine Zc 40 12 (.inr (by lia)) (by lia) c4 (by lia) ?_
 refine za (zf (a:=ah) (by lia)) ?_
 refine kM (rds rd) (by rw [ua];lia) ?_
 refine st ?_
 refine jV (show(!decide (ah++txPs us=ah++txPs us))=false by simp) ?_
 refine za (vd rfl nsh) ?_
 refine Zb (B:=100000) (n:=12) hv2 ls pc (by lia) (by lia) c4.1 ?_
 refine st ?_
 refine jV (show(!decide (ah++txPs us=ah++txPs us))=false by simp) ?_
 have t2:WSs (Xg.drop 11) [.own s0,.own (.bl ov),.own (fl (toks.map .str)),.own (fl us),.own (.str ah),.own nv,.own (.str (ah++toks.flatten)),.own (.str (ah++txPs us)),.own (frz (shT nv us)),.own (.str (ah++txPs us)),.no] [] K0 D0:=by
  refine kM (rds c1) (by rw [ua];lia) ?_
  have n1:opF .ne [frz nv,nv]=some (.bl false):=by
   rcases hv2 with rfl | ⟨n,rfl⟩
   ·rfl
   ·show some (T.bl (!decide (n=n)))=_
    simp
  have n2:opF .ne [fl (frzs (thws us)),fl (frzs (thws us))]=some (.bl false):=by
   rw [xq,ls.fz]
   show(eqO (fl us) (fl us)).bind _=_
   rw [zjw c4.2 (by lia)];rfl
  have bk:∀ {Q:T->List T->Prop} {X:Exn->List T->Prop},Q (Ju (jd (bkp us) ([],[]))) [.non]->zP [frz (shT nv us)] Q X:=λ{Q X} q=>by
   rw [Ky hv2 ls.fz]
   exact zbG c4 (by lia) (by lia) q
  refine za (vd rfl nsh) ?_
  refine za n1 ?_
  refine za n2 ?_
  refine bk ?_
  refine bk ?_
  refine za (zdS c4.2 (by lia)) ?_
  refine st ?_
  refine wZ (uS rfl) ?_
  refine st ?_
  show T.bl (decide (ah++txPs us=ah++txPs us))=_
  simp
 rcases c2 with e | ⟨a,b,e⟩
 ·refine zA (λ_=>?_) λ_=>t2
  exact jV (show(!decide (ah++txPs us=ah++toks.flatten))=false by rw [e];simp) t2
 ·exact jV (show(!inS (br qf++br wEnd) (ah++toks.flatten))=false by rw [zig (a:=ah++a) (b:=b) (by rw [e];simp only [ud]) (by decide)];rfl) t2
theorem zfs (ns:List Int)(hns:ns.length<=63):fnD [.mv] 11 Xg [.ks true (ns.map .int)] (λt _=>t=.bl true) (λ_ _=>False):=by
 refine⟨rfl,?_⟩
 refine ZO (k:=1) λc=>?_
 refine zfp (ov:=decide (c % 2=1)) hns λtoks us hm=>?_
 generalize decide (c % 2=1)=ov at hm ⊢
 obtain⟨⟨nm,ht⟩,h80⟩:=hm
 cases ov with
 | false=>exact YE (.inl ⟨rfl,rfl,rfl⟩) ht h80
 | true=>
  refine ZO (k:=1) λc=>J3 (many:=4) (by decide) λnms hnm=>?_
  have sb:∀ ws:List (Lc),shrs (ws.map T.str)=true:=λws=>by
   induction ws with
   | nil=>rfl
   | cons w ws ih=>exact ih
  refine za (X2 (b:=[wEnd,qu].map T.str) (by rw [ue];show nms.length+2<=_;have:=hnm.1;lia) (sb nms) (sb [wEnd,qu])) ?_
  rw [show nms.map T.str++[wEnd,qu].map T.str=(nms++[wEnd,qu]).map .str by rw [uA]]
  refine ZO (k:=0) λc=>?_
  obtain⟨n,nin,ix⟩:=Q3 (ns:=nms++[wEnd,qu]) (o:=true) (i:=c % 6) (uR c (by decide)) (by rw [ua,hnm.1];exact uM c (by decide))
  have hn:qZ n:=by
   rcases ur.mp nin with z | z
   ·exact(hnm.2.2 n z).1
   ·exact KA n ((by decide:∀ x∈[wEnd,qu],x∈brW) n z)
  have n8:=hn.2.1
  refine za ix ?_
  refine za (zf (by simp only [ub,uc];lia)) ?_
  refine za (zf (by simp only [ua,ub,uc];lia)) ?_
  exact YE (.inr ⟨n,rfl,rfl,hn,rfl⟩) ht h80
end
structure Txt (W:Wd):Prop where
 d_LITERAL_BRACES:KGet W "LITERAL_BRACES" jt
 g_SIGNS:GlV W "SIGNS" g_SIGNS
 g_LETTERS:GlV W "LETTERS" g_LETTERS
 g_LONGEST_NAME:GlV W "LONGEST_NAME" g_LONGEST_NAME
 g_MOST_SIGNS:GlV W "MOST_SIGNS" g_MOST_SIGNS
 g_MOST_OPENED:GlV W "MOST_OPENED" g_MOST_OPENED
 g_BRACE_WORDS:GlV W "BRACE_WORDS" g_BRACE_WORDS
 d_LONE_TOKENS:KGet W "LONE_TOKENS" ve
 g_OPENERS:GlV W "OPENERS" g_OPENERS
 z_all:W.mg "all" = none
 z_dict:W.mg "dict" = none
 z_enumerate:W.mg "enumerate" = none
 z_int:W.mg "int" = none
 z_isinstance:W.mg "isinstance" = none
 z_len:W.mg "len" = none
 z_list:W.mg "list" = none
 z_range:W.mg "range" = none
 z_str:W.mg "str" = none
 z_tuple:W.mg "tuple" = none
 a_0_over:Cls W.K (W.cl 0)/\qY W.K (W.cl 0) "over"
 a_0_pieces:Cls W.K (W.cl 0)/\qY W.K (W.cl 0) "pieces"
 a_1_branches:Cls W.K (W.cl 1)/\qY W.K (W.cl 1) "branches"
 a_1_name:Cls W.K (W.cl 1)/\qY W.K (W.cl 1) "name"
 a_1_word:Cls W.K (W.cl 1)/\qY W.K (W.cl 1) "word"
 a_2_named:Cls W.K (W.cl 2)/\qY W.K (W.cl 2) "named"
 a_2_opened:Cls W.K (W.cl 2)/\qY W.K (W.cl 2) "opened"
 a_2_over:Cls W.K (W.cl 2)/\qY W.K (W.cl 2) "over"
section
variable {W:Wd}
theorem zaT {k:Nat}{x:Str}{st:Stmt}{ps N:Lh}{ms:List Md}(D:Df W.K W.mg x st ps)(Sc:zg N ps (zc st))(hn:ms.length=ps.length):OkX W.P W.w W.K W.mg W.base (k+1) x ps (SpM W ms λ_ _ _=>False):=
 D.okX Sc (λvs H Q E h=>(Km h).trans hn) (λf cdv A outer s H vs Q E hr h=>by
  obtain⟨_,_,_,_,_,_,_,_,po,_⟩:=h
  exact po.elim)
local macro_rules | `(tactic| walk_at "need") => `(tactic| repeat' (first | exact trivial | (refine ⟨_, _, ?_, by assumption⟩; omega) | exact Txt.z_all (by assumption) | exact Txt.z_dict (by assumption) | exact Txt.z_enumerate (by assumption) | exact Txt.z_int (by assumption) | exact Txt.z_isinstance (by assumption) | exact Txt.z_len (by assumption) | exact Txt.z_list (by assumption) | exact Txt.z_range (by assumption) | exact Txt.z_str (by assumption) | exact Txt.z_tuple (by assumption) | exact Txt.d_LITERAL_BRACES (by assumption) | exact Txt.g_SIGNS (by assumption) | exact Txt.g_LETTERS (by assumption) | exact Txt.g_LONGEST_NAME (by assumption) | exact Txt.g_MOST_SIGNS (by assumption) | exact Txt.g_MOST_OPENED (by assumption) | exact Txt.g_BRACE_WORDS (by assumption) | exact Txt.d_LONE_TOKENS (by assumption) | exact Txt.g_OPENERS (by assumption) | exact Txt.a_0_over (by assumption) | exact Txt.a_0_pieces (by assumption) | exact Txt.a_1_branches (by assumption) | exact Txt.a_1_name (by assumption) | exact Txt.a_1_word (by assumption) | exact Txt.a_2_named (by assumption) | exact Txt.a_2_opened (by assumption) | exact Txt.a_2_over (by assumption) | (refine gD.mpr ⟨?_, ?_⟩) | exact List.forall_mem_nil _ | refine ⟨?_, ?_⟩))
section
variable (W:Wd)
abbrev vX:=OkX W.P W.w W.K W.mg W.base 1 "braced" km (SpM W [.mv] qG)
abbrev qX:=OkX W.P W.w W.K W.mg W.base 1 "literal_text" jK (SpM W [.mv] qa)
abbrev ZP:=OkX W.P W.w W.K W.mg W.base 122 "pieces_text" zT (SpM W [.mv] (zh 40))
abbrev yU:=OkX W.P W.w W.K W.mg W.base 123 "sheet_text" wC (SpM W [.mv] zO)
abbrev Vv:=OkX W.P W.w W.K W.mg W.base 41 "copied" xn (SpM W [.mv] (qb 40))
abbrev jP:=OkMk W 42 (W.cl 0) "Sheet" q9 (SpM W [.mu,.mv,.mv] zF)
abbrev zaU:=OkX W.P W.w W.K W.mg W.base 41 "all_in" xp (SpM W [.mv] (qq 40))
abbrev vj:=OkMt W 42 (W.cl 0) "blocks" jL (SpM W [.mv] zP)
abbrev Zd:=OkX W.P W.w W.K W.mg W.base 1 "need_text" xc (SpM W [.mv] jl)
abbrev jv:=OkMk W 1 (W.cl 1) "Opened" qK (SpM W [.mu,.mv,.mv] zy)
abbrev wY:=OkMk W 3 (W.cl 2) "Draft" ja (SpM W [.mu] zQ)
abbrev wq:=OkMt W 1 (W.cl 1) "add_piece" qA (SpM W [.mu,.mv] zC)
abbrev qP:=OkMt W 1 (W.cl 1) "takes_else" ql (SpM W [.mu] zq)
abbrev vk:=OkMt W 2 (W.cl 1) "whole" jM (SpM W [.mu] qc)
abbrev jc:=OkMt W 1 (W.cl 2) "is_outside" qB (SpM W [.mu] zp)
abbrev wA:=OkMt W 2 (W.cl 2) "can_stand" qL (SpM W [.mu,.mv,.mv] zr)
abbrev jU:=OkMt W 3 (W.cl 2) "begin_piece" qo (SpM W [.mu,.mv,.mv] zG)
abbrev yV:=OkMt W 4 (W.cl 2) "take" wD (SpM W [.mu,.mv,.mv] zY)
abbrev vY:=OkMt W 44 (W.cl 2) "ended" wa (SpM W [.mu,.mv] qy)
abbrev ZQ:=OkX W.P W.w W.K W.mg W.base 1 "is_name" vO (SpM W [.mv] ju)
abbrev vZ:=OkX W.P W.w W.K W.mg W.base 2 "is_own_name" wb (SpM W [.mv] z0)
abbrev Qj:=OkX W.P W.w W.K W.mg W.base 3 "token_of" xT (SpM W [.mv] zR)
abbrev Qk:=OkX W.P W.w W.K W.mg W.base 4 "token_at" xU (SpM W [.mv,.mv] qM)
abbrev yW:=OkX W.P W.w W.K W.mg W.base 45 "sheet_read" wF (SpM W [.mv] qr)
abbrev wK:=OkX W.P W.w W.K W.mg W.base 1 "_law_cell_at" jN (SpM W [.mv,.mv] zx)
abbrev xY:=OkX W.P W.w W.K W.mg W.base 1 "_law_mixed" wG (SpM W [.mv,.mv] zK)
abbrev xZ:=OkX W.P W.w W.K W.mg W.base 2 "_law_names" wH (SpM W [.mv,.mv] zS)
abbrev Ze:=OkX W.P W.w W.K W.mg W.base 2 "_law_rest" xf (SpM W [.mv] jm)
abbrev vE:=OkX W.P W.w W.K W.mg W.base 1 "_law_put" xV (SpM W [.mu,.mv] zD)
abbrev v5:=OkX W.P W.w W.K W.mg W.base 2 "_law_shut" xg (SpM W [.mu] qt)
abbrev yX:=OkX W.P W.w W.K W.mg W.base 1 "_law_signs" wI (SpM W [] qN)
abbrev vm:=OkX W.P W.w W.K W.mg W.base 2 "_law_literal" jO (SpM W [.mu,.mv] qd)
abbrev v7:=OkX W.P W.w W.K W.mg W.base 1 "_law_opened" wk (SpM W [.mu,.mv,.mv,.mu] z4)
abbrev Zf:=OkX W.P W.w W.K W.mg W.base 3 "_law_word" xh (SpM W [.mu,.mv,.mv,.mv] jn)
abbrev yY:=OkX W.P W.w W.K W.mg W.base 4 "_law_token" wJ (SpM W [.mu,.mv,.mv,.mu,.mv] qO)
abbrev Zg:=OkX W.P W.w W.K W.mg W.base 5 "_law_made" xi (SpM W [.mv,.mv] jo)
abbrev kN:=OkX W.P W.w W.K W.mg W.base 41 "_law_written" qh (SpM W [.mv] (zm 40))
end
theorem zbI (T:Txt W)(D:Df W.K W.mg "braced" yw km):vX W:=by
 unfold vX qG
 exact qC (W:=W) (k:=0) D zbA zdr rfl (by decide) (by unfold JP;walk_at "need")
theorem QJ (T:Txt W)(D:Df W.K W.mg "literal_text" jf jK):qX W:=by
 unfold qX qa
 exact qC (W:=W) (k:=0) D QD JS rfl (by decide) (by unfold xG;walk_at "need")
theorem Wy (T:Txt W)(D:Df W.K W.mg "else_text" jg qI){P:Fn}{k:Nat}(hk:2<=k)(Fh:OkX W.P W.w W.K W.mg W.base k "pieces_text" zT (SpM W [.mv] P))(F1:vX W)(F2:qX W):OkX W.P W.w W.K W.mg W.base (k+1) "else_text" qI (SpM W [.mv] (qp P)):=by
 unfold qp
 exact qC (W:=W) (k:=k+0) D X5 Yp rfl (by decide) (by unfold yG;walk_at "need")
theorem J8 (T:Txt W)(D:Df W.K W.mg "piece_text" qJ qU){P:Fn}{k:Nat}(hk:2<=k)(Fh:OkX W.P W.w W.K W.mg W.base k "pieces_text" zT (SpM W [.mv] P))(M0:OkX W.P W.w W.K W.mg W.base (k+1) "else_text" qI (SpM W [.mv] (qp P)))(F1:vX W)(F2:qX W):OkX W.P W.w W.K W.mg W.base (k+2) "piece_text" qU (SpM W [.mv] (zX P)):=by
 unfold zX
 exact qC (W:=W) (k:=k+1) D Wk Vc rfl (by decide) (by unfold vP;walk_at "need")
theorem yf (T:Txt W)(D:Df W.K W.mg "pieces_text" qV zT)(D0:Df W.K W.mg "else_text" jg qI)(D1:Df W.K W.mg "piece_text" qJ qU)(F1:vX W)(F2:qX W):∀ n,OkX W.P W.w W.K W.mg W.base (3 * n+2) "pieces_text" zT (SpM W [.mv] (zh n))
 | 0=>by rw [zh];exact zaT D yy rfl
 | n+1=>by
  have Fh:=yf T D D0 D1 F1 F2 n
  have M0:=Wy T D0 (by lia) Fh F1 F2
  have M1:=J8 T D1 (by lia) Fh M0 F1 F2
  rw [zh,show 3 * (n+1)+2=3 * n+4+1 by lia]
  exact qC (W:=W) (k:=3 * n+4) D yy Wt rfl (by decide) (by unfold vf;walk_at "need")
theorem J9 (T:Txt W)(D:Df W.K W.mg "pieces_text" qV zT)(D0:Df W.K W.mg "else_text" jg qI)(D1:Df W.K W.mg "piece_text" qJ qU)(F1:vX W)(F2:qX W):ZP W:=yf T D D0 D1 F1 F2 40
theorem Wz (T:Txt W)(D:Df W.K W.mg "sheet_text" j8 wC)(F1:vX W)(F2:ZP W):yU W:=by
 unfold yU zO
 exact qC (W:=W) (k:=122) D Wl Vd rfl (by decide) (by unfold vQ;walk_at "need")
theorem Wa (T:Txt W)(D:Df W.K W.mg "copied" vy xn):∀ n,OkX W.P W.w W.K W.mg W.base (n+1) "copied" xn (SpM W [.mv] (qb n))
 | 0=>by rw [qb];exact zaT D Xd rfl
 | n+1=>by
  have Fr:=Wa T D n
  rw [qb,show n+1+1=n+1+1 by lia]
  exact qC (W:=W) (k:=n+1) D Xd zds rfl (by decide) (by unfold JQ;walk_at "need")
theorem zbJ (T:Txt W)(D:Df W.K W.mg "copied" vy xn):Vv W:=Wa T D 40
theorem ZR (T:Txt W)(D:Cdf W.K W.mg (W.cl 0) "Sheet" "Sheet.__init__" qD q9)(F1:Vv W):jP W:=by
 unfold jP zF
 exact zdl (c:=0) (W:=W) (k:=41) D ZD Qd rfl (by decide) (by unfold wx;walk_at "need")
theorem Wb (T:Txt W)(D:Df W.K W.mg "all_in" vA xp):∀ n,OkX W.P W.w W.K W.mg W.base (n+1) "all_in" xp (SpM W [.mv] (qq n))
 | 0=>by rw [qq];exact zaT D Xe rfl
 | n+1=>by
  have Fr:=Wb T D n
  rw [qq,show n+1+1=n+1+1 by lia]
  exact qC (W:=W) (k:=n+1) D Xe zdt rfl (by decide) (by unfold JR;walk_at "need")
theorem zbK (T:Txt W)(D:Df W.K W.mg "all_in" vA xp):zaU W:=Wb T D 40
theorem QK (T:Txt W)(D:Mdf W.K (W.cl 0) "blocks" "Sheet.blocks" jh jL)(F1:Vv W)(F2:zaU W):vj W:=by
 unfold vj zP
 exact Zz (c:=0) (W:=W) (k:=41) D QF JT rfl (by decide) (by unfold xH;walk_at "need")
theorem Vw (T:Txt W)(D:Df W.K W.mg "need_text" wO xc):Zd W:=by
 unfold Zd jl
 exact qC (W:=W) (k:=0) D X6 Yq rfl (by decide) (by unfold yH;walk_at "need")
theorem Zh (T:Txt W)(D:Cdf W.K W.mg (W.cl 1) "Opened" "Opened.__init__" qk qK):jv W:=by
 unfold jv zy
 exact zdl (c:=1) (W:=W) (k:=0) D kU ZL rfl (by decide) (by unfold wo;walk_at "need")
theorem ZS (T:Txt W)(D:Cdf W.K W.mg (W.cl 2) "Draft" "Draft.__init__" qE ja)(F1:jv W):wY W:=by
 unfold wY zQ
 exact zdl (c:=2) (W:=W) (k:=2) D ZE Qe rfl (by decide) (by unfold wy;walk_at "need")
theorem kB (T:Txt W)(D:Mdf W.K (W.cl 1) "add_piece" "Opened.add_piece" z8 qA):wq W:=by
 unfold wq zC
 exact Zz (c:=1) (W:=W) (k:=0) D kx k9 rfl (by decide) (by unfold jS;walk_at "need")
theorem yZ (T:Txt W)(D:Mdf W.K (W.cl 1) "takes_else" "Opened.takes_else" zV ql):qP W:=by
 unfold qP zq
 exact Zz (c:=1) (W:=W) (k:=0) D yA kz rfl (by decide) (by unfold jz;walk_at "need")
theorem QL (T:Txt W)(D:Mdf W.K (W.cl 1) "whole" "Opened.whole" ji jM)(F1:qP W):vk W:=by
 unfold vk qc
 exact Zz (c:=1) (W:=W) (k:=1) D QG JU rfl (by decide) (by unfold xI;walk_at "need")
theorem kC (T:Txt W)(D:Mdf W.K (W.cl 2) "is_outside" "Draft.is_outside" z9 qB):jc W:=by
 unfold jc zp
 exact Zz (c:=2) (W:=W) (k:=0) D ky Za rfl (by decide) (by unfold jT;walk_at "need")
theorem Zi (T:Txt W)(D:Mdf W.K (W.cl 2) "can_stand" "Draft.can_stand" qm qL)(F1:qP W)(F2:jc W):wA W:=by
 unfold wA zr
 exact Zz (c:=2) (W:=W) (k:=1) D kW ZM rfl (by decide) (by unfold jb;walk_at "need")
theorem y7 (T:Txt W)(D:Mdf W.K (W.cl 2) "begin_piece" "Draft.begin_piece" zW qo)(F1:jv W):jU W:=by
 unfold jU zG
 exact Zz (c:=2) (W:=W) (k:=2) D yC kA rfl (by decide) (by unfold jA;walk_at "need")
theorem WA (T:Txt W)(D:Mdf W.K (W.cl 2) "take" "Draft.take" j9 wD)(F1:wq W)(F2:vk W)(F3:wA W)(F4:jU W):yV W:=by
 unfold yV zY
 exact Zz (c:=2) (W:=W) (k:=3) D Wm Ve rfl (by decide) (by unfold vR;walk_at "need")
theorem Wc (T:Txt W)(D:Mdf W.K (W.cl 2) "ended" "Draft.ended" jF wa)(F1:jP W)(F2:jc W):vY W:=by
 unfold vY qy
 exact Zz (c:=2) (W:=W) (k:=43) D JJ Wu rfl (by decide) (by unfold vg;walk_at "need")
theorem KG (T:Txt W)(D:Df W.K W.mg "is_name" vC vO):ZQ W:=by
 unfold ZQ ju
 exact qC (W:=W) (k:=0) D Kq zbB rfl (by decide) (by unfold Qc;walk_at "need")
theorem We (T:Txt W)(D:Df W.K W.mg "is_own_name" jG wb)(F1:ZQ W):vZ W:=by
 unfold vZ z0
 exact qC (W:=W) (k:=1) D JK Wv rfl (by decide) (by unfold vh;walk_at "need")
theorem YF (T:Txt W)(D:Df W.K W.mg "token_of" xD xT)(F1:ZQ W)(F2:vZ W):Qj W:=by
 unfold Qj zR
 exact qC (W:=W) (k:=2) D Yl Kr rfl (by decide) (by unfold kX;walk_at "need")
theorem YG (T:Txt W)(D:Df W.K W.mg "token_at" xE xU)(F1:Qj W):Qk W:=by
 unfold Qk qM
 exact qC (W:=W) (k:=3) D Ym Ks rfl (by decide) (by unfold kY;walk_at "need")
theorem WC (T:Txt W)(D:Df W.K W.mg "sheet_read" wc wF)(F1:Zd W)(F2:wY W)(F3:yV W)(F4:vY W)(F5:Qk W):yW W:=by
 unfold yW qr
 exact qC (W:=W) (k:=44) D Wn Vf rfl (by decide) (by unfold vS;walk_at "need")
theorem Wf (T:Txt W)(D:Df W.K W.mg "_law_cell_at" jj jN):wK W:=by
 unfold wK zx
 exact qC (W:=W) (k:=0) D QH JV rfl (by decide) (by unfold xJ;walk_at "need")
theorem Vx (T:Txt W)(D:Df W.K W.mg "_law_mixed" we wG):xY W:=by
 unfold xY zK
 exact qC (W:=W) (k:=0) D Wo Vg rfl (by decide) (by unfold vT;walk_at "need")
theorem Vy (T:Txt W)(D:Df W.K W.mg "_law_names" wg wH)(F1:xY W):xZ W:=by
 unfold xZ zS
 exact qC (W:=W) (k:=1) D Wq Vh rfl (by decide) (by unfold vU;walk_at "need")
theorem YH (T:Txt W)(D:Df W.K W.mg "_law_rest" wQ xf)(F1:xY W):Ze W:=by
 unfold Ze jm
 exact qC (W:=W) (k:=1) D X7 Yr rfl (by decide) (by unfold yI;walk_at "need")
theorem KI (T:Txt W)(D:Df W.K W.mg "_law_put" xF xV):vE W:=by
 unfold vE zD
 exact qC (W:=W) (k:=0) D Yn Kt rfl (by decide) (by unfold kZ;walk_at "need")
theorem YI (T:Txt W)(D:Df W.K W.mg "_law_shut" wR xg)(F1:vE W):v5 W:=by
 unfold v5 qt
 exact qC (W:=W) (k:=1) D X8 Ys rfl (by decide) (by unfold yJ;walk_at "need")
theorem Vz (T:Txt W)(D:Df W.K W.mg "_law_signs" wj wI):yX W:=by
 unfold yX qN
 exact qC (W:=W) (k:=0) D Wr Vi rfl (by decide) (by unfold vV;walk_at "need")
theorem Wg (T:Txt W)(D:Df W.K W.mg "_law_literal" jk jO)(F1:yX W)(F2:vE W):vm W:=by
 unfold vm qd
 exact qC (W:=W) (k:=1) D QI JW rfl (by decide) (by unfold xK;walk_at "need")
theorem WD (T:Txt W)(D:Df W.K W.mg "_law_opened" jH wk):v7 W:=by
 unfold v7 z4
 exact qC (W:=W) (k:=0) D JO Ww rfl (by decide) (by unfold vi;walk_at "need")
theorem YJ (T:Txt W)(D:Df W.K W.mg "_law_word" wU xh)(F1:vE W)(F2:v5 W):Zf W:=by
 unfold Zf jn
 exact qC (W:=W) (k:=2) D X9 Yt rfl (by decide) (by unfold jW;walk_at "need")
theorem VA (T:Txt W)(D:Df W.K W.mg "_law_token" wm wJ)(F1:vm W)(F2:v7 W)(F3:Zf W):yY W:=by
 unfold yY qO
 exact qC (W:=W) (k:=3) D Ws Vj rfl (by decide) (by unfold xj;walk_at "need")
theorem YK (T:Txt W)(D:Df W.K W.mg "_law_made" wV xi)(F1:wK W)(F2:Ze W)(F3:xZ W)(F4:v5 W)(F5:yY W):Zg W:=by
 unfold Zg jo
 exact qC (W:=W) (k:=4) D Va Yu rfl (by decide) (by unfold yK;walk_at "need")
theorem vF (T:Txt W)(D:Df W.K W.mg "_law_written" qF qh):∀ n,OkX W.P W.w W.K W.mg W.base (n+1) "_law_written" qh (SpM W [.mv] (zm n))
 | 0=>by rw [zm];exact zaT D ye rfl
 | n+1=>by
  have Fr:=vF T D n
  rw [zm,show n+1+1=n+1+1 by lia]
  exact qC (W:=W) (k:=n+1) D ye JX rfl (by decide) (by unfold xM;walk_at "need")
theorem Wh (T:Txt W)(D:Df W.K W.mg "_law_written" qF qh):kN W:=vF T D 40
theorem zii (T:Txt W)(D:Df W.K W.mg "law" Yo Vb)(F1:yU W)(F2:jP W)(F3:vj W)(F4:yW W)(F5:wK W)(F6:xZ W)(F7:Zg W)(F8:kN W):OkF W.P W.w W.K W.mg W.base 124 "law" Vb (Ye W.K):=
 zhZ (W:=W) (k:=123) D zh2 (by decide) zjt (by unfold Xg;walk_at "need") λns h=>zfs ns h
end
end My
set_option maxHeartbeats 0
open PySem L2 L5 PySem.Spec PyProof.Rows
namespace My
noncomputable def clA:Nat->Addr
 | 0=>189
 | 1=>231
 | 2=>287
 | _=>0
noncomputable abbrev wd (P:Program)(w:World)(K:Le)(mg:La)(base:Heap):Wd:=⟨K,clA,mg,P,w,base⟩
theorem len0 {α:Type}{us:List α}(h:us.length=0):us=[]:=Gm.mp h
theorem len1 {α:Type}:∀ {us:List α},us.length=1->∃ a0,us=[a0]
 | [a0],_=>⟨a0,rfl⟩
theorem len2 {α:Type}:∀ {us:List α},us.length=2->∃ a0 a1,us=[a0,a1]
 | [a0,a1],_=>⟨a0,a1,rfl⟩
theorem len3 {α:Type}:∀ {us:List α},us.length=3->∃ a0 a1 a2,us=[a0,a1,a2]
 | [a0,a1,a2],_=>⟨a0,a1,a2,rfl⟩
theorem len4 {α:Type}:∀ {us:List α},us.length=4->∃ a0 a1 a2 a3,us=[a0,a1,a2,a3]
 | [a0,a1,a2,a3],_=>⟨a0,a1,a2,a3,rfl⟩
theorem len5 {α:Type}:∀ {us:List α},us.length=5->∃ a0 a1 a2 a3 a4,us=[a0,a1,a2,a3,a4]
 | [a0,a1,a2,a3,a4],_=>⟨a0,a1,a2,a3,a4,rfl⟩
theorem dfm {K:Le}{mg:La}{h:Heap}{x:Str}{st:Stmt}{ps:Lh}{f cd:Addr}{pm:Value}(X:K.In h)(G:h.Ns mainGlobals mg)
  (b:∀ (kV doc pm:Value) (an:Option Addr) (cdv ct:Value) (us:Lf),us.length=ps.length->bindArgs (PySem.W.fnOf x x (jq st) (ze st) (zc st) .none kV doc pm an cdv ct) ⟨us,[]⟩=pure (ps.zip us))
  (a:PySem.W.nsIn K mainGlobals x=some (some (.ref f))) (l:K.lookup f=some ⟨.type "function",none,.func (PySem.W.fnOf x x (jq st) (ze st) (zc st) .none .none .none pm none (.ref cd) .none),#[]⟩)
  (c:PySem.W.codeIn K (.ref cd) x=true) (k:PySem.W.keepIn K (.ref f)=true):Df K mg x st ps:=ziL X G b a l c k
theorem mdfm {K:Le}{C:Addr}{m x:Str}{st:Stmt}{ps:Lh}{f cd:Addr}{pm:Value}
  (b:∀ (kV doc pm:Value) (an:Option Addr) (cdv ct:Value) (us:Lf),us.length=ps.length->bindArgs (PySem.W.fnOf m x (jq st) (ze st) (zc st) .none kV doc pm an cdv ct) ⟨us,[]⟩=pure (ps.zip us))
  (l:K.lookup f=some ⟨.type "function",none,.func (PySem.W.fnOf m x (jq st) (ze st) (zc st) .none .none .none pm none (.ref cd) .none),#[]⟩)
  (c:PySem.W.codeIn K (.ref cd) x=true) (k:PySem.W.keepIn K (.ref f)=true) (cl:Cls K C) (mt:Meth K C m f):Mdf K C m x st ps:=⟨f,_,ZX l c k,(ZX l c k).binds b,cl,mt⟩
theorem cdfm {K:Le}{mg:La}{h:Heap}{C:Addr}{y x:Str}{st:Stmt}{ps:Lh}{f cd:Addr}{pm:Value}(X:K.In h)(G:h.Ns mainGlobals mg)
  (b:∀ (kV doc pm:Value) (an:Option Addr) (cdv ct:Value) (us:Lf),us.length=ps.length->bindArgs (PySem.W.fnOf "__init__" x (jq st) (ze st) (zc st) .none kV doc pm an cdv ct) ⟨us,[]⟩=pure (ps.zip us))
  (l:K.lookup f=some ⟨.type "function",none,.func (PySem.W.fnOf "__init__" x (jq st) (ze st) (zc st) .none .none .none pm none (.ref cd) .none),#[]⟩)
  (c:PySem.W.codeIn K (.ref cd) x=true) (k:PySem.W.keepIn K (.ref f)=true) (a:PySem.W.nsIn K mainGlobals y=some (some (.ref C))) (mk:Mk K C f):Cdf K mg C y x st ps:=⟨f,_,ZX l c k,(ZX l c k).binds b,mk,Ug X G a⟩
theorem zjC {α:Type}{a b:α}{as bs:List α}(h:a=b)(k:as=bs):a::as=b::bs:=by rw [h,k]
theorem all_ok {l:PySem.W.OpenLaw}{w:World}{h:Heap}{mg:La}{fa:Addr}(X:(KH w.params).In h)(G:h.Ns mainGlobals mg)(hfa:mg "law" = some (.ref fa)) :
  ∃ fd:FuncData,(∀ (s:Shared) (v:Value),BindsTo s fd ⟨[v],[]⟩ [("_law_script",v)])/\∀ base:Heap,(KH w.params).In base->base.Ns mainGlobals mg->FnOk l.prog w (KH w.params) mg base CX0 124 fa fd ["_law_script"] (Ye (KH w.params)):=by
 have C_Draft:Cls (KH w.params) 287:=⟨by kernel_rfl!,by kernel_rfl!,by kernel_rfl!,by kernel_rfl!⟩
 have C_Opened:Cls (KH w.params) 231:=⟨by kernel_rfl!,by kernel_rfl!,by kernel_rfl!,by kernel_rfl!⟩
 have C_Sheet:Cls (KH w.params) 189:=⟨by kernel_rfl!,by kernel_rfl!,by kernel_rfl!,by kernel_rfl!⟩
 have D_braced:Df (KH w.params) mg "braced" yw km:=dfm (f:=22) (pm:=(.str "sealpress.sheettexts" 187)) (cd:=21) X G (λ_ _ _ _ _ _ us hl=>by obtain⟨_,rfl⟩:=len1 hl;rfl) (by kernel_rfl!) (by kernel_rfl!) (by kernel_rfl!) (by kernel_rfl!)
 have D_literal_text:Df (KH w.params) mg "literal_text" jf jK:=dfm (f:=27) (pm:=(.str "sealpress.sheettexts" 187)) (cd:=26) X G (λ_ _ _ _ _ _ us hl=>by obtain⟨_,rfl⟩:=len1 hl;rfl) (by kernel_rfl!) (by kernel_rfl!) (by kernel_rfl!) (by kernel_rfl!)
 have D_else_text:Df (KH w.params) mg "else_text" jg qI:=dfm (f:=34) (pm:=(.str "sealpress.sheettexts" 187)) (cd:=33) X G (λ_ _ _ _ _ _ us hl=>by obtain⟨_,rfl⟩:=len1 hl;rfl) (by kernel_rfl!) (by kernel_rfl!) (by kernel_rfl!) (by kernel_rfl!)
 have D_piece_text:Df (KH w.params) mg "piece_text" qJ qU:=dfm (f:=41) (pm:=(.str "sealpress.sheettexts" 187)) (cd:=40) X G (λ_ _ _ _ _ _ us hl=>by obtain⟨_,rfl⟩:=len1 hl;rfl) (by kernel_rfl!) (by kernel_rfl!) (by kernel_rfl!) (by kernel_rfl!)
 have D_pieces_text:Df (KH w.params) mg "pieces_text" qV zT:=dfm (f:=46) (pm:=(.str "sealpress.sheettexts" 187)) (cd:=45) X G (λ_ _ _ _ _ _ us hl=>by obtain⟨_,rfl⟩:=len1 hl;rfl) (by kernel_rfl!) (by kernel_rfl!) (by kernel_rfl!) (by kernel_rfl!)
 have D_sheet_text:Df (KH w.params) mg "sheet_text" j8 wC:=dfm (f:=53) (pm:=(.str "sealpress.sheettexts" 187)) (cd:=52) X G (λ_ _ _ _ _ _ us hl=>by obtain⟨_,rfl⟩:=len1 hl;rfl) (by kernel_rfl!) (by kernel_rfl!) (by kernel_rfl!) (by kernel_rfl!)
 have D_copied:Df (KH w.params) mg "copied" vy xn:=dfm (f:=140) (pm:=(.str "sealpress.pieces" 351)) (cd:=139) X G (λ_ _ _ _ _ _ us hl=>by obtain⟨_,rfl⟩:=len1 hl;rfl) (by kernel_rfl!) (by kernel_rfl!) (by kernel_rfl!) (by kernel_rfl!)
 have D_all_in:Df (KH w.params) mg "all_in" vA xp:=dfm (f:=147) (pm:=(.str "sealpress.pieces" 351)) (cd:=146) X G (λ_ _ _ _ _ _ us hl=>by obtain⟨_,rfl⟩:=len1 hl;rfl) (by kernel_rfl!) (by kernel_rfl!) (by kernel_rfl!) (by kernel_rfl!)
 have D_is_name:Df (KH w.params) mg "is_name" vC vO:=dfm (f:=152) (pm:=(.str "sealpress.signs" 369)) (cd:=151) X G (λ_ _ _ _ _ _ us hl=>by obtain⟨_,rfl⟩:=len1 hl;rfl) (by kernel_rfl!) (by kernel_rfl!) (by kernel_rfl!) (by kernel_rfl!)
 have D_need_text:Df (KH w.params) mg "need_text" wO xc:=dfm (f:=159) (pm:=(.str "sealpress.signs" 369)) (cd:=158) X G (λ_ _ _ _ _ _ us hl=>by obtain⟨_,rfl⟩:=len1 hl;rfl) (by kernel_rfl!) (by kernel_rfl!) (by kernel_rfl!) (by kernel_rfl!)
 have D_Sheet___init__:Cdf (KH w.params) mg 189 "Sheet" "Sheet.__init__" qD q9:=cdfm (f:=181) (pm:=(.str "sealpress.sheets" 392)) (cd:=180) X G (λ_ _ _ _ _ _ us hl=>by obtain⟨_,_,_,rfl⟩:=len3 hl;rfl) (by kernel_rfl!) (by kernel_rfl!) (by kernel_rfl!) (by kernel_rfl!) ⟨by kernel_rfl!,by kernel_rfl!,by kernel_rfl!,by kernel_rfl!⟩
 have D_Sheet_blocks:Mdf (KH w.params) 189 "blocks" "Sheet.blocks" jh jL:=mdfm (f:=186) (pm:=(.str "sealpress.sheets" 392)) (cd:=185) (λ_ _ _ _ _ _ us hl=>by obtain⟨_,rfl⟩:=len1 hl;rfl) (by kernel_rfl!) (by kernel_rfl!) (by kernel_rfl!) C_Sheet ⟨by kernel_rfl!,by kernel_rfl!,by kernel_rfl!⟩
 have D_Opened___init__:Cdf (KH w.params) mg 231 "Opened" "Opened.__init__" qk qK:=cdfm (f:=207) (pm:=(.str "sealpress.sheets" 392)) (cd:=206) X G (λ_ _ _ _ _ _ us hl=>by obtain⟨_,_,_,rfl⟩:=len3 hl;rfl) (by kernel_rfl!) (by kernel_rfl!) (by kernel_rfl!) (by kernel_rfl!) ⟨by kernel_rfl!,by kernel_rfl!,by kernel_rfl!,by kernel_rfl!⟩
 have D_Opened_add_piece:Mdf (KH w.params) 231 "add_piece" "Opened.add_piece" z8 qA:=mdfm (f:=214) (pm:=(.str "sealpress.sheets" 392)) (cd:=213) (λ_ _ _ _ _ _ us hl=>by obtain⟨_,_,rfl⟩:=len2 hl;rfl) (by kernel_rfl!) (by kernel_rfl!) (by kernel_rfl!) C_Opened ⟨by kernel_rfl!,by kernel_rfl!,by kernel_rfl!⟩
 have D_Opened_takes_else:Mdf (KH w.params) 231 "takes_else" "Opened.takes_else" zV ql:=mdfm (f:=221) (pm:=(.str "sealpress.sheets" 392)) (cd:=220) (λ_ _ _ _ _ _ us hl=>by obtain⟨_,rfl⟩:=len1 hl;rfl) (by kernel_rfl!) (by kernel_rfl!) (by kernel_rfl!) C_Opened ⟨by kernel_rfl!,by kernel_rfl!,by kernel_rfl!⟩
 have D_Opened_whole:Mdf (KH w.params) 231 "whole" "Opened.whole" ji jM:=mdfm (f:=228) (pm:=(.str "sealpress.sheets" 392)) (cd:=227) (λ_ _ _ _ _ _ us hl=>by obtain⟨_,rfl⟩:=len1 hl;rfl) (by kernel_rfl!) (by kernel_rfl!) (by kernel_rfl!) C_Opened ⟨by kernel_rfl!,by kernel_rfl!,by kernel_rfl!⟩
 have D_Draft___init__:Cdf (KH w.params) mg 287 "Draft" "Draft.__init__" qE ja:=cdfm (f:=249) (pm:=(.str "sealpress.sheets" 392)) (cd:=248) X G (λ_ _ _ _ _ _ us hl=>by obtain⟨_,rfl⟩:=len1 hl;rfl) (by kernel_rfl!) (by kernel_rfl!) (by kernel_rfl!) (by kernel_rfl!) ⟨by kernel_rfl!,by kernel_rfl!,by kernel_rfl!,by kernel_rfl!⟩
 have D_Draft_is_outside:Mdf (KH w.params) 287 "is_outside" "Draft.is_outside" z9 qB:=mdfm (f:=256) (pm:=(.str "sealpress.sheets" 392)) (cd:=255) (λ_ _ _ _ _ _ us hl=>by obtain⟨_,rfl⟩:=len1 hl;rfl) (by kernel_rfl!) (by kernel_rfl!) (by kernel_rfl!) C_Draft ⟨by kernel_rfl!,by kernel_rfl!,by kernel_rfl!⟩
 have D_Draft_can_stand:Mdf (KH w.params) 287 "can_stand" "Draft.can_stand" qm qL:=mdfm (f:=263) (pm:=(.str "sealpress.sheets" 392)) (cd:=262) (λ_ _ _ _ _ _ us hl=>by obtain⟨_,_,_,rfl⟩:=len3 hl;rfl) (by kernel_rfl!) (by kernel_rfl!) (by kernel_rfl!) C_Draft ⟨by kernel_rfl!,by kernel_rfl!,by kernel_rfl!⟩
 have D_Draft_begin_piece:Mdf (KH w.params) 287 "begin_piece" "Draft.begin_piece" zW qo:=mdfm (f:=270) (pm:=(.str "sealpress.sheets" 392)) (cd:=269) (λ_ _ _ _ _ _ us hl=>by obtain⟨_,_,_,rfl⟩:=len3 hl;rfl) (by kernel_rfl!) (by kernel_rfl!) (by kernel_rfl!) C_Draft ⟨by kernel_rfl!,by kernel_rfl!,by kernel_rfl!⟩
 have D_Draft_take:Mdf (KH w.params) 287 "take" "Draft.take" j9 wD:=mdfm (f:=277) (pm:=(.str "sealpress.sheets" 392)) (cd:=276) (λ_ _ _ _ _ _ us hl=>by obtain⟨_,_,_,rfl⟩:=len3 hl;rfl) (by kernel_rfl!) (by kernel_rfl!) (by kernel_rfl!) C_Draft ⟨by kernel_rfl!,by kernel_rfl!,by kernel_rfl!⟩
 have D_Draft_ended:Mdf (KH w.params) 287 "ended" "Draft.ended" jF wa:=mdfm (f:=284) (pm:=(.str "sealpress.sheets" 392)) (cd:=283) (λ_ _ _ _ _ _ us hl=>by obtain⟨_,_,rfl⟩:=len2 hl;rfl) (by kernel_rfl!) (by kernel_rfl!) (by kernel_rfl!) C_Draft ⟨by kernel_rfl!,by kernel_rfl!,by kernel_rfl!⟩
 have D_is_own_name:Df (KH w.params) mg "is_own_name" jG wb:=dfm (f:=298) (pm:=(.str "sealpress.sheets" 392)) (cd:=297) X G (λ_ _ _ _ _ _ us hl=>by obtain⟨_,rfl⟩:=len1 hl;rfl) (by kernel_rfl!) (by kernel_rfl!) (by kernel_rfl!) (by kernel_rfl!)
 have D_token_of:Df (KH w.params) mg "token_of" xD xT:=dfm (f:=305) (pm:=(.str "sealpress.sheets" 392)) (cd:=304) X G (λ_ _ _ _ _ _ us hl=>by obtain⟨_,rfl⟩:=len1 hl;rfl) (by kernel_rfl!) (by kernel_rfl!) (by kernel_rfl!) (by kernel_rfl!)
 have D_token_at:Df (KH w.params) mg "token_at" xE xU:=dfm (f:=312) (pm:=(.str "sealpress.sheets" 392)) (cd:=311) X G (λ_ _ _ _ _ _ us hl=>by obtain⟨_,_,rfl⟩:=len2 hl;rfl) (by kernel_rfl!) (by kernel_rfl!) (by kernel_rfl!) (by kernel_rfl!)
 have D_sheet_read:Df (KH w.params) mg "sheet_read" wc wF:=dfm (f:=319) (pm:=(.str "sealpress.sheets" 392)) (cd:=318) X G (λ_ _ _ _ _ _ us hl=>by obtain⟨_,rfl⟩:=len1 hl;rfl) (by kernel_rfl!) (by kernel_rfl!) (by kernel_rfl!) (by kernel_rfl!)
 have D__law_cell_at:Df (KH w.params) mg "_law_cell_at" jj jN:=dfm (f:=326) (pm:=(.str "law_sealpress_k56_whole_there_and_back" 631)) (cd:=325) X G (λ_ _ _ _ _ _ us hl=>by obtain⟨_,_,rfl⟩:=len2 hl;rfl) (by kernel_rfl!) (by kernel_rfl!) (by kernel_rfl!) (by kernel_rfl!)
 have D__law_mixed:Df (KH w.params) mg "_law_mixed" we wG:=dfm (f:=333) (pm:=(.str "law_sealpress_k56_whole_there_and_back" 631)) (cd:=332) X G (λ_ _ _ _ _ _ us hl=>by obtain⟨_,_,rfl⟩:=len2 hl;rfl) (by kernel_rfl!) (by kernel_rfl!) (by kernel_rfl!) (by kernel_rfl!)
 have D__law_rest:Df (KH w.params) mg "_law_rest" wQ xf:=dfm (f:=340) (pm:=(.str "law_sealpress_k56_whole_there_and_back" 631)) (cd:=339) X G (λ_ _ _ _ _ _ us hl=>by obtain⟨_,rfl⟩:=len1 hl;rfl) (by kernel_rfl!) (by kernel_rfl!) (by kernel_rfl!) (by kernel_rfl!)
 have D__law_signs:Df (KH w.params) mg "_law_signs" wj wI:=dfm (f:=347) (pm:=(.str "law_sealpress_k56_whole_there_and_back" 631)) (cd:=346) X G (λ_ _ _ _ _ _ us hl=>by obtain rfl:=len0 hl;rfl) (by kernel_rfl!) (by kernel_rfl!) (by kernel_rfl!) (by kernel_rfl!)
 have D__law_names:Df (KH w.params) mg "_law_names" wg wH:=dfm (f:=354) (pm:=(.str "law_sealpress_k56_whole_there_and_back" 631)) (cd:=353) X G (λ_ _ _ _ _ _ us hl=>by obtain⟨_,_,rfl⟩:=len2 hl;rfl) (by kernel_rfl!) (by kernel_rfl!) (by kernel_rfl!) (by kernel_rfl!)
 have D__law_put:Df (KH w.params) mg "_law_put" xF xV:=dfm (f:=361) (pm:=(.str "law_sealpress_k56_whole_there_and_back" 631)) (cd:=360) X G (λ_ _ _ _ _ _ us hl=>by obtain⟨_,_,rfl⟩:=len2 hl;rfl) (by kernel_rfl!) (by kernel_rfl!) (by kernel_rfl!) (by kernel_rfl!)
 have D__law_shut:Df (KH w.params) mg "_law_shut" wR xg:=dfm (f:=368) (pm:=(.str "law_sealpress_k56_whole_there_and_back" 631)) (cd:=367) X G (λ_ _ _ _ _ _ us hl=>by obtain⟨_,rfl⟩:=len1 hl;rfl) (by kernel_rfl!) (by kernel_rfl!) (by kernel_rfl!) (by kernel_rfl!)
 have D__law_literal:Df (KH w.params) mg "_law_literal" jk jO:=dfm (f:=375) (pm:=(.str "law_sealpress_k56_whole_there_and_back" 631)) (cd:=374) X G (λ_ _ _ _ _ _ us hl=>by obtain⟨_,_,rfl⟩:=len2 hl;rfl) (by kernel_rfl!) (by kernel_rfl!) (by kernel_rfl!) (by kernel_rfl!)
 have D__law_opened:Df (KH w.params) mg "_law_opened" jH wk:=dfm (f:=382) (pm:=(.str "law_sealpress_k56_whole_there_and_back" 631)) (cd:=381) X G (λ_ _ _ _ _ _ us hl=>by obtain⟨_,_,_,_,rfl⟩:=len4 hl;rfl) (by kernel_rfl!) (by kernel_rfl!) (by kernel_rfl!) (by kernel_rfl!)
 have D__law_word:Df (KH w.params) mg "_law_word" wU xh:=dfm (f:=387) (pm:=(.str "law_sealpress_k56_whole_there_and_back" 631)) (cd:=386) X G (λ_ _ _ _ _ _ us hl=>by obtain⟨_,_,_,_,rfl⟩:=len4 hl;rfl) (by kernel_rfl!) (by kernel_rfl!) (by kernel_rfl!) (by kernel_rfl!)
 have D__law_token:Df (KH w.params) mg "_law_token" wm wJ:=dfm (f:=394) (pm:=(.str "law_sealpress_k56_whole_there_and_back" 631)) (cd:=393) X G (λ_ _ _ _ _ _ us hl=>by obtain⟨_,_,_,_,_,rfl⟩:=len5 hl;rfl) (by kernel_rfl!) (by kernel_rfl!) (by kernel_rfl!) (by kernel_rfl!)
 have D__law_made:Df (KH w.params) mg "_law_made" wV xi:=dfm (f:=401) (pm:=(.str "law_sealpress_k56_whole_there_and_back" 631)) (cd:=400) X G (λ_ _ _ _ _ _ us hl=>by obtain⟨_,_,rfl⟩:=len2 hl;rfl) (by kernel_rfl!) (by kernel_rfl!) (by kernel_rfl!) (by kernel_rfl!)
 have D__law_written:Df (KH w.params) mg "_law_written" qF qh:=dfm (f:=408) (pm:=(.str "law_sealpress_k56_whole_there_and_back" 631)) (cd:=407) X G (λ_ _ _ _ _ _ us hl=>by obtain⟨_,rfl⟩:=len1 hl;rfl) (by kernel_rfl!) (by kernel_rfl!) (by kernel_rfl!) (by kernel_rfl!)
 have D_law:Df (KH w.params) mg "law" Yo Vb:=dfm (f:=415) (pm:=(.str "law_sealpress_k56_whole_there_and_back" 631)) (cd:=414) X G (λ_ _ _ _ _ _ us hl=>by obtain⟨_,rfl⟩:=len1 hl;rfl) (by kernel_rfl!) (by kernel_rfl!) (by kernel_rfl!) (by kernel_rfl!)
 have xl_LITERAL_BRACES:(KH w.params).lookup 15=some ⟨.type "dict",none,.dict #[(en w.params "{" 189 (.str "{(}" 190)),(en w.params "}" 191 (.str "{)}" 192))] 2,#[]⟩:=by kernel_rfl!
 have e_SIGNS:Str.ofString " !\"#$&'()*+,-./0123456789:;<=>?@ABCDEFGHIJKLMNOPQRSTUVWXYZ[\\]^_`abcdefghijklmnopqrstuvwxyz{|}~" = S [32,33,34,35,36,38,39,40,41,42,43,44,45,46,47,48,49,50,51,52,53,54,55,56,57,58,59,60,61,62,63,64,65,66,67,68,69,70,71,72,73,74,75,76,77,78,79,80,81,82,83,84,85,86,87,88,89,90,91,92,93,94,95,96,97,98,99,100,101,102,103,104,105,106,107,108,109,110,111,112,113,114,115,116,117,118,119,120,121,122,123,124,125,126]:=by decide +kernel
 have e_LETTERS:Str.ofString "abcdefghijklmnopqrstuvwxyz" = S [97,98,99,100,101,102,103,104,105,106,107,108,109,110,111,112,113,114,115,116,117,118,119,120,121,122]:=by decide +kernel
 have xl_160:(KH w.params).lookup 160=some ⟨.type "tuple",none,.seq #[(.str "each" 398),(.str "if" 399),(.str "else" 400),(.str "end" 401),(.str "block" 402),(.str "elder" 403),(.str "draw" 404),(.str "over" 405)] 0,#[]⟩:=by kernel_rfl!
 have xs_160:∀ F:Hp,SqT (KH w.params) F 160 [.str (S [101,97,99,104]),.str (S [105,102]),.str (S [101,108,115,101]),.str (S [101,110,100]),.str (S [98,108,111,99,107]),.str (S [101,108,100,101,114]),.str (S [100,114,97,119]),.str (S [111,118,101,114])]:=λ_=>.inr ⟨_,_,_,xl_160,rfl,rfl,by decide,by repeat' (first | exact .nil | refine .cons ⟨_,rfl⟩ ?_)⟩
 have xl_162:(KH w.params).lookup 162=some ⟨.type "tuple",none,.seq #[(.str "lit" 408),(.str "{" 409)] 0,#[]⟩:=by kernel_rfl!
 have xs_162:∀ F:Hp,SqT (KH w.params) F 162 [.str (S [108,105,116]),.str (S [123])]:=λ_=>.inr ⟨_,_,_,xl_162,rfl,rfl,by decide,by repeat' (first | exact .nil | refine .cons ⟨_,rfl⟩ ?_)⟩
 have xl_163:(KH w.params).lookup 163=some ⟨.type "tuple",none,.seq #[(.str "lit" 411),(.str "}" 412)] 0,#[]⟩:=by kernel_rfl!
 have xs_163:∀ F:Hp,SqT (KH w.params) F 163 [.str (S [108,105,116]),.str (S [125])]:=λ_=>.inr ⟨_,_,_,xl_163,rfl,rfl,by decide,by repeat' (first | exact .nil | refine .cons ⟨_,rfl⟩ ?_)⟩
 have xl_164:(KH w.params).lookup 164=some ⟨.type "tuple",none,.seq #[(.str "else" 414)] 0,#[]⟩:=by kernel_rfl!
 have xs_164:∀ F:Hp,SqT (KH w.params) F 164 [.str (S [101,108,115,101])]:=λ_=>.inr ⟨_,_,_,xl_164,rfl,rfl,by decide,by repeat' (first | exact .nil | refine .cons ⟨_,rfl⟩ ?_)⟩
 have xl_165:(KH w.params).lookup 165=some ⟨.type "tuple",none,.seq #[(.str "end" 416)] 0,#[]⟩:=by kernel_rfl!
 have xs_165:∀ F:Hp,SqT (KH w.params) F 165 [.str (S [101,110,100])]:=λ_=>.inr ⟨_,_,_,xl_165,rfl,rfl,by decide,by repeat' (first | exact .nil | refine .cons ⟨_,rfl⟩ ?_)⟩
 have xl_166:(KH w.params).lookup 166=some ⟨.type "tuple",none,.seq #[(.str "elder" 418)] 0,#[]⟩:=by kernel_rfl!
 have xs_166:∀ F:Hp,SqT (KH w.params) F 166 [.str (S [101,108,100,101,114])]:=λ_=>.inr ⟨_,_,_,xl_166,rfl,rfl,by decide,by repeat' (first | exact .nil | refine .cons ⟨_,rfl⟩ ?_)⟩
 have xl_LONE_TOKENS:(KH w.params).lookup 161=some ⟨.type "dict",none,.dict #[(en w.params "(" 407 (.ref 162)),(en w.params ")" 410 (.ref 163)),(en w.params "else" 413 (.ref 164)),(en w.params "end" 415 (.ref 165)),(en w.params "elder" 417 (.ref 166))] 5,#[]⟩:=by kernel_rfl!
 have xl_167:(KH w.params).lookup 167=some ⟨.type "tuple",none,.seq #[(.str "each" 425),(.str "if" 426),(.str "block" 427)] 0,#[]⟩:=by kernel_rfl!
 have xs_167:∀ F:Hp,SqT (KH w.params) F 167 [.str (S [101,97,99,104]),.str (S [105,102]),.str (S [98,108,111,99,107])]:=λ_=>.inr ⟨_,_,_,xl_167,rfl,rfl,by decide,by repeat' (first | exact .nil | refine .cons ⟨_,rfl⟩ ?_)⟩
 refine zgL D_law hfa (λ_ _ _ _ _ _ s v=>.of_eq rfl) λbase=>?_
 have T:Txt (wd l.prog w (KH w.params) mg base):=⟨⟨15,[(.inr (S [123]),.str (S [123,40,125])),(.inr (S [125]),.str (S [123,41,125]))],Ug (v:=.ref 15) X G (by kernel_rfl!),⟨by decide,_,_,_,xl_LITERAL_BRACES,⟨rfl,rfl,rfl⟩,rfl,by repeat' (first | exact EntK.nil | refine EntK.cons rfl rfl rfl ?_ | refine EntK.cons rfl rfl ⟨_,rfl⟩ ?_),by decide +kernel⟩,⟨_,_,rfl,⟨rfl,λF=>⟨rfl,by decide⟩⟩,⟨_,_,rfl,⟨rfl,λF=>⟨rfl,by decide⟩⟩,rfl⟩⟩⟩,⟨rfl,.str (S [32,33,34,35,36,38,39,40,41,42,43,44,45,46,47,48,49,50,51,52,53,54,55,56,57,58,59,60,61,62,63,64,65,66,67,68,69,70,71,72,73,74,75,76,77,78,79,80,81,82,83,84,85,86,87,88,89,90,91,92,93,94,95,96,97,98,99,100,101,102,103,104,105,106,107,108,109,110,111,112,113,114,115,116,117,118,119,120,121,122,123,124,125,126]),λ_=>⟨rfl,by decide⟩,.str (Str.ofString " !\"#$&'()*+,-./0123456789:;<=>?@ABCDEFGHIJKLMNOPQRSTUVWXYZ[\\]^_`abcdefghijklmnopqrstuvwxyz{|}~") 371,Ug X G (by kernel_rfl!),⟨_,by rw [e_SIGNS]⟩⟩,⟨rfl,.str (S [97,98,99,100,101,102,103,104,105,106,107,108,109,110,111,112,113,114,115,116,117,118,119,120,121,122]),λ_=>⟨rfl,by decide⟩,.str (Str.ofString "abcdefghijklmnopqrstuvwxyz") 373,Ug X G (by kernel_rfl!),⟨_,by rw [e_LETTERS]⟩⟩,⟨rfl,.int 8,λ_=>rfl,.int 8 375,Ug X G (by kernel_rfl!),⟨_,rfl⟩⟩,⟨rfl,.int 2000,λ_=>rfl,.int 2000 394,Ug X G (by kernel_rfl!),⟨_,rfl⟩⟩,⟨rfl,.int 12,λ_=>rfl,.int 12 396,Ug X G (by kernel_rfl!),⟨_,rfl⟩⟩,⟨rfl,.ref 160,λF=>⟨_,_,rfl,xs_160 F,rfl,⟨_,_,rfl,⟨rfl,by decide⟩,⟨_,_,rfl,⟨rfl,by decide⟩,⟨_,_,rfl,⟨rfl,by decide⟩,⟨_,_,rfl,⟨rfl,by decide⟩,⟨_,_,rfl,⟨rfl,by decide⟩,⟨_,_,rfl,⟨rfl,by decide⟩,⟨_,_,rfl,⟨rfl,by decide⟩,⟨_,_,rfl,⟨rfl,by decide⟩,rfl⟩⟩⟩⟩⟩⟩⟩⟩⟩,_,Ug (v:=.ref 160) X G (by kernel_rfl!),rfl⟩,⟨161,[(.inr (S [40]),.ref 162),(.inr (S [41]),.ref 163),(.inr (S [101,108,115,101]),.ref 164),(.inr (S [101,110,100]),.ref 165),(.inr (S [101,108,100,101,114]),.ref 166)],Ug (v:=.ref 161) X G (by kernel_rfl!),⟨by decide,_,_,_,xl_LONE_TOKENS,⟨rfl,rfl,rfl⟩,rfl,by repeat' (first | exact EntK.nil | refine EntK.cons rfl rfl rfl ?_ | refine EntK.cons rfl rfl ⟨_,rfl⟩ ?_),by decide +kernel⟩,⟨_,_,rfl,⟨rfl,λF=>⟨_,_,rfl,xs_162 F,rfl,⟨_,_,rfl,⟨rfl,by decide⟩,⟨_,_,rfl,⟨rfl,by decide⟩,rfl⟩⟩⟩⟩,⟨_,_,rfl,⟨rfl,λF=>⟨_,_,rfl,xs_163 F,rfl,⟨_,_,rfl,⟨rfl,by decide⟩,⟨_,_,rfl,⟨rfl,by decide⟩,rfl⟩⟩⟩⟩,⟨_,_,rfl,⟨rfl,λF=>⟨_,_,rfl,xs_164 F,rfl,⟨_,_,rfl,⟨rfl,by decide⟩,rfl⟩⟩⟩,⟨_,_,rfl,⟨rfl,λF=>⟨_,_,rfl,xs_165 F,rfl,⟨_,_,rfl,⟨rfl,by decide⟩,rfl⟩⟩⟩,⟨_,_,rfl,⟨rfl,λF=>⟨_,_,rfl,xs_166 F,rfl,⟨_,_,rfl,⟨rfl,by decide⟩,rfl⟩⟩⟩,rfl⟩⟩⟩⟩⟩⟩,⟨rfl,.ref 167,λF=>⟨_,_,rfl,xs_167 F,rfl,⟨_,_,rfl,⟨rfl,by decide⟩,⟨_,_,rfl,⟨rfl,by decide⟩,⟨_,_,rfl,⟨rfl,by decide⟩,rfl⟩⟩⟩⟩,_,Ug (v:=.ref 167) X G (by kernel_rfl!),rfl⟩,u5 X G (by kernel_rfl!),u5 X G (by kernel_rfl!),u5 X G (by kernel_rfl!),u5 X G (by kernel_rfl!),u5 X G (by kernel_rfl!),u5 X G (by kernel_rfl!),u5 X G (by kernel_rfl!),u5 X G (by kernel_rfl!),u5 X G (by kernel_rfl!),u5 X G (by kernel_rfl!),⟨C_Sheet,by show _=_;kernel_rfl!⟩,⟨C_Sheet,by show _=_;kernel_rfl!⟩,⟨C_Opened,by show _=_;kernel_rfl!⟩,⟨C_Opened,by show _=_;kernel_rfl!⟩,⟨C_Opened,by show _=_;kernel_rfl!⟩,⟨C_Draft,by show _=_;kernel_rfl!⟩,⟨C_Draft,by show _=_;kernel_rfl!⟩,⟨C_Draft,by show _=_;kernel_rfl!⟩⟩
 have qG:=zbI T D_braced
 have qa:=QJ T D_literal_text
 have zh:=J9 T D_pieces_text D_else_text D_piece_text qG qa
 have zO:=Wz T D_sheet_text qG zh
 have qb:=zbJ T D_copied
 have zF:=ZR T D_Sheet___init__ qb
 have qq:=zbK T D_all_in
 have zP:=QK T D_Sheet_blocks qb qq
 have jl:=Vw T D_need_text
 have zy:=Zh T D_Opened___init__
 have zQ:=ZS T D_Draft___init__ zy
 have zC:=kB T D_Opened_add_piece
 have zq:=yZ T D_Opened_takes_else
 have qc:=QL T D_Opened_whole zq
 have zp:=kC T D_Draft_is_outside
 have zr:=Zi T D_Draft_can_stand zq zp
 have zG:=y7 T D_Draft_begin_piece zy
 have zY:=WA T D_Draft_take zC qc zr zG
 have qy:=Wc T D_Draft_ended zF zp
 have ju:=KG T D_is_name
 have z0:=We T D_is_own_name ju
 have zR:=YF T D_token_of ju z0
 have qM:=YG T D_token_at zR
 have qr:=WC T D_sheet_read jl zQ zY qy qM
 have zx:=Wf T D__law_cell_at
 have zK:=Vx T D__law_mixed
 have zS:=Vy T D__law_names zK
 have jm:=YH T D__law_rest zK
 have zD:=KI T D__law_put
 have qt:=YI T D__law_shut zD
 have qN:=Vz T D__law_signs
 have qd:=Wg T D__law_literal qN zD
 have z4:=WD T D__law_opened
 have jn:=YJ T D__law_word zD qt
 have qO:=VA T D__law_token qd z4 jn
 have jo:=YK T D__law_made zx jm zS qt qO
 have zm:=Wh T D__law_written
 have zfY:=zii T D_law zO zF zP qr zx zS jo zm
 exact zfY
theorem walk {l:PySem.W.OpenLaw}{q:Program}{loose:Lh}{XP:(La)->Heap->Prop}{YP:World->Heap->Prop}{d:DefRec}{K:Params->Le}(hn:l.most=some 63)(hdf:d.params.defaults=[])
  (hY:∀ (w:World) (h:Heap),YP w h->(K w.params).In h)
  (F:∀ (w:World) (mg:La) (fa:Addr) (h:Heap),(K w.params).In h->h.Ns mainGlobals mg->mg d.name=some (.ref fa) ->
   ∃ fd:FuncData,(∀ (s:Shared) (u:Value),BindsTo s fd ⟨[u],[]⟩ [("_law_script",u)])/\∀ base:Heap,(K w.params).In base->base.Ns mainGlobals mg->FnOk l.prog w (K w.params) mg base CX0 124 fa fd ["_law_script"] (Ye (K w.params))) :
  PySem.W.WalkO q loose XP YP l.row.toRowW d [] (λf vs=>PySem.call f vs):=
 L2.zeh (n:=63) (k:=124) (x:="_law_script") (CX:=λ_=>CX0) (sp:=λw=>Ye (K w.params)) hn (by decide) hdf ⟨rfl,by decide,by decide,rfl⟩ hY F (λ_ _ a ns hl _ hS=>⟨a,ns,rfl,hS,hl,λ_=>rfl⟩) λ_ _ _ _ _ z=>z
end My
open PySem PySem.W PyProof.Rows
set_option maxRecDepth 100000 in
set_option maxHeartbeats 0 in
theorem PySem.Challenge.cw_sealpress_k56_whole_there_and_back_holds : PySem.Challenge.rw_sealpress_k56_whole_there_and_back.Holds := by
  w_on; o_law
  refine PySem.W.holds_open (q := My.qvw) (loose := My.loose0) (Xt := My.Xt0) (XP := XL My.qvw []) (Yf := Hook.obs My.HK) (Ya := Hook.val My.HK) (YP := Hook.says My.HK) (N := 3445) My.left (Hook.of My.HK) (Hook.keeps My.HK) (λs e => xl_of s (Bool.and_eq_true_iff.mp e).1) XL.keeps (by rfl) (by rfl) (by rfl) (λs e => recFacts_of (Bool.and_eq_true_iff.mp e).2) (by rfl) (by first | assumption | decide +kernel) (by decide +kernel) ⟨rfl, rfl, rfl, rfl, rfl, by decide +kernel⟩ ?hw ?hc
  (case hw => w_witness2)
  exact My.walk (l := PySem.Challenge.rw_sealpress_k56_whole_there_and_back) rfl rfl (λw h Y => PySem.W.kIn_of Y) (λw mg fa h KX G hmg => My.all_ok KX G hmg)
