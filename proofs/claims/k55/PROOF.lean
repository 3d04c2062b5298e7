import PyProof.Rows.All
import Wide.All
import OpenK.AllK
import Wide.FinOn
import Lean
import PyProof.EqAt
import PyProof.EqKinds
import PyProof.TupleCall
import PyProof.Draws
import PyProof.EnumMake
import PyProof.NeKinds
import PyProof.ZipIter
import PyProof.Rows.ZipGen
import PyProof.ReprRoads
import KE.KRevIter
import PyProof.StrLawsReplace
import PyProof.ToksMono
import PyProof.SliceList
import PySem.Challenge.RW_sealpress_k55_braces_as_signs
set_option linter.all false
set_option genSizeOf false
set_option backward.match.sparseCases false
set_option compiler.extract_closed false
set_option bootstrap.genMatcherCode false
abbrev La:=PySem.Str->Option PySem.Value
abbrev Lc:=List Nat
abbrev Ld:=List PySem.Addr
abbrev Le:=PySem.W.Frag
abbrev Lf:=List PySem.Value
abbrev Lg:=List PySem.Expr
abbrev Lh:=List PySem.Str
abbrev ua:=@List.length_cons
abbrev ub:=@List.length_append
abbrev uc:=@List.append_assoc
abbrev ud:=@List.length_nil
abbrev ue:=@List.size_toArray
abbrev uf:=@Nat.le_refl
abbrev ug:=@List.length_map
abbrev uh:=@List.mem_cons
abbrev ui:=@List.mem_cons_self
abbrev uj:=@List.mem_singleton
abbrev uk:=@List.mem_cons_of_mem
abbrev um:=@List.getElem?_eq_getElem
abbrev uo:=@decide_eq_false
abbrev uq:=@if_neg
abbrev ur:=@List.map_cons
abbrev uu:=@Option.map_eq_some_iff
abbrev uv:=@List.getElem?_map
abbrev uw:=@List.append_nil
abbrev ux:=@Bool.false_ne_true
abbrev uy:=@List.mem_append_right
abbrev uz:=@List.perm_append_comm
abbrev uA:=@if_pos
abbrev uB:=@List.perm_middle
abbrev uC:=@List.mem_append
abbrev uD:=@List.map_append
abbrev uE:=@Nat.lt_of_lt_of_le
abbrev uF:=@Nat.zero_le
abbrev uG:=@Option.some.inj
abbrev uH:=@List.mem_of_getElem?
abbrev uI:=@Bool.and_eq_true
abbrev uJ:=@Option.bind_some
abbrev uK:=@of_decide_eq_true
abbrev uL:=@List.getElem?_append_right
abbrev uM:=@List.getElem?_eq_some_iff
abbrev uN:=@Nat.le_trans
abbrev uO:=@List.getElem?_set_self
abbrev uP:=@List.lookup_cons
abbrev uQ:=@beq_self_eq_true
abbrev uR:=@List.isEmpty_iff
abbrev uS:=@List.mem_append_left
abbrev uT:=@decide_eq_true
abbrev uU:=@List.getD_eq_getElem?_getD
abbrev uV:=@Bool.and_eq_true_iff
abbrev uW:=@of_decide_eq_false
abbrev uX:=@Nat.ne_of_lt
abbrev uY:=@Nat.le_add_right
abbrev uZ:=@beq_eq_false_iff_ne
abbrev u3:=@PySem.mem_of_lookup
abbrev u4:=@Nat.lt_irrefl
abbrev u5:=@PySem.W.kia_one
abbrev u6:=@List.length_drop
abbrev u7:=@List.not_mem_nil
abbrev u9:=@List.map_congr_left
abbrev Ua:=@PySem.W.mg_of
abbrev Ub:=@PySem.F.plainAttrs_str
abbrev Uc:=@List.length_take
abbrev Ud:=@Array.getElem?_eq_some_iff
abbrev Ue:=@List.findIdx?_cons
abbrev Ug:=@PySem.W.mg_none_of
abbrev Uh:=@List.length_replicate
abbrev Ui:=@List.getElem?_append_left
abbrev Uj:=@List.nodup_cons
abbrev Uk:=@List.getElem?_set_ne
abbrev Ul:=@List.reverse_cons
abbrev Um:=@List.any_cons
abbrev Uo:=@Bool.or_eq_true_iff
abbrev Up:=@List.map_eq_nil_iff
abbrev Uq:=@PySem.F.plainAttrs_list
abbrev Ur:=@List.mem_map
abbrev Us:=@Nat.zero_add
abbrev Ut:=@Option.map_some
abbrev Uu:=@List.find?_cons
abbrev Uv:=@List.all_cons
abbrev Uw:=@PySem.F.slot_dict_get
abbrev Ux:=@List.mem_range
abbrev Uy:=@List.map_nil
abbrev Uz:=@List.map_map
abbrev UA:=@Nat.sub_self
abbrev UB:=@List.drop_eq_getElem_cons
abbrev UC:=@List.length_reverse
abbrev UD:=@Bool.eq_iff_iff
abbrev UE:=@List.nil_append
abbrev UG:=@List.map_singleton
abbrev UH:=@Nat.le_succ
abbrev UI:=@Nat.le_of_eq
abbrev UJ:=@PySem.F.slot_str_split
abbrev UK:=@List.Perm.append_right
abbrev UL:=@Nat.lt_succ_self
abbrev UM:=@List.getElem_mem
abbrev UN:=@Bool.true_and
abbrev UO:=@List.cons.inj
abbrev UP:=@if_false
abbrev UQ:=@or_false
abbrev UR:=@List.of_mem_zip
abbrev US:=@Nat.succ.inj
abbrev UT:=@Int.emod_lt_of_pos
abbrev UU:=@Option.isNone_iff_eq_none
abbrev UW:=@PySem.W.kitx_list
abbrev UX:=@PySem.W.kitx_dict
abbrev UY:=@if_true
abbrev UZ:=@PySem.F.args_tuple_add_2
abbrev U0:=@Bool.false_or
abbrev U1:=@PySem.F.args_str_split_2
abbrev U2:=@PySem.F.entry_tuple_add
abbrev U3:=@Option.getD_none
abbrev U4:=@List.take_length
abbrev U5:=@Nat.toDigits_of_lt_base
abbrev U6:=@PySem.F.args_dict_get_3
abbrev U7:=@PySem.F.entry_str_split
abbrev U8:=@List.getElem?_cons_succ
abbrev U9:=@Nat.add_sub_cancel_left
abbrev gb:=@Int.eq_ofNat_of_zero_le
abbrev gc:=@beq_iff_eq
abbrev gf:=@PySem.F.slot_tuple_add
abbrev gg:=@PySem.F.entry_dict_get
abbrev gh:=@List.map_id'
abbrev gi:=@Int.emod_nonneg
abbrev gj:=@Nat.ble_eq_true_of_le
abbrev gk:=@List.Perm.append_left
abbrev gm:=@List.set_append_right
abbrev gn:=@List.eq_nil_or_concat
abbrev gp:=@List.concat_eq_append
abbrev gq:=@Bool.false_and
abbrev gr:=@List.drop_zero
abbrev gu:=@List.forall_mem_cons
abbrev gv:=@List.getLast?_concat
abbrev gw:=@List.filterMap_cons
abbrev gx:=@Array.length_toList
abbrev gy:=@PySem.W.plainGet_of
abbrev gz:=@List.flatMap_append
abbrev gA:=@List.reverse_append
abbrev gB:=@PySem.W.callWith_K0
abbrev gC:=@Bool.false_eq_true
abbrev gD:=@PySem.W.callWith_K
abbrev gE:=@Nat.ne_of_gt
abbrev gF:=@Option.isSome_map
abbrev gG:=@List.nodup_append
abbrev gH:=@List.map_set
abbrev gI:=@List.set_set
abbrev gJ:=@Option.some.injEq
abbrev gK:=@List.eraseIdxIfInBounds_toArray
abbrev gL:=@List.all_eq_true
abbrev gM:=@Nat.succ_lt_succ
abbrev gO:=@List.eq_nil_of_length_eq_zero
abbrev gP:=@List.drop_append_of_le_length
abbrev gQ:=@List.append_inj
abbrev gR:=@Nat.not_lt_zero
abbrev gS:=@List.cons.injEq
abbrev gT:=@List.perm_append_comm_assoc
abbrev gU:=@Bool.and_false
abbrev gW:=@List.isPrefixOf_iff_prefix
abbrev gX:=@List.Perm.refl
abbrev gY:=@Prod.mk.injEq
abbrev gZ:=@Option.isSome_iff_exists
abbrev g9:=@List.getElem?_replicate
abbrev Ga:=@List.length_eq_zero_iff
abbrev Gb:=@PySem.F.plainAttrs_dict
set_option Elab.async false
set_option linter.all false
set_option maxRecDepth 100000
set_option maxHeartbeats 0
namespace L2
open PySem PySem.W
theorem left_run {p q:Program}{loose:Lh}{Xt:Shared->Bool}{α:Type}{Yf:Shared->α}{Ya:World->α}{N M m0:Nat}{ann:Option Value}{H0:Params->Heap}{g0:Array GenState}{d0:Drawn}{k0:Nat}
  (hb:∀ w:World,(fencedOpening treeTable p w N).map (fun s=>(s.heap,s.gens,s.drawn,s.toks))=some (H0 w.params,g0,d0,k0))
  (hz:∀ w:World,((H0 w.params).isNs mainGlobals&&g0.size == 0,(H0 w.params).objs.size,(H0 w.params).nsMap mainGlobals "__annotations__")=(true,m0,ann))
  (hr:∀ (w:World) (os:OsState),∃ s:Shared,topRun treeTable p w m0 ann M ⟨H0 w.params,g0,d0,k0,os⟩ (topStub p)=some s /\
   (staticsOk (importedModules p.main.body) (H0 w.params) s.heap&&namesBound p s.heap&&gensDone s&&laidKept (H0 w.params) s.heap)=true/\openSeen q loose (importedModules p.main.body) Xt true s=openGood q loose/\Yf s=Ya w)
  (hn:M<=N):LeftO p q loose Xt Yf Ya N:=fun w=>by
 obtain⟨s0,e,e'⟩:=uu.mp (hb w)
 obtain⟨h,gs,d,k,os⟩:=s0
 simp only [gY] at e'
 obtain⟨rfl,rfl,rfl,rfl⟩:=e'
 obtain⟨s,r,l1,l2,l3⟩:=hr w os
 have z:=hz w
 simp only [gY] at z
 obtain⟨z1,z2,z3⟩:=z
 obtain⟨x,rfl⟩:=Nat.exists_eq_add_of_le hn
 have r':=topRun_mono x _ _ _ _ r
 have t:topFrom treeTable p w (M+x) ⟨H0 w.params,gs,d,k,os⟩=some s:=by
  unfold topFrom
  simp only [z1,z2,z3,r',uJ,l1]
 unfold openEnds
 rw [e,uJ,t,Ut,l2,l3]
end L2
namespace My
open PySem PySem.W
abbrev pw:Program:=PySem.Challenge.pw_sealpress_k55_braces_as_signs
noncomputable def tp (i:Nat):Stmt:=pw.main.body.getD i (.Pass ⟨0,0,0,0⟩)
noncomputable def tc (i j:Nat):Stmt:=match tp i with
 | .ClassDef _ _ _ body _ _ _ _ _ _ _=>body.getD j (.Pass ⟨0,0,0,0⟩)
 | _=>.Pass ⟨0,0,0,0⟩
noncomputable def fnO (s:Stmt)(nm q:Str)(g:Addr)(cl:List (Str×Addr))(df kd dc pm:Value)(an:Option Addr)(cd ct:Value)(bl:Addr):Data:=match s with
 | .FunctionDef _ a b _ _ _ sc _ _ _=>.func ⟨nm,q,a,.stmts b,sc,g,cl,df,kd,dc,pm,an,cd,ct,bl⟩
 | _=>.plain
noncomputable def en (P:Params)(k:Str)(t:Nat)(v:Value):DictEntry:=⟨PyData.keyHash P k,.str k t,v⟩
noncomputable def cO (n:Str)(a b c:Nat)(l g:Int)(r q:Addr)(x y z w:Value)(t:Int)(u:Nat):Obj:=⟨.type "code",none,.fields #[.str n a,.str n b,.str "/claim/cut.py" c,.int l 0,.int g 0,.int 0 0,.int 0 0,.int 3 0,.ref r,.bool true,.int 181 0,.ref q,x,y,z,w,.int t 0,.int l 0,.str "/claim/cut.py" u],#[]⟩
noncomputable def fO (i:Nat)(n:Str)(m:Value)(c:Addr):Obj:=⟨.type "function",none,fnO (tp i) n n 3 [] .none .none .none m none (.ref c) .none 0,#[]⟩
noncomputable def o11 (_:Params):Obj:={ cls:=.type "tuple",data:=.seq #[] }
noncomputable def o12 (_:Params):Obj:={ cls:=.none,data:=.fields #[] }
noncomputable def o13 (_:Params):Obj:={ cls:=.type "code",data:=.fields #[.str "<module>" 182,.str "<module>" 183,.str "/claim/cut.py" 184,.int 1 0,.int 0 0,.int 0 0,.int 0 0,.int 0 0,.ref 11,.bool false,.int 181 0,.ref 12,.none,.none,.none,.none,.int 185 0,.int 1 0,.str "/claim/cut.py" 186] }
noncomputable def o14 (_:Params):Obj:={ cls:=.type "frame",slots:=#[some (.ref 13),some (.ref 3),some (.ref 3),none,some (.str "__main__" 164),none,some (.ref 0)] }
noncomputable def x0 (P:Params):Obj:=⟨(.type "dict"),none,(.dict #[(en P "__name__" 165 (.str "law_sealpress_k55_braces_as_signs" 631)),(en P "__doc__" 166 .none),(en P "__package__" 167 .none),(en P "__loader__" 168 (.builtin "__main__.__loader__#opaque")),(en P "__spec__" 169 .none),(en P "__annotations__" 170 (.ref 6)),(en P "__builtins__" 171 (.ref 4)),(en P "__file__" 173 (.str "/claim/cut.py" 172)),(en P "__cached__" 174 .none),(en P "LITERAL_BRACES" 195 (.ref 15)),(en P "braced" 202 (.ref 22)),(en P "literal_text" 208 (.ref 27)),(en P "else_text" 215 (.ref 34)),(en P "piece_text" 225 (.ref 41)),(en P "pieces_text" 231 (.ref 46)),(en P "sheet_text" 239 (.ref 53)),(en P "SealError" 259 (.ref 63)),(en P "NoSign" 284 (.ref 83)),(en P "NoSheet" 309 (.ref 102)),(en P "Twice" 334 (.ref 121)),(en P "TooMany" 350 (.ref 133)),(en P "copied" 358 (.ref 140)),(en P "all_in" 368 (.ref 147)),(en P "SIGNS" 372 (.str " !\"#$&'()*+,-./0123456789:;<=>?@ABCDEFGHIJKLMNOPQRSTUVWXYZ[\\]^_`abcdefghijklmnopqrstuvwxyz{|}~" 371)),(en P "LETTERS" 374 (.str "abcdefghijklmnopqrstuvwxyz" 373)),(en P "LONGEST_NAME" 376 (.int 8 375)),(en P "is_name" 382 (.ref 152)),(en P "need_text" 391 (.ref 159)),(en P "MOST_SIGNS" 395 (.int 2000 394)),(en P "MOST_OPENED" 397 (.int 12 396)),(en P "BRACE_WORDS" 406 (.ref 160)),(en P "LONE_TOKENS" 424 (.ref 161)),(en P "OPENERS" 428 (.ref 167)),(en P "Sheet" 465 (.ref 189)),(en P "Opened" 520 (.ref 231)),(en P "Draft" 595 (.ref 287)),(en P "is_own_name" 602 (.ref 298)),(en P "token_of" 610 (.ref 305)),(en P "token_at" 620 (.ref 312)),(en P "sheet_read" 630 (.ref 319)),(en P "_law_cell_at" 640 (.ref 326)),(en P "_law_mixed" 651 (.ref 333)),(en P "_law_rest" 658 (.ref 340)),(en P "_law_signs" 665 (.ref 347)),(en P "_law_names" 684 (.ref 354)),(en P "_law_put" 693 (.ref 361)),(en P "_law_shut" 703 (.ref 368)),(en P "_law_literal" 715 (.ref 375)),(en P "_law_opened" 727 (.ref 382)),(en P "_law_word" 733 (.ref 387)),(en P "_law_token" 745 (.ref 394)),(en P "_law_made" 758 (.ref 401)),(en P "_law_spelled" 767 (.ref 408)),(en P "_law_sign" 774 (.ref 415)),(en P "_law_told" 784 (.ref 422)),(en P "law" 790 (.ref 427))] 56),#[]⟩
noncomputable def x1 (P:Params):Obj:=⟨(.type "dict"),none,(.dict #[(en P "{" 189 (.str "{(}" 190)),(en P "}" 191 (.str "{)}" 192))] 2),#[]⟩
noncomputable def x2 (_:Params):Obj:=cO "braced" 196 197 198 3 1 16 17 .none (.ref 18) (.ref 19) (.ref 20) 200 201
noncomputable def x3 (_:Params):Obj:=fO 2 "braced" (.str "sealpress.sheettexts" 187) 21
noncomputable def x4 (_:Params):Obj:=cO "literal_text" 203 204 205 5 1 23 24 .none .none .none (.ref 25) 206 207
noncomputable def x5 (_:Params):Obj:=fO 3 "literal_text" (.str "sealpress.sheettexts" 187) 26
noncomputable def x6 (_:Params):Obj:=cO "else_text" 209 210 211 7 1 28 29 .none (.ref 30) (.ref 31) (.ref 32) 213 214
noncomputable def x7 (_:Params):Obj:=fO 4 "else_text" (.str "sealpress.sheettexts" 187) 33
noncomputable def x8 (_:Params):Obj:=cO "piece_text" 216 217 218 9 1 35 36 .none (.ref 37) (.ref 38) (.ref 39) 223 224
noncomputable def x9 (_:Params):Obj:=fO 5 "piece_text" (.str "sealpress.sheettexts" 187) 40
noncomputable def x10 (_:Params):Obj:=cO "pieces_text" 226 227 228 22 1 42 43 .none .none .none (.ref 44) 229 230
noncomputable def x11 (_:Params):Obj:=fO 6 "pieces_text" (.str "sealpress.sheettexts" 187) 45
noncomputable def x12 (_:Params):Obj:=cO "sheet_text" 232 233 234 24 1 47 48 .none (.ref 49) (.ref 50) (.ref 51) 237 238
noncomputable def x13 (_:Params):Obj:=fO 7 "sheet_text" (.str "sealpress.sheettexts" 187) 52
noncomputable def x14 (_:Params):Obj:=cO "copied" 353 354 355 48 1 136 137 .none .none .none (.ref 138) 356 357
noncomputable def x15 (_:Params):Obj:=fO 15 "copied" (.str "sealpress.pieces" 351) 139
noncomputable def x16 (_:Params):Obj:=cO "is_name" 377 378 379 65 1 148 149 .none .none .none (.ref 150) 380 381
noncomputable def x17 (_:Params):Obj:=fO 21 "is_name" (.str "sealpress.signs" 369) 151
noncomputable def x18 (_:Params):Obj:=cO "need_text" 383 384 385 69 1 153 154 .none (.ref 155) (.ref 156) (.ref 157) 389 390
noncomputable def x19 (_:Params):Obj:=fO 22 "need_text" (.str "sealpress.signs" 369) 158
noncomputable def x20 (_:Params):Obj:=⟨(.type "tuple"),none,(.seq #[(.str "each" 398),(.str "if" 399),(.str "else" 400),(.str "end" 401),(.str "block" 402),(.str "elder" 403),(.str "draw" 404),(.str "over" 405)] 0),#[]⟩
noncomputable def x21 (P:Params):Obj:=⟨(.type "dict"),none,(.dict #[(en P "(" 407 (.ref 162)),(en P ")" 410 (.ref 163)),(en P "else" 413 (.ref 164)),(en P "end" 415 (.ref 165)),(en P "elder" 417 (.ref 166))] 5),#[]⟩
noncomputable def x22 (_:Params):Obj:=⟨(.type "tuple"),none,(.seq #[(.str "lit" 408),(.str "{" 409)] 0),#[]⟩
noncomputable def x23 (_:Params):Obj:=⟨(.type "tuple"),none,(.seq #[(.str "lit" 411),(.str "}" 412)] 0),#[]⟩
noncomputable def x24 (_:Params):Obj:=⟨(.type "tuple"),none,(.seq #[(.str "else" 414)] 0),#[]⟩
noncomputable def x25 (_:Params):Obj:=⟨(.type "tuple"),none,(.seq #[(.str "end" 416)] 0),#[]⟩
noncomputable def x26 (_:Params):Obj:=⟨(.type "tuple"),none,(.seq #[(.str "elder" 418)] 0),#[]⟩
noncomputable def x27 (_:Params):Obj:=⟨(.type "tuple"),none,(.seq #[(.str "each" 425),(.str "if" 426),(.str "block" 427)] 0),#[]⟩
noncomputable def x28 (_:Params):Obj:=⟨(.type "code"),none,(.fields #[(.str "__init__" 441),(.str "Sheet.__init__" 442),(.str "/claim/cut.py" 443),(.int 84 0),(.int 3 0),(.int 0 0),(.int 0 0),(.int 3 0),(.ref 175),(.bool true),(.int 181 0),(.ref 176),.none,(.ref 177),(.ref 178),(.ref 179),(.int 447 0),(.int 84 0),(.str "/claim/cut.py" 448)]),#[]⟩
noncomputable def x29 (_:Params):Obj:=⟨(.type "function"),none,(fnO (tc 29 0) "__init__" "Sheet.__init__" 3 [] .none .none .none (.str "sealpress.sheets" 392) none (.ref 180) .none 0),#[]⟩
noncomputable def x30 (P:Params):Obj:=⟨(.type "dict"),none,(.dict #[(en P "__module__" 436 (.str "sealpress.sheets" 392)),(en P "__firstlineno__" 440 (.int 82 439)),(en P "__init__" 449 (.ref 181)),(en P "blocks" 455 (.ref 186)),(en P "__static_attributes__" 458 (.ref 187)),(en P "__dict__" 460 (.ref 190)),(en P "__weakref__" 462 (.ref 191)),(en P "__doc__" 463 .none)] 4),#[]⟩
noncomputable def x31 (_:Params):Obj:=⟨(.type "type"),none,(.cls ⟨"Sheet",[(.type "object")],[(.ref 189),(.type "object")],188,"Sheet",true,[],[],false,none,false⟩),#[none,none,(some (.str "Sheet" 429)),(some (.str "Sheet" 437)),(some (.builtin "object.__new__")),(some (.bool true))]⟩
noncomputable def x32 (_:Params):Obj:=⟨(.type "code"),none,(.fields #[(.str "__init__" 478),(.str "Opened.__init__" 479),(.str "/claim/cut.py" 480),(.int 92 0),(.int 3 0),(.int 0 0),(.int 0 0),(.int 3 0),(.ref 201),(.bool true),(.int 181 0),(.ref 202),.none,(.ref 203),(.ref 204),(.ref 205),(.int 484 0),(.int 92 0),(.str "/claim/cut.py" 485)]),#[]⟩
noncomputable def x33 (_:Params):Obj:=⟨(.type "function"),none,(fnO (tc 30 0) "__init__" "Opened.__init__" 3 [] .none .none .none (.str "sealpress.sheets" 392) none (.ref 206) .none 0),#[]⟩
noncomputable def x34 (_:Params):Obj:=⟨(.type "code"),none,(.fields #[(.str "add_piece" 487),(.str "Opened.add_piece" 488),(.str "/claim/cut.py" 489),(.int 97 0),(.int 2 0),(.int 0 0),(.int 0 0),(.int 3 0),(.ref 208),(.bool true),(.int 181 0),(.ref 209),.none,(.ref 210),(.ref 211),(.ref 212),(.int 493 0),(.int 97 0),(.str "/claim/cut.py" 494)]),#[]⟩
noncomputable def x35 (_:Params):Obj:=⟨(.type "function"),none,(fnO (tc 30 1) "add_piece" "Opened.add_piece" 3 [] .none .none .none (.str "sealpress.sheets" 392) none (.ref 213) .none 0),#[]⟩
noncomputable def x36 (_:Params):Obj:=⟨(.type "code"),none,(.fields #[(.str "takes_else" 496),(.str "Opened.takes_else" 497),(.str "/claim/cut.py" 498),(.int 104 0),(.int 1 0),(.int 0 0),(.int 0 0),(.int 3 0),(.ref 215),(.bool true),(.int 181 0),(.ref 216),.none,(.ref 217),(.ref 218),(.ref 219),(.int 500 0),(.int 104 0),(.str "/claim/cut.py" 501)]),#[]⟩
noncomputable def x37 (_:Params):Obj:=⟨(.type "function"),none,(fnO (tc 30 2) "takes_else" "Opened.takes_else" 3 [] .none .none .none (.str "sealpress.sheets" 392) none (.ref 220) .none 0),#[]⟩
noncomputable def x38 (_:Params):Obj:=⟨(.type "code"),none,(.fields #[(.str "whole" 503),(.str "Opened.whole" 504),(.str "/claim/cut.py" 505),(.int 107 0),(.int 1 0),(.int 0 0),(.int 0 0),(.int 3 0),(.ref 222),(.bool true),(.int 181 0),(.ref 223),.none,(.ref 224),(.ref 225),(.ref 226),(.int 507 0),(.int 107 0),(.str "/claim/cut.py" 508)]),#[]⟩
noncomputable def x39 (_:Params):Obj:=⟨(.type "function"),none,(fnO (tc 30 3) "whole" "Opened.whole" 3 [] .none .none .none (.str "sealpress.sheets" 392) none (.ref 227) .none 0),#[]⟩
noncomputable def x40 (P:Params):Obj:=⟨(.type "dict"),none,(.dict #[(en P "__module__" 473 (.str "sealpress.sheets" 392)),(en P "__firstlineno__" 477 (.int 90 476)),(en P "__init__" 486 (.ref 207)),(en P "add_piece" 495 (.ref 214)),(en P "takes_else" 502 (.ref 221)),(en P "whole" 509 (.ref 228)),(en P "__static_attributes__" 513 (.ref 229)),(en P "__dict__" 515 (.ref 232)),(en P "__weakref__" 517 (.ref 233)),(en P "__doc__" 518 .none)] 4),#[]⟩
noncomputable def x41 (_:Params):Obj:=⟨(.type "type"),none,(.cls ⟨"Opened",[(.type "object")],[(.ref 231),(.type "object")],230,"Opened",true,[],[],false,none,false⟩),#[none,none,(some (.str "Opened" 466)),(some (.str "Opened" 474)),(some (.builtin "object.__new__")),(some (.bool true))]⟩
noncomputable def x42 (_:Params):Obj:=⟨(.type "code"),none,(.fields #[(.str "__init__" 533),(.str "Draft.__init__" 534),(.str "/claim/cut.py" 535),(.int 113 0),(.int 1 0),(.int 0 0),(.int 0 0),(.int 3 0),(.ref 243),(.bool true),(.int 181 0),(.ref 244),.none,(.ref 245),(.ref 246),(.ref 247),(.int 537 0),(.int 113 0),(.str "/claim/cut.py" 538)]),#[]⟩
noncomputable def x43 (_:Params):Obj:=⟨(.type "function"),none,(fnO (tc 31 0) "__init__" "Draft.__init__" 3 [] .none .none .none (.str "sealpress.sheets" 392) none (.ref 248) .none 0),#[]⟩
noncomputable def x44 (_:Params):Obj:=⟨(.type "code"),none,(.fields #[(.str "is_outside" 540),(.str "Draft.is_outside" 541),(.str "/claim/cut.py" 542),(.int 118 0),(.int 1 0),(.int 0 0),(.int 0 0),(.int 3 0),(.ref 250),(.bool true),(.int 181 0),(.ref 251),.none,(.ref 252),(.ref 253),(.ref 254),(.int 544 0),(.int 118 0),(.str "/claim/cut.py" 545)]),#[]⟩
noncomputable def x45 (_:Params):Obj:=⟨(.type "function"),none,(fnO (tc 31 1) "is_outside" "Draft.is_outside" 3 [] .none .none .none (.str "sealpress.sheets" 392) none (.ref 255) .none 0),#[]⟩
noncomputable def x46 (_:Params):Obj:=⟨(.type "code"),none,(.fields #[(.str "can_stand" 547),(.str "Draft.can_stand" 548),(.str "/claim/cut.py" 549),(.int 121 0),(.int 3 0),(.int 0 0),(.int 0 0),(.int 3 0),(.ref 257),(.bool true),(.int 181 0),(.ref 258),.none,(.ref 259),(.ref 260),(.ref 261),(.int 554 0),(.int 121 0),(.str "/claim/cut.py" 555)]),#[]⟩
noncomputable def x47 (_:Params):Obj:=⟨(.type "function"),none,(fnO (tc 31 2) "can_stand" "Draft.can_stand" 3 [] .none .none .none (.str "sealpress.sheets" 392) none (.ref 262) .none 0),#[]⟩
noncomputable def x48 (_:Params):Obj:=⟨(.type "code"),none,(.fields #[(.str "begin_piece" 557),(.str "Draft.begin_piece" 558),(.str "/claim/cut.py" 559),(.int 135 0),(.int 3 0),(.int 0 0),(.int 0 0),(.int 3 0),(.ref 264),(.bool true),(.int 181 0),(.ref 265),.none,(.ref 266),(.ref 267),(.ref 268),(.int 563 0),(.int 135 0),(.str "/claim/cut.py" 564)]),#[]⟩
noncomputable def x49 (_:Params):Obj:=⟨(.type "function"),none,(fnO (tc 31 3) "begin_piece" "Draft.begin_piece" 3 [] .none .none .none (.str "sealpress.sheets" 392) none (.ref 269) .none 0),#[]⟩
noncomputable def x50 (_:Params):Obj:=⟨(.type "code"),none,(.fields #[(.str "take" 566),(.str "Draft.take" 567),(.str "/claim/cut.py" 568),(.int 144 0),(.int 3 0),(.int 0 0),(.int 0 0),(.int 3 0),(.ref 271),(.bool true),(.int 181 0),(.ref 272),.none,(.ref 273),(.ref 274),(.ref 275),(.int 574 0),(.int 144 0),(.str "/claim/cut.py" 575)]),#[]⟩
noncomputable def x51 (_:Params):Obj:=⟨(.type "function"),none,(fnO (tc 31 4) "take" "Draft.take" 3 [] .none .none .none (.str "sealpress.sheets" 392) none (.ref 276) .none 0),#[]⟩
noncomputable def x52 (_:Params):Obj:=⟨(.type "code"),none,(.fields #[(.str "ended" 577),(.str "Draft.ended" 578),(.str "/claim/cut.py" 579),(.int 160 0),(.int 2 0),(.int 0 0),(.int 0 0),(.int 3 0),(.ref 278),(.bool true),(.int 181 0),(.ref 279),.none,(.ref 280),(.ref 281),(.ref 282),(.int 582 0),(.int 160 0),(.str "/claim/cut.py" 583)]),#[]⟩
noncomputable def x53 (_:Params):Obj:=⟨(.type "function"),none,(fnO (tc 31 5) "ended" "Draft.ended" 3 [] .none .none .none (.str "sealpress.sheets" 392) none (.ref 283) .none 0),#[]⟩
noncomputable def x54 (P:Params):Obj:=⟨(.type "dict"),none,(.dict #[(en P "__module__" 528 (.str "sealpress.sheets" 392)),(en P "__firstlineno__" 532 (.int 111 531)),(en P "__init__" 539 (.ref 249)),(en P "is_outside" 546 (.ref 256)),(en P "can_stand" 556 (.ref 263)),(en P "begin_piece" 565 (.ref 270)),(en P "take" 576 (.ref 277)),(en P "ended" 584 (.ref 284)),(en P "__static_attributes__" 588 (.ref 285)),(en P "__dict__" 590 (.ref 288)),(en P "__weakref__" 592 (.ref 289)),(en P "__doc__" 593 .none)] 4),#[]⟩
noncomputable def x55 (_:Params):Obj:=⟨(.type "type"),none,(.cls ⟨"Draft",[(.type "object")],[(.ref 287),(.type "object")],286,"Draft",true,[],[],false,none,false⟩),#[none,none,(some (.str "Draft" 521)),(some (.str "Draft" 529)),(some (.builtin "object.__new__")),(some (.bool true))]⟩
noncomputable def x56 (_:Params):Obj:=cO "is_own_name" 596 597 598 164 1 292 293 .none (.ref 294) (.ref 295) (.ref 296) 600 601
noncomputable def x57 (_:Params):Obj:=fO 32 "is_own_name" (.str "sealpress.sheets" 392) 297
noncomputable def x58 (_:Params):Obj:=cO "token_of" 603 604 605 166 1 299 300 .none (.ref 301) (.ref 302) (.ref 303) 608 609
noncomputable def x59 (_:Params):Obj:=fO 33 "token_of" (.str "sealpress.sheets" 392) 304
noncomputable def x60 (_:Params):Obj:=cO "token_at" 611 612 613 177 2 306 307 .none (.ref 308) (.ref 309) (.ref 310) 618 619
noncomputable def x61 (_:Params):Obj:=fO 34 "token_at" (.str "sealpress.sheets" 392) 311
noncomputable def x62 (_:Params):Obj:=cO "sheet_read" 621 622 623 187 1 313 314 .none (.ref 315) (.ref 316) (.ref 317) 628 629
noncomputable def x63 (_:Params):Obj:=fO 35 "sheet_read" (.str "sealpress.sheets" 392) 318
noncomputable def x64 (_:Params):Obj:=cO "_law_mixed" 641 642 643 203 2 327 328 .none (.ref 329) (.ref 330) (.ref 331) 649 650
noncomputable def x65 (_:Params):Obj:=fO 38 "_law_mixed" (.str "law_sealpress_k55_braces_as_signs" 631) 332
noncomputable def x66 (_:Params):Obj:=cO "_law_rest" 652 653 654 208 1 334 335 .none (.ref 336) (.ref 337) (.ref 338) 656 657
noncomputable def x67 (_:Params):Obj:=fO 39 "_law_rest" (.str "law_sealpress_k55_braces_as_signs" 631) 339
noncomputable def x68 (_:Params):Obj:=cO "_law_signs" 659 660 661 212 0 341 342 .none (.ref 343) (.ref 344) (.ref 345) 663 664
noncomputable def x69 (_:Params):Obj:=fO 40 "_law_signs" (.str "law_sealpress_k55_braces_as_signs" 631) 346
noncomputable def x70 (_:Params):Obj:=cO "_law_spelled" 759 760 761 304 1 402 403 .none (.ref 404) (.ref 405) (.ref 406) 765 766
noncomputable def x71 (_:Params):Obj:=fO 49 "_law_spelled" (.str "law_sealpress_k55_braces_as_signs" 631) 407
noncomputable def x72 (_:Params):Obj:=cO "_law_sign" 768 769 770 309 1 409 410 .none (.ref 411) (.ref 412) (.ref 413) 772 773
noncomputable def x73 (_:Params):Obj:=fO 50 "_law_sign" (.str "law_sealpress_k55_braces_as_signs" 631) 414
noncomputable def x74 (_:Params):Obj:=cO "_law_told" 775 776 777 313 2 416 417 .none (.ref 418) (.ref 419) (.ref 420) 782 783
noncomputable def x75 (_:Params):Obj:=fO 51 "_law_told" (.str "law_sealpress_k55_braces_as_signs" 631) 421
noncomputable def x76 (_:Params):Obj:=cO "law" 785 786 787 319 1 423 424 .none .none .none (.ref 425) 788 789
noncomputable def x77 (_:Params):Obj:=fO 52 "law" (.str "law_sealpress_k55_braces_as_signs" 631) 426
noncomputable def kh0 (P:Params):Le:=[(2,boot_o_2 P),(3,x0 P),(15,x1 P),(21,x2 P),(22,x3 P),(26,x4 P),(27,x5 P),(33,x6 P),(34,x7 P),(40,x8 P),(41,x9 P),(45,x10 P)]
noncomputable def kh1 (P:Params):Le:=[(46,x11 P),(52,x12 P),(53,x13 P),(139,x14 P),(140,x15 P),(151,x16 P),(152,x17 P),(158,x18 P),(159,x19 P),(160,x20 P),(161,x21 P),(162,x22 P)]
noncomputable def kh2 (P:Params):Le:=[(163,x23 P),(164,x24 P),(165,x25 P),(166,x26 P),(167,x27 P),(180,x28 P),(181,x29 P),(188,x30 P),(189,x31 P),(206,x32 P),(207,x33 P),(213,x34 P)]
noncomputable def kh3 (P:Params):Le:=[(214,x35 P),(220,x36 P),(221,x37 P),(227,x38 P),(228,x39 P),(230,x40 P),(231,x41 P),(248,x42 P),(249,x43 P),(255,x44 P),(256,x45 P),(262,x46 P)]
noncomputable def kh4 (P:Params):Le:=[(263,x47 P),(269,x48 P),(270,x49 P),(276,x50 P),(277,x51 P),(283,x52 P),(284,x53 P),(286,x54 P),(287,x55 P),(297,x56 P),(298,x57 P),(304,x58 P)]
noncomputable def kh5 (P:Params):Le:=[(305,x59 P),(311,x60 P),(312,x61 P),(318,x62 P),(319,x63 P),(332,x64 P),(333,x65 P),(339,x66 P),(340,x67 P),(346,x68 P),(347,x69 P),(407,x70 P)]
noncomputable def kh6 (P:Params):Le:=[(408,x71 P),(414,x72 P),(415,x73 P),(421,x74 P),(422,x75 P),(426,x76 P),(427,x77 P)]
noncomputable def KH (P:Params):Le:=kh0 P++(kh1 P++(kh2 P++(kh3 P++(kh4 P++(kh5 P++(kh6 P))))))
noncomputable def asL:Ld:=[2,3,15,21,22,26,27,33,34,40,41,45,46,52,53,139,140,151,152,158,159,160,161,162,163,164,165,166,167,180,181,188,189,206,207,213,214,220,221,227,228,230,231,248,249,255,256,262,263,269,270,276,277,283,284,286,287,297,298,304,305,311,312,318,319,332,333,339,340,346,347,407,408,414,415,421,422,426,427]
theorem zgK (P:Params):asL=(KH P).map (fun p=>p.1):=by kernel_rfl
@[reducible] noncomputable def HK:Hook:=kHook KH asL zgK
noncomputable def obs0 (s:Shared):List (Option Obj):=asL.map s.heap.get?
noncomputable def val0 (w:World):List (Option Obj):=(KH w.params).map fun p=>some p.2
noncomputable def tb0 (P:Params):BT:=.node (boot_o_0 P) (.node (boot_o_1 P) (.node (boot_o_3 P) (.node (boot_o_7 P) .nil .nil) (.node (o11 P) .nil .nil)) (.node (boot_o_5 P) (.node (boot_o_9 P) .nil .nil) (.node (o13 P) .nil .nil)))
 (.node (boot_o_2 P) (.node (boot_o_4 P) (.node (boot_o_8 P) .nil .nil) (.node (o12 P) .nil .nil)) (.node (boot_o_6 P) (.node (boot_o_10 P) .nil .nil) (.node (o14 P) .nil .nil)))
noncomputable def sB (w:World)(os:OsState):SharedT:=⟨tb0 w.params,15,{},#[],{},187,os⟩
noncomputable def env0:Env:={ scope:=pw.main.scope,locals:=mainNs,globals:=mainNs,cells:=[],code:=.ref 13,frame:=some 14 }
noncomputable def KS:List Stmt:=behindTheImports pw
noncomputable def cE:Code:=.body KS env0
noncomputable def pos0:Pos:=⟨0,0,0,0⟩
noncomputable def B0:List Frame:=[topFrame pos0]
noncomputable def ann0:Option Value:=some (.ref 6)
noncomputable def qvw:Program:=view pw [1,2,3,4,5,6,7,9,10,11,12,13,15,16,18,19,20,21,22,24,25,26,27,28,29,30,31,32,33,34,35,37,38,39,40,41,42,43,44,45,46,47,48,49,50,51,52]
noncomputable def loose0:Lh:=["LITERAL_BRACES","LONE_TOKENS"]
noncomputable def mods:Lh:=importedModules pw.main.body
noncomputable def Xt0 (s:Shared):Bool:=xlAt qvw [] s&&recOk (RowW.records (OpenRow.toRowW (OpenLaw.row PySem.Challenge.rw_sealpress_k55_braces_as_signs))) s
noncomputable def zdF (w:World)(r:Flow×SharedT×Code×Pos):=(r.1,r.2.2.1,(staticsOk mods (boot_heap w.params) r.2.1.abs.heap&&namesBound pw r.2.1.abs.heap&&gensDone r.2.1.abs&&laidKept (boot_heap w.params) r.2.1.abs.heap),obs0 r.2.1.abs)
noncomputable def zgL (r:Flow×SharedT×Code×Pos):=openSeen qvw loose0 mods Xt0 true r.2.1.abs
noncomputable def ck0:List Stmt:=KS
noncomputable def lhs (w:World)(os:OsState):=(segRunT treeTable pw w 11 ann0 1 3377 (sB w os) (piecesOf ck0 env0 cE pos0 B0)).map (zdF w)
noncomputable def rhs (w:World)(_:OsState):=some (Flow.next,cE,true,val0 w)
noncomputable def lhsG (w:World)(os:OsState):=(segRunT treeTable pw w 11 ann0 1 3377 (sB w os) (piecesOf ck0 env0 cE pos0 B0)).map zgL
noncomputable def rhsG (_:World)(_:OsState):=some (openGood qvw loose0)
theorem zgM:@lhs = @lhs:=rfl
theorem zgN:@rhs = @rhs:=rfl
name_quick lhsQ for My.lhs by My.zgM
name_quick rhsQ for My.rhs by My.zgN
theorem krf (w:World):PySem.W.Fast.lhsQ (w.withFollow "special-get-raises" false)=PySem.W.Fast.rhsQ (w.withFollow "special-get-raises" false):=by kernel_rfl
theorem krt (w:World):PySem.W.Fast.lhsQ (w.withFollow "special-get-raises" true)=PySem.W.Fast.rhsQ (w.withFollow "special-get-raises" true):=by kernel_rfl
theorem kr (w:World):PySem.W.Fast.lhsQ w=PySem.W.Fast.rhsQ w:=byRow2 "special-get-raises" (P:=fun w=>PySem.W.Fast.lhsQ w=PySem.W.Fast.rhsQ w) krf krt w
theorem zcc (w:World):lhs w=rhs w:=(congrFun PySem.W.Fast.lhsQ_eq w).trans ((kr w).trans (congrFun PySem.W.Fast.rhsQ_eq w).symm)
theorem zeh:@lhsG = @lhsG:=rfl
theorem zei:@rhsG = @rhsG:=rfl
name_quick lhsGQ for My.lhsG by My.zeh
name_quick rhsGQ for My.rhsG by My.zei
theorem krfG (w:World):PySem.W.Fast.lhsGQ (w.withFollow "special-get-raises" false)=PySem.W.Fast.rhsGQ (w.withFollow "special-get-raises" false):=by kernel_rfl
theorem krtG (w:World):PySem.W.Fast.lhsGQ (w.withFollow "special-get-raises" true)=PySem.W.Fast.rhsGQ (w.withFollow "special-get-raises" true):=by kernel_rfl
theorem krG (w:World):PySem.W.Fast.lhsGQ w=PySem.W.Fast.rhsGQ w:=byRow2 "special-get-raises" (P:=fun w=>PySem.W.Fast.lhsGQ w=PySem.W.Fast.rhsGQ w) krfG krtG w
theorem KU (w:World):lhsG w=rhsG w:=(congrFun PySem.W.Fast.lhsGQ_eq w).trans ((krG w).trans (congrFun PySem.W.Fast.rhsGQ_eq w).symm)
noncomputable def lhs1 (w:World)(os:OsState):=topGo treeTable pw w 11 ann0 12 ⟨boot_heap w.params,#[],boot_drawn,boot_toks,os⟩ (topStub pw)
noncomputable def rhs1 (w:World)(os:OsState):Option (Shared×Thread):=some ((sB w os).abs,⟨denote treeTable cE,cE,pos0,B0⟩)
theorem zej:@lhs1 = @lhs1:=rfl
theorem zek:@rhs1 = @rhs1:=rfl
name_quick lhs1Q for My.lhs1 by My.zej
name_quick rhs1Q for My.rhs1 by My.zek
theorem kr1 (w:World):PySem.W.Fast.lhs1Q w=PySem.W.Fast.rhs1Q w:=by kernel_rfl
theorem zgO (w:World):lhs1 w=rhs1 w:=(congrFun PySem.W.Fast.lhs1Q_eq w).trans ((kr1 w).trans (congrFun PySem.W.Fast.rhs1Q_eq w).symm)
noncomputable def lhs2 (w:World)(os:OsState):=segRun treeTable pw w 11 ann0 1 1 (sB w os).abs (blockOf KS env0 cE pos0 B0)
noncomputable def rhs2 (w:World)(os:OsState):Option (Flow×Shared×Code×Pos):=some (.next,(sB w os).abs,cE,pos0)
theorem zel:@lhs2 = @lhs2:=rfl
theorem zem:@rhs2 = @rhs2:=rfl
name_quick lhs2Q for My.lhs2 by My.zel
name_quick rhs2Q for My.rhs2 by My.zem
theorem kr2 (w:World):PySem.W.Fast.lhs2Q w=PySem.W.Fast.rhs2Q w:=by kernel_rfl
theorem zgP (w:World):lhs2 w=rhs2 w:=(congrFun PySem.W.Fast.lhs2Q_eq w).trans ((kr2 w).trans (congrFun PySem.W.Fast.rhs2Q_eq w).symm)
noncomputable def lhs3 (w:World):Bool×Nat×Option Value:=((boot_heap w.params).isNs mainGlobals&&(#[]:Array GenState).size == 0,(boot_heap w.params).objs.size,(boot_heap w.params).nsMap mainGlobals "__annotations__")
theorem zen:@lhs3 = @lhs3:=rfl
name_quick lhs3Q for My.lhs3 by My.zen
theorem kr3 (w:World):PySem.W.Fast.lhs3Q w=(true,11,ann0):=by kernel_rfl
theorem zgQ (w:World):lhs3 w=(true,11,ann0):=(congrFun PySem.W.Fast.lhs3Q_eq w).trans (kr3 w)
theorem fin0 (w:World)(s:Shared)(q:Pos):topRun treeTable pw w 11 ann0 2 s (restOf [] env0 cE q B0)=some s:=rfl
theorem zcd (w:World)(os:OsState):∃ s:Shared,topRun treeTable pw w 11 ann0 (12+(1+(3377+2))) ⟨boot_heap w.params,#[],boot_drawn,boot_toks,os⟩ (topStub pw)=some s /\
  (staticsOk mods (boot_heap w.params) s.heap&&namesBound pw s.heap&&gensDone s&&laidKept (boot_heap w.params) s.heap)=true/\openSeen qvw loose0 mods Xt0 true s=openGood qvw loose0/\obs0 s=val0 w:=by
 obtain⟨⟨f,s,c,q⟩,hr,hF⟩:=uu.mp (congrFun (zcc w) os)
 unfold zdF at hF
 simp only [gY] at hF
 obtain⟨rfl,rfl,h1,h3⟩:=hF
 have h2:openSeen qvw loose0 mods Xt0 true s.abs=openGood qvw loose0:=by
  have hG:=congrFun (KU w) os
  unfold lhsG rhsG at hG
  rw [hr,Ut] at hG
  exact uG hG
 refine⟨s.abs,?_,h1,h2,h3⟩
 refine go_top (congrFun (zgO w) os) (piece_block (congrFun (zgP w) os) ?_)
 have k:=piece_app (segRun_of hr) (fin0 w s.abs q)
 rw [uw] at k
 exact k
theorem zgR (w:World):(fencedOpening treeTable pw w 3492).map (fun s=>(s.heap,s.gens,s.drawn,s.toks))=some (boot_heap w.params,Array.mk [],boot_drawn,boot_toks):=boot_open (p:=pw) (N:=3492) (by kernel_rfl) (by kernel_rfl) (fun _=>rfl) w
theorem left:LeftO pw qvw loose0 Xt0 HK.obs HK.val 3492:=L2.left_run (M:=12+(1+(3377+2))) (m0:=11) (ann:=ann0) zgR zgQ zcd (by decide)
end My
set_option maxHeartbeats 1000000
namespace L2
open PySem PySem.Spec PyProof.Rows
noncomputable abbrev Key:=Sum Int Str
noncomputable def ZW:Key->Value->Bool
 | .inl k,v=>Value.isInt k v
 | .inr x,v=>Value.isStrOf x v
noncomputable def keyH (w:World):Key->Int
 | .inl k=>hashInt k
 | .inr x=>hashStr w x
theorem qe:∀ {k:Key} {v:Value},ZW k v=true->(∃ i t,k=Sum.inl i/\v=Value.int i t)\/(∃ x t,k=Sum.inr x/\v=Value.str x t)
 | .inl i,v,h=>by
  obtain⟨t,e⟩:=Value.isInt_shape (k:=i) (v:=v) h
  exact .inl ⟨i,t,rfl,e⟩
 | .inr x,v,h=>by
  obtain⟨t,e⟩:=Value.isStrOf_shape (x:=x) (v:=v) h
  exact .inr ⟨x,t,rfl,e⟩
theorem YN (i:Int)(t:Tok):ZW (.inl i) (.int i t)=true:=by simp [ZW,Value.isInt]
theorem YO (x:Str)(t:Tok):ZW (.inr x) (.str x t)=true:=by simp [ZW,Value.isStrOf]
theorem zeo (a b:Int):decide ((Sum.inl a:Key)=Sum.inl b)=(a == b):=by
 by_cases e:a=b
 ·subst e;simp
 ·have h:¬ (Sum.inl a:Key)=Sum.inl b:=fun q=>e (Sum.inl.inj q)
  rw [uo h]
  exact(uZ.mpr e).symm
theorem zep (a b:Str):decide ((Sum.inr a:Key)=Sum.inr b)=decide (a=b):=by
 by_cases e:a=b
 ·subst e;simp
 ·have h:¬ (Sum.inr a:Key)=Sum.inr b:=fun q=>e (Sum.inr.inj q)
  rw [uo h,uo e]
theorem zeq (a:Int)(b:Str):decide ((Sum.inl a:Key)=Sum.inr b)=false:=uo (fun q=>nomatch q)
theorem zer (a:Str)(b:Int):decide ((Sum.inr a:Key)=Sum.inl b)=false:=uo (fun q=>nomatch q)
noncomputable def zJ (prog:Program)(w:World):PySem.KeyKind prog w Key where
 is:=ZW
 hash:=keyH w
 inj:=fun v a b ha hb=>by
  rcases qe ha with⟨i,t,rfl,rfl⟩ | ⟨x,t,rfl,rfl⟩
  ·rcases qe hb with⟨j,u,rfl,e⟩ | ⟨y,u,rfl,e⟩
   ·injection e with e1 _;rw [e1]
   ·exact nomatch e
  ·rcases qe hb with⟨j,u,rfl,e⟩ | ⟨y,u,rfl,e⟩
   ·exact nomatch e
   ·injection e with e1 _;rw [e1]
 byValue:=fun k v h=>by
  rcases qe h with⟨i,t,rfl,rfl⟩ | ⟨x,t,rfl,rfl⟩<;>rfl
 pyHash:=fun hv h=>by
  rcases qe hv with⟨i,t,rfl,rfl⟩ | ⟨x,t,rfl,rfl⟩
  ·exact wpAny_pyHash_int h
  ·exact wpAny_pyHash_str h
 eqBool:=fun hu hv h=>by
  rcases qe hu with⟨i,t,rfl,rfl⟩ | ⟨x,t,rfl,rfl⟩
  ·rcases qe hv with⟨j,u,rfl,rfl⟩ | ⟨y,u,rfl,rfl⟩
   ·rw [zeo] at h;exact wpAny_eqBool_int h
   ·rw [zeq] at h;exact SeqAt.EqAt.int_str i t y u _ _ _ _ h
  ·rcases qe hv with⟨j,u,rfl,rfl⟩ | ⟨y,u,rfl,rfl⟩
   ·rw [zer] at h;exact SeqAt.EqAt.str_int x t j u _ _ _ _ h
   ·rw [zep] at h;exact wpAny_eqBool_str h
 «strs»:=fun k x t v h=>by
  rcases qe h with⟨i,u,rfl,e⟩ | ⟨y,u,rfl,e⟩
  ·exact nomatch e
  ·injection e with e1 _
   subst e1
   cases v<;>rfl
theorem WM (prog:Program)(w:World)(i:Int)(t:Tok):(zJ prog w).is (.inl i) (.int i t)=true:=YN i t
theorem WN (prog:Program)(w:World)(x:Str)(t:Tok):(zJ prog w).is (.inr x) (.str x t)=true:=YO x t
inductive V where
 | non | bl (b:Bool) | int (i:Int) | str (x:Str) | byt (b:Array UInt8) | flt (b:UInt64) | ref (a:Addr) | ty (n:String)
 deriving DecidableEq
noncomputable def RelV:V->Value->Prop
 | .non,u=>u=Value.none
 | .bl b,u=>u=Value.bool b
 | .int i,u=>∃ t,u=Value.int i t
 | .str x,u=>∃ t,u=Value.str x t
 | .byt b,u=>∃ t,u=Value.bytes b t
 | .flt b,u=>∃ t,u=Value.float b t
 | .ref a,u=>u=Value.ref a
 | .ty n,u=>u=Value.type n
noncomputable abbrev Vals:List V->Lf->Prop:=Paired RelV
theorem Vals.length {xs:List V}{us:Lf}(r:Vals xs us):xs.length=us.length:=Paired.length r
theorem Vals.get:∀ {xs:List V} {us:Lf} {i:Nat} {x:V},Vals xs us->xs[i]? = some x->∃ u,us[i]? = some u/\RelV x u
 | _,_,_,_,.nil,e=>by simp at e
 | _,_,0,_,.cons r _,e=>by simp at e;subst e;exact⟨_,rfl,r⟩
 | _,_,i+1,x,.cons _ t,e=>by
  obtain⟨u,h1,h2⟩:=Vals.get (i:=i) (x:=x) t (by simpa using e)
  exact⟨u,by simpa using h1,h2⟩
theorem Vals.set {x:V}{u:Value}(r:RelV x u):∀ {xs:List V} {us:Lf} (i:Nat),Vals xs us->Vals (xs.set i x) (us.set i u)
 | _,_,_,.nil=>.nil
 | _,_,0,.cons _ t=>.cons r t
 | _,_,i+1,.cons q t=>.cons q (Vals.set r i t)
theorem Vals.append:∀ {xs ys:List V} {us ws:Lf},Vals xs us->Vals ys ws->Vals (xs++ys) (us++ws)
 | _,_,_,_,.nil,s=>s
 | _,_,_,_,.cons r t,s=>.cons r (Vals.append t s)
theorem Vals.take:∀ {xs:List V} {us:Lf} (n:Nat),Vals xs us->Vals (xs.take n) (us.take n)
 | _,_,0,_=>.nil
 | _,_,_+1,.nil=>.nil
 | _,_,n+1,.cons r t=>.cons r (Vals.take n t)
theorem Vals.drop:∀ {xs:List V} {us:Lf} (n:Nat),Vals xs us->Vals (xs.drop n) (us.drop n)
 | _,_,0,r=>r
 | _,_,_+1,.nil=>.nil
 | _,_,n+1,.cons _ t=>Vals.drop n t
noncomputable def RelO:Option V->Option Value->Prop
 | some v,some u=>RelV v u
 | none,none=>True
 | _,_=>False
noncomputable def KV {κ:Type}:List (κ×V)->List (κ×Value)->Prop:=Paired fun(p:κ×V) (q:κ×Value)=>p.1=q.1/\RelV p.2 q.2
noncomputable def kV:Key->V
 | .inl i=>.int i
 | .inr x=>.str x
inductive HO where
 | lst (xs:List V)
 | tup (xs:List V)
 | dK (kvs:List (Key×V)) | dT (kvs:List (List Key×V))
 | set (S:Int->Bool) (n:Nat)
 | ins (C dx:Addr) (fs:List (Str×V))
 | own (x:Addr)
 | xd (fs:List (Str×V))
 | met (f x:Addr)
 | rng (lo hi:Int)
 | frz (o:Obj) (u:HO)
 | tbl (ps:Array Value)
 | ext (φ:Heap->Prop)
noncomputable abbrev Hp:=Addr->Option HO
noncomputable def upd (H:Hp)(a:Addr)(o:HO):Hp:=fun b=>if b=a then some o else H b
theorem jz {H:Hp}{a:Addr}{o:HO}:upd H a o a=some o:=by unfold upd;rw [uA rfl]
theorem zP {H:Hp}{a b:Addr}{o:HO}(h:b≠a):upd H a o b=H b:=by unfold upd;rw [uq h]
theorem zce {H:Hp}{a:Addr}{o u:HO}:upd (upd H a o) a u=upd H a u:=by
 funext b;unfold upd;split<;>rfl
theorem zgS {H:Hp}{a b:Addr}{o u:HO}(h:H a=some o)(h':H b=some u)(d:o≠u):a≠b:=by
 intro e;subst e;rw [h] at h';exact d (uG h')
theorem jO {H:Hp}{a b:Addr}{o:HO}(h:H a=some o)(h':H b=none):a≠b:=by
 intro e;subst e;rw [h] at h';cases h'
section
variable (P:Program) (w:World)
noncomputable def zR (H:Hp)(h:Heap)(a:Addr):HO->Prop
 | .lst xs=>xs.length<=sizeLine/\∃ (its:Lf) (n:Nat),Vals xs its/\h.get? a=some { cls:=.type "list",data:=.seq its.toArray n }
 | .tup xs=>xs.length<=sizeLine/\∃ its:Lf,Vals xs its/\IsTup h a its.toArray
 | .dK kvs=>kvs.length<=sizeLine/\(a == sysModules)=false/\∃ vs,KV kvs vs/\h.DictOf (zJ P w) a vs
 | .dT kvs=>kvs.length<=sizeLine/\(a == sysModules)=false/\∃ xs:List (List Key×Addr×Value),
   Paired (fun(p:List Key×V) (q:List Key×Addr×Value)=>p.1=q.1/\H q.2.1=some (.tup (p.1.map kV))/\RelV p.2 q.2.2) kvs xs /\
   ∃ o es ep,h.get? a=some o/\o.ExactDict/\o.data=.dict es ep/\es.toList=xs.map (entryOfKey (tupleKind (zJ P w)))/\(xs.map (·.1)).Nodup
 | .set S n=>h.SetOf (intKind P w) a S n
 | .ins C dx fs=>H dx=some (.own a)/\fs.length<=1000/\dx≠a/\h.get? a=some (PySem.W.instObj C dx) /\
   ∃ mA,h.Ns1 dx mA/\(∀ f,RelO (fs.lookup f) (mA f))/\PySem.Within mA (fs.map (·.1))
 | .own _=>∃ o,h.get? a=some o
 | .xd fs=>∃ mA,h.Ns1 a mA/\∀ f,RelO (fs.lookup f) (mA f)
 | .rng lo hi=>∃ t u v,h.get? a=some { cls:=.type "range",data:=.fields #[.int lo t,.int hi u,.int 1 v] }
 | .frz o u=>h.get? a=some o/\zR H h a u
 | .tbl ps=>h.get? a=some { cls:=.none,data:=.fields ps }
 | .met f x=>h.get? a=some (PySem.W.methodObj (.ref f) (.ref x))
 | .ext φ=>φ h/\(∃ o,h.get? a=some o)/\∀ h1 h2:Heap,φ h1->(∀ o,h1.get? a=some o->h2.get? a=some o)->φ h2
def HOk (H:Hp)(h:Heap):Prop:=∀ a o,H a=some o->zR P w H h a o
end
section
variable {P:Program} {w:World} {H H':Hp} {h h':Heap} {a:Addr} {o:HO}
theorem zR.lt (x:zR P w H h a o):a<h.objs.size:=by
 cases o with
 | lst xs=>obtain⟨_,_,_,_,e⟩:=x;exact Heap.lt_size e
 | tup xs=>obtain⟨_,_,_,p⟩:=x;exact p.lt
 | dK kvs=>obtain⟨_,_,_,_,o,_,_,e,_⟩:=x;exact Heap.lt_size e
 | dT kvs=>obtain⟨_,_,_,_,o,_,_,e,_⟩:=x;exact Heap.lt_size e
 | set S n=>obtain⟨o,_,_,_,e,_⟩:=x;exact Heap.lt_size e
 | ins C dx fs=>obtain⟨_,_,_,e,_⟩:=x;exact Heap.lt_size e
 | own y=>obtain⟨_,e⟩:=x;exact Heap.lt_size e
 | xd fs=>obtain⟨_,⟨_,_,_,e,_⟩,_⟩:=x;exact Heap.lt_size e
 | rng lo hi=>obtain⟨_,_,_,e⟩:=x;exact Heap.lt_size e
 | frz ob u=>obtain⟨e,_⟩:=x;exact Heap.lt_size e
 | tbl ps=>exact Heap.lt_size (show h.get? a=some _ from x)
 | met f y=>exact Heap.lt_size (show h.get? a=some _ from x)
 | ext φ=>obtain⟨_,⟨_,e⟩,_⟩:=x;exact Heap.lt_size e
theorem Paired.mapP {α β:Type}{F G:α->β->Prop}:∀ {l₁:List α} {l₂:List β},Paired F l₁ l₂->(∀ a b,F a b->G a b)->Paired G l₁ l₂
 | _,_,.nil,_=>.nil
 | _,_,.cons r t,f=>.cons (f _ _ r) (Paired.mapP t f)
theorem zR.stay (x:zR P w H h a o)(k:∀ b u,(b=a\/H b=some (.own a))->h.get? b=some u->h'.get? b=some u)
  (ho:∀ b,H b=some (.own a)->H' b=some (.own a)) (ht:∀ b xs,H b=some (.tup xs)->H' b=some (.tup xs)):zR P w H' h' a o:=by
 induction o with
 | lst xs=>obtain⟨z,its,n,r,e⟩:=x;exact⟨z,its,n,r,k _ _ (.inl rfl) e⟩
 | tup xs=>obtain⟨z,its,r,ob,e,c⟩:=x;exact⟨z,its,r,ob,k _ _ (.inl rfl) e,c⟩
 | dK kvs=>obtain⟨z,y,vs,r,ob,es,ep,e,c⟩:=x;exact⟨z,y,vs,r,ob,es,ep,k _ _ (.inl rfl) e,c⟩
 | dT kvs=>
  obtain⟨z,y,xs,r,ob,es,ep,e,c⟩:=x
  exact⟨z,y,xs,Paired.mapP r fun p q z=>⟨z.1,ht _ _ z.2.1,z.2.2⟩,ob,es,ep,k _ _ (.inl rfl) e,c⟩
 | set S n=>obtain⟨ob,es,ep,t,e,c⟩:=x;exact⟨ob,es,ep,t,k _ _ (.inl rfl) e,c⟩
 | ins C dx fs=>
  obtain⟨d,z,ne,e,mA,⟨od,es,ep,e2,c⟩,r⟩:=x
  exact⟨ho _ d,z,ne,k _ _ (.inl rfl) e,mA,⟨od,es,ep,k _ _ (.inr d) e2,c⟩,r⟩
 | own y=>obtain⟨ob,e⟩:=x;exact⟨ob,k _ _ (.inl rfl) e⟩
 | xd fs=>obtain⟨mA,⟨od,es,ep,e,c⟩,r⟩:=x;exact⟨mA,⟨od,es,ep,k _ _ (.inl rfl) e,c⟩,r⟩
 | rng lo hi=>obtain⟨t,u,v,e⟩:=x;exact⟨t,u,v,k _ _ (.inl rfl) e⟩
 | frz ob u ih=>obtain⟨e,q⟩:=x;exact⟨k _ _ (.inl rfl) e,ih q⟩
 | tbl ps=>
  have e:h.get? a=some { cls:=.none,data:=.fields ps }:=x
  show h'.get? a=some { cls:=.none,data:=.fields ps }
  exact k a _ (.inl rfl) e
 | met f y=>
  have e:h.get? a=some (PySem.W.methodObj (.ref f) (.ref y)):=x
  show h'.get? a=some (PySem.W.methodObj (.ref f) (.ref y))
  exact k a _ (.inl rfl) e
 | ext φ=>obtain⟨p,⟨o,e⟩,st⟩:=x;exact⟨st _ _ p fun o q=>k _ _ (.inl rfl) q,⟨o,k _ _ (.inl rfl) e⟩,st⟩
theorem HOk.lt (x:HOk P w H h)(e:H a=some o):a<h.objs.size:=(x a o e).lt
theorem HOk.fresh (x:HOk P w H h)(e:h.objs.size<=a):H a=none:=by
 cases q:H a with
 | none=>rfl
 | some u=>exact absurd (uE (x.lt q) e) (u4 _)
theorem HOk.kept (x:HOk P w H h)(k:∀ b u,h.get? b=some u->h'.get? b=some u):HOk P w H h':=fun a o e=>
 (x a o e).stay (fun b u _ q=>k b u q) (fun _ q=>q) fun _ _ q=>q
theorem HOk.laid (x:HOk P w H h)(k:∀ b u,h.get? b=some u->h'.get? b=some u)(hp:h.objs.size<=a)(new:zR P w (upd H a o) h' a o):HOk P w (upd H a o) h':=fun b u e=>by
 have hn:=x.fresh hp
 by_cases hb:b=a
 ·subst hb;rw [jz] at e;cases e;exact new
 ·rw [zP hb] at e
  exact(x b u e).stay (fun c v _ q=>k c v q) (fun c q=>by rw [zP (jO q hn)];exact q) fun c xs q=>by rw [zP (jO q hn)];exact q
end
def Rd (H:Hp)(a:Addr)(u:HO):Prop:=H a=some u\/∃ o,H a=some (.frz o u)
theorem Rd.ok {P:Program}{w:World}{H:Hp}{h:Heap}{a:Addr}{u:HO}(r:Rd H a u)(x:HOk P w H h):zR P w H h a u:=by
 rcases r with r | ⟨o,r⟩
 ·exact x a u r
 ·obtain⟨_,q⟩:=x a _ r
  exact q
noncomputable def Mut:Option HO->Prop
 | some (.lst _)=>True
 | some (.dK _)=>True
 | some (.dT _)=>True
 | some (.set _ _)=>True
 | some (.ins _ _ _)=>True
 | some (.ext _)=>True
 | _=>False
section
variable {P:Program} {w:World} {H:Hp} {h h':Heap} {x e:Addr} {o':HO}
theorem HOk.write (ok:HOk P w H h)(mu:Mut (H x))(he:e=x\/H e=some (.own x))(k:∀ b u,b≠e->h.get? b=some u->h'.get? b=some u)(heo:∃ u,h'.get? e=some u)
  (new:zR P w (upd H x o') h' x o'):HOk P w (upd H x o') h':=fun b u q=>by
 have nown:∀ c y,H c=some (.own y)->c≠x:=fun c y r z=>by subst z;rw [r] at mu;exact mu
 have ntup:∀ c xs,H c=some (.tup xs)->c≠x:=fun c xs r z=>by subst z;rw [r] at mu;exact mu
 by_cases hb:b=x
 ·subst hb;rw [jz] at q;cases q;exact new
 ·rw [zP hb] at q
  by_cases hbe:b=e
  ·have q':H b=some (.own x):=by
    rcases he with z | z
    ·exact absurd (hbe.trans z) hb
    ·rw [hbe];exact z
   rw [q] at q';cases q'
   obtain⟨v,hv⟩:=heo
   exact⟨v,by rw [hbe];exact hv⟩
  ·refine(ok b u q).stay (fun c v hc r=>k c v ?_ r) (fun c r=>by rw [zP (nown c b r)];exact r) fun c xs r=>by rw [zP (ntup c xs r)];exact r
   rcases hc with rfl | hc
   ·exact hbe
   ·rintro rfl
    rcases he with z | z
    ·exact nown c b hc z
    ·rw [hc] at z;cases z;exact hb rfl
end
structure Un (fs ex:Ld)(H H':Hp)(h h':Heap):Prop where
 keep:∀ b o,h.get? b=some o->H b=none->b∉fs->b∉ex->h'.get? b=some o
 slot:∀ b o,h.get? b=some o->H b=none->b∈fs->b∉ex->∃ sl,h'.get? b=some { o with slots:=sl }
 free:∀ b o,h.get? b=some o->H b=none->b∉ex->H' b=none
 there:∀ b o,h.get? b=some o->b∉ex->∃ o',h'.get? b=some o'
 tups:∀ b xs,H b=some (.tup xs)->H' b=some (.tup xs)
 frzs:∀ b o u,H b=some (.frz o u)->H' b=some (.frz o u)
 tbls:∀ b ps,H b=some (.tbl ps)->∃ more,H' b=some (.tbl (ps++more))
section
variable {fs fs' ex ex':Ld} {H H1 H2:Hp} {h h1 h2 h':Heap} {a x e:Addr} {o:HO}
theorem Un.any (u:Un fs ex H H1 h h1){b:Addr}{ob:Obj}(q:h.get? b=some ob)(n:H b=none)(hx:b∉ex):∃ sl,h1.get? b=some { ob with slots:=sl }:=by
 by_cases hb:b∈fs
 ·exact u.slot b ob q n hb hx
 ·exact⟨ob.slots,u.keep b ob q n hb hx⟩
theorem Un.kept (k:∀ b u,h.get? b=some u->h'.get? b=some u):Un fs ex H H h h':=
 ⟨fun b ob q _ _ _=>k b ob q,fun b ob q _ _ _=>⟨ob.slots,k b ob q⟩,fun _ _ _ n _=>n,fun b ob q _=>⟨ob,k b ob q⟩,fun _ _ q=>q,fun _ _ _ q=>q,fun _ ps q=>⟨#[],by rw [q];simp⟩⟩
theorem Un.refl:Un fs ex H H h h:=Un.kept fun _ _ q=>q
theorem Un.laid (k:∀ b u,h.get? b=some u->h'.get? b=some u)(hp:h.objs.size<=a)(hn:H a=none):Un fs ex H (upd H a o) h h' where
 keep:=fun b u q _ _ _=>k b u q
 slot:=fun b u q _ _ _=>⟨u.slots,k b u q⟩
 free:=fun b u q n _=>by rw [zP (uX (uE (Heap.lt_size q) hp))];exact n
 there:=fun b u q _=>⟨u,k b u q⟩
 tups:=fun b xs q=>by rw [zP (jO q hn)];exact q
 frzs:=fun b u xs q=>by rw [zP (jO q hn)];exact q
 tbls:=fun b ps q=>⟨#[],by rw [zP (jO q hn),q];simp⟩
theorem Un.write (mu:Mut (H x))(he:e=x\/H e=some (.own x))(k:∀ b u,b≠e->h.get? b=some u->h'.get? b=some u)(heo:∃ u,h'.get? e=some u):Un fs ex H (upd H x o) h h':=by
 have hx:∀ b,H b=none->b≠x:=fun b n z=>by subst z;rw [n] at mu;exact mu
 have hb:∀ b,H b=none->b≠e:=fun b n z=>by
  subst z
  rcases he with r | r
  ·exact hx b n r
  ·rw [n] at r;cases r
 have hm:∀ b u,H b=some u->¬ Mut (some u)->b≠x:=fun b u q nm z=>by subst z;rw [q] at mu;exact nm mu
 refine⟨fun b u q n _ _=>k b u (hb b n) q,fun b u q n _ _=>⟨u.slots,k b u (hb b n) q⟩,fun b u q n _=>by rw [zP (hx b n)];exact n,fun b u q _=>?_,
  fun b xs q=>by rw [zP (hm b _ q fun z=>z)];exact q,fun b u xs q=>by rw [zP (hm b _ q fun z=>z)];exact q,fun b ps q=>⟨#[],by rw [zP (hm b _ q fun z=>z),q];simp⟩⟩
 by_cases hbe:b=e
 ·subst hbe;exact heo
 ·exact⟨u,k b u hbe q⟩
end
noncomputable def trk (h:Heap)(H:Hp):Ld:=(List.range h.objs.size).filter fun a=>(H a).isSome
noncomputable def hidT (h:Heap)(H:Hp):Heap:=PySem.W.hideAll h (trk h H)
theorem YQ (h:Heap)(H:Hp):(hidT h H).objs.size=h.objs.size:=PySem.W.hideAll_size _ _
theorem KW {h:Heap}{H:Hp}{b:Addr}{o:Obj}(e:h.get? b=some o)(n:H b=none):(hidT h H).get? b=some o:=
 PySem.W.hideAll_get _ e fun hm=>by
  have q:(H b).isSome=true:=(List.mem_filter.mp hm).2
  rw [n] at q;simp at q
theorem zcf {h:Heap}{H:Hp}{b:Addr}{o:Obj}(e:(hidT h H).get? b=some o):h.get? b=some o/\H b=none:=by
 have e':h.get? b=some o:=PySem.W.of_hideAll (trk h H) e
 refine⟨e',?_⟩
 cases q:H b with
 | none=>rfl
 | some x=>
  have hm:b∈trk h H:=List.mem_filter.mpr ⟨Ux.mpr (Heap.lt_size e'),by simp [q]⟩
  have z:(hidT h H).get? b=none:=PySem.W.hideAll_none (trk h H) hm
  rw [z] at e;cases e
noncomputable def zcg (g h:Heap)(L:Addr):List (Addr×Obj):=(List.range h.objs.size).filterMap fun a=>if a=L\/(g.get? a).isSome=true then none else(h.get? a).map fun o=>(a,o)
noncomputable def rest (g h:Heap)(L d:Addr):List (Addr×Obj):=(zcg g h L).filter fun p=>decide (p.1≠d)
structure Mod (K:Le)(mg:La)(base:Heap):Prop where
 kin:K.In base
 glob:base.Ns mainGlobals mg
 blt:∃ mb,base.Ns builtinsNs mb/\∀ x:Str,x≠"__name__"->mb x=bootBuiltins x
 nolimit:base.NoLimit
structure Cx where
 prog:Program
 w:World
 K:Le
 mg:Str->Option Value
 base:Heap
 A:Around
 N:Lh
 s₀:Shared
 H₀:Hp
 env:Env
 outer:List Env
 stack:List Env
 ex:Ld
 fn:Str->Bool
 calm:Bool
 pn:List (Addr×Obj)
 xe:Value->Shared->Prop
noncomputable def frs (l:List Env):Ld:=l.filterMap (·.frame)
noncomputable abbrev Cx.fs (X:Cx):Ld:=frs X.outer
def Vis (sc:Scope)(x:Str):Prop:=sc.names.lookup x=some .local\/sc.names.lookup x=some .cell\/sc.names.lookup x=some .free
def Loc (sc:Scope)(x:Str):Prop:=sc.names.lookup x=some .local\/sc.names.lookup x=some .cell
def Look (env:Env)(h:Heap)(m:La)(x:Str)(u:Value):Prop:=
 (env.kindOf x=some .local/\m x=some u)\/((env.kindOf x=some .cell\/env.kindOf x=some .free)/\∃ c,env.cells.lookup x=some c/\h.IsCell c (some u))
structure Cx.Ok (X:Cx):Prop where
 mod:Mod X.K X.mg X.base
 kind:X.env.scope.kind=.function
 glob:X.env.globals=mainGlobals
 blt:X.env.builtins=builtinsNs
 above:X.s₀.heap.objs.size<=X.env.locals
 inj:∀ x y c,X.env.cells.lookup x=some c->X.env.cells.lookup y=some c->x=y
 has:∀ x,(X.env.kindOf x=some .cell\/X.env.kindOf x=some .free)->∃ c,X.env.cells.lookup x=some c
 cab:∀ x c,X.fn x=true->X.env.cells.lookup x=some c->X.s₀.heap.objs.size<=c
 hd:X.calm=true->X.A.handled=none
 frames:X.A.frames=some X.stack
 stk:X.stack=X.outer\/(X.stack=X.env::X.outer/\X.env.frame=some X.env.locals)
 exf:∀ b∈X.ex,b≠X.env.locals/\∀ x c,X.env.cells.lookup x=some c->c≠b
 bs:∀ b o,X.base.get? b=some o->X.s₀.heap.get? b=some o/\X.H₀ b=none
 bsz:X.base.objs.size<=X.s₀.heap.objs.size
 noex:∀ b o,X.base.get? b=some o->b∉X.ex
 exfs:∀ b∈X.ex,b∉X.fs
 funs:X.s₀.heap.FunFrames X.base X.outer
 frf:∀ b∈X.fs,X.H₀ b=none
structure Inv (X:Cx)(pins:List (Addr×Obj))(σ:List (Option V))(H:Hp)(s:Shared):Prop where
 ok:X.Ok
 os:s.os=X.s₀.os
 bare:AllBare s.gens
 base:Un X.fs X.ex X.H₀ H X.s₀.heap s.heap
 loc:∃ m,s.heap.Ns X.env.locals m/\∀ (i:Nat) (x:Str) (v:V),X.N[i]? = some x->σ[i]? = some (some v)->Vis X.env.scope x->∃ u,RelV v u/\Look X.env s.heap m x u
 cell:∀ x c,X.env.cells.lookup x=some c->∃ v,s.heap.IsCell c v
 free:H X.env.locals=none
 freeC:∀ x c,X.env.cells.lookup x=some c->H c=none
 pin:∀ p∈X.pn++pins,s.heap.get? p.1=some p.2/\H p.1=none/\p.1≠X.env.locals/\p.1∉X.fs/\∀ v,p.2.data≠.cell v
 hok:HOk X.prog X.w H s.heap
 len:σ.length=X.N.length
section
variable {X:Cx} {pins:List (Addr×Obj)} {σ:List (Option V)} {H H':Hp} {s:Shared} {h':Heap}
theorem Cx.Ok.nofr (ok:X.Ok){b:Addr}{o:Obj}(e:X.base.get? b=some o):b∉X.fs:=fun hb=>by
 have:=(ok.funs.mem hb).1
 rw [e] at this;cases this
theorem Inv.bs (I:Inv X pins σ H s):∀ b o,X.base.get? b=some o->s.heap.get? b=some o/\H b=none:=fun b o e=>
 ⟨I.base.keep b o (I.ok.bs b o e).1 (I.ok.bs b o e).2 (I.ok.nofr e) (I.ok.noex b o e),I.base.free b o (I.ok.bs b o e).1 (I.ok.bs b o e).2 (I.ok.noex b o e)⟩
theorem Inv.bk (I:Inv X pins σ H s):∀ b o,X.base.get? b=some o->s.heap.get? b=some o:=fun b o e=>(I.bs b o e).1
theorem Inv.mod (I:Inv X pins σ H s):Mod X.K X.mg X.base:=I.ok.mod
theorem Inv.kIn (I:Inv X pins σ H s):X.K.In s.heap:=I.ok.mod.kin.keeps I.bk
theorem Inv.lt (I:Inv X pins σ H s):X.env.locals<s.heap.objs.size:=let ⟨_,hn,_⟩:=I.loc;hn.lt
theorem Inv.sz (I:Inv X pins σ H s):X.s₀.heap.objs.size<=s.heap.objs.size:=uN I.ok.above (Nat.le_of_lt I.lt)
theorem Inv.nofs (I:Inv X pins σ H s){a:Addr}(h:s.heap.objs.size<=a):a∉X.fs:=fun hb=>by
 obtain⟨_,o,ho,_⟩:=I.ok.funs.mem hb
 exact absurd (uE (Heap.lt_size ho) (uN I.sz h)) (u4 _)
theorem Inv.cne (I:Inv X pins σ H s):∀ x c,X.env.cells.lookup x=some c->c≠X.env.locals:=fun x c e z=>by
 obtain⟨v,o,ho,hd⟩:=I.cell x c e
 obtain⟨m,⟨o',es,ep,ho',hd',_⟩,_⟩:=I.loc
 rw [z,ho'] at ho;cases ho;rw [hd'] at hd;cases hd
theorem Inv.funs (I:Inv X pins σ H s):s.heap.FunFrames X.base X.outer:=by
 have all:∀ (l:List Env),(∀ b∈frs l,b∈X.fs)->X.s₀.heap.FunFrames X.base l->s.heap.FunFrames X.base l:=by
  intro l
  induction l with
  | nil=>intro _ _;trivial
  | cons env r ih=>
   intro hs hl
   obtain⟨hk,⟨L,o,hf,hn,ho,hd⟩,hr⟩:=hl
   have hL:L∈X.fs:=hs L (by unfold frs;rw [gw,hf];exact ui)
   obtain⟨sl,e⟩:=I.base.slot L o ho (I.ok.frf L hL) hL fun z=>I.ok.exfs L z hL
   exact⟨hk,⟨L,_,hf,hn,e,hd⟩,ih (fun b hb=>hs b (by unfold frs;rw [gw,hf];exact uk _ hb)) hr⟩
 exact all X.outer (fun _ hb=>hb) I.ok.funs
theorem Inv.stack (I:Inv X pins σ H s):s.heap.FunFrames X.base X.stack:=by
 rcases I.ok.stk with e | ⟨e,hf⟩
 ·rw [e];exact I.funs
 ·rw [e]
  obtain⟨m,hn,_⟩:=I.loc
  refine .cons (by rw [I.ok.kind];decide) hf hn ?_ I.funs
  exact Heap.get?_none_of_le (uN I.ok.bsz I.ok.above)
theorem Inv.stkSub (I:Inv X pins σ H s):∀ b∈frs X.stack,b∈X.env.locals::X.fs:=fun b hb=>by
 rcases I.ok.stk with e | ⟨e,hf⟩
 ·rw [e] at hb;exact uk _ hb
 ·rw [e] at hb
  unfold frs at hb
  rw [gw,hf] at hb
  exact hb
theorem Inv.stkFree (I:Inv X pins σ H s):∀ b∈frs X.stack,H b=none:=fun b hb=>by
 rcases uh.mp (I.stkSub b hb) with e | hb
 ·rw [e];exact I.free
 ·obtain⟨_,o,ho,_⟩:=I.ok.funs.mem hb
  exact I.base.free b o ho (I.ok.frf b hb) fun z=>I.ok.exfs b z hb
theorem Inv.step {g':Array GenState}{t':Nat}{d':Drawn}{ch:Ld}(I:Inv X pins σ H s)
  (hch:∀ b∈ch,(b∈X.ex\/X.s₀.heap.objs.size<=b)/\b≠X.env.locals/\(∀ x c,X.env.cells.lookup x=some c->c≠b)/\∀ p∈X.pn++pins,p.1≠b)
  (keep:∀ b o,b≠X.env.locals->b∉X.fs->b∉ch->s.heap.get? b=some o->H b=none->h'.get? b=some o)
  (slot:∀ b o,b≠X.env.locals->b∈X.fs->b∉ch->s.heap.get? b=some o->H b=none->∃ sl,h'.get? b=some { o with slots:=sl }) (free:∀ b o,b∉ch->s.heap.get? b=some o->H b=none->H' b=none)
  (there:∀ b o,b∉ch->s.heap.get? b=some o->∃ o',h'.get? b=some o')
  (tups:∀ b xs,H b=some (.tup xs)->H' b=some (.tup xs)) (frzs:∀ b o u,H b=some (.frz o u)->H' b=some (.frz o u)) (tbls:∀ b ps,H b=some (.tbl ps)->∃ more,H' b=some (.tbl (ps++more)))
  (ns:∀ m,s.heap.Ns X.env.locals m->h'.Ns X.env.locals m) (hok:HOk X.prog X.w H' h') (hg:AllBare g') :
  Inv X pins σ H' { s with heap:=h',gens:=g',drawn:=d',toks:=t' }:=by
 have neL:∀ b o,X.s₀.heap.get? b=some o->b≠X.env.locals:=fun b o e=>uX (uE (Heap.lt_size e) I.ok.above)
 have neC:∀ b o,X.s₀.heap.get? b=some o->b∉X.ex->b∉ch:=fun b o e hx hb=>by
  rcases(hch b hb).1 with z | z
  ·exact hx z
  ·exact absurd (uE (Heap.lt_size e) z) (u4 _)
 have cellK:∀ x c,X.env.cells.lookup x=some c->∀ v,s.heap.IsCell c v->h'.IsCell c v:=fun x c e v ⟨o,ho,hd⟩=>by
  have nch:c∉ch:=fun z=>(hch c z).2.2.1 x c e rfl
  by_cases hc:c∈X.fs
  ·obtain⟨sl,q⟩:=slot c o (I.cne x c e) hc nch ho (I.freeC x c e)
   exact⟨_,q,hd⟩
  ·exact⟨o,keep c o (I.cne x c e) hc nch ho (I.freeC x c e),hd⟩
 refine⟨I.ok,I.os,hg,⟨fun b o e n hb hx=>?_,fun b o e n hb hx=>?_,fun b o e n hx=>?_,fun b o e hx=>?_,fun b xs e=>tups b xs (I.base.tups b xs e),fun b o xs e=>frzs b o xs (I.base.frzs b o xs e),fun b ps e=>?_⟩,?_,fun x c e=>?_,?_,fun x c e=>?_,fun p hp=>?_,hok,I.len⟩
 ·exact keep b o (neL b o e) hb (neC b o e hx) (I.base.keep b o e n hb hx) (I.base.free b o e n hx)
 ·obtain⟨sl,e1⟩:=I.base.slot b o e n hb hx
  obtain⟨sl',e2⟩:=slot b _ (neL b o e) hb (neC b o e hx) e1 (I.base.free b o e n hx)
  exact⟨sl',e2⟩
 ·obtain⟨o',e1⟩:=I.base.there b o e hx
  exact free b o' (neC b o e hx) e1 (I.base.free b o e n hx)
 ·obtain⟨o',e1⟩:=I.base.there b o e hx
  exact there b o' (neC b o e hx) e1
 ·obtain⟨m1,e1⟩:=I.base.tbls b ps e
  obtain⟨m2,e2⟩:=tbls b _ e1
  exact⟨m1++m2,by rw [e2,Array.append_assoc]⟩
 ·obtain⟨m,hn,hl⟩:=I.loc
  refine⟨m,ns m hn,fun i x v e1 e2 e3=>?_⟩
  obtain⟨u,r,l⟩:=hl i x v e1 e2 e3
  refine⟨u,r,?_⟩
  rcases l with l | ⟨k,c,e,z⟩
  ·exact .inl l
  ·exact .inr ⟨k,c,e,cellK x c e _ z⟩
 ·obtain⟨v,z⟩:=I.cell x c e
  exact⟨v,cellK x c e v z⟩
 ·obtain⟨m,⟨o,_,_,ho,_⟩,_⟩:=I.loc
  exact free _ o (fun z=>(hch _ z).2.1 rfl) ho I.free
 ·obtain⟨v,o,ho,hd⟩:=I.cell x c e
  exact free c o (fun z=>(hch c z).2.2.1 x c e rfl) ho (I.freeC x c e)
 ·obtain⟨e,n,ne,nf,d⟩:=I.pin p hp
  have nch:p.1∉ch:=fun z=>(hch p.1 z).2.2.2 p hp rfl
  exact⟨keep p.1 p.2 ne nf nch e n,free p.1 p.2 nch e n,ne,nf,d⟩
theorem Inv.un {t':Nat}(I:Inv X pins σ H s)(u:Un X.fs [] H H' s.heap h')(hok:HOk X.prog X.w H' h'):Inv X pins σ H' { s with heap:=h',toks:=t' }:=by
 obtain⟨m,⟨o,es,ep,ho,r⟩,_⟩:=id I.loc
 obtain⟨sl,hL⟩:=u.any ho I.free (by simp)
 exact I.step (g':=s.gens) (d':=s.drawn) (ch:=[]) (fun _ z=>nomatch z) (fun b o _ hb _ e n=>u.keep b o e n hb (by simp)) (fun b o _ hb _ e n=>u.slot b o e n hb (by simp)) (fun b o _ e n=>u.free b o e n (by simp)) (fun b o _ e=>u.there b o e (by simp)) u.tups u.frzs u.tbls (fun m' hm=>by
  obtain⟨o',es',ep',ho',r'⟩:=hm
  rw [ho] at ho';cases ho'
  exact⟨_,es',ep',hL,r'⟩) hok I.bare
theorem Inv.call {g':Array GenState}{t':Nat}{d':Drawn}{ch:Ld}(I:Inv X pins σ H s)(u:Un (frs X.stack) ch H H' s.heap h')(hok:HOk X.prog X.w H' h')(hg:AllBare g')
  (hch:∀ b∈ch,(b∈X.ex\/X.s₀.heap.objs.size<=b)/\b≠X.env.locals/\(∀ x c,X.env.cells.lookup x=some c->c≠b)/\∀ p∈X.pn++pins,p.1≠b) :
  Inv X pins σ H' { s with heap:=h',gens:=g',drawn:=d',toks:=t' }:=by
 obtain⟨m,⟨o,es,ep,ho,r⟩,_⟩:=id I.loc
 obtain⟨sl,hL⟩:=u.any ho I.free fun z=>(hch _ z).2.1 rfl
 exact I.step (ch:=ch) hch (fun b o hL hb hc e n=>u.keep b o e n (fun z=>(uh.mp (I.stkSub b z)).elim hL hb) hc) (fun b o _ _ hc e n=>u.any e n hc) (fun b o hc e n=>u.free b o e n hc) (fun b o hc e=>u.there b o e hc) u.tups u.frzs u.tbls (fun m' hm=>by
  obtain⟨o',es',ep',ho',r'⟩:=hm
  rw [ho] at ho';cases ho'
  exact⟨_,es',ep',hL,r'⟩) hok hg
theorem Inv.turned {t':Nat}{it:Addr}(I:Inv X pins σ H s)(k:∀ b o,b≠it->s.heap.get? b=some o->h'.get? b=some o)(hn:H it=none)(hL:it≠X.env.locals)
  (h1:it∈X.ex\/X.s₀.heap.objs.size<=it) (h2:∀ x c,X.env.cells.lookup x=some c->c≠it) (h3:∀ p∈X.pn++pins,p.1≠it):Inv X pins σ H { s with heap:=h',toks:=t' }:=by
 have nit:∀ b u,H b=some u->b≠it:=fun b u e z=>by rw [z,hn] at e;cases e
 refine I.step (g':=s.gens) (d':=s.drawn) (ch:=[it]) (fun b hb=>?_) (fun b o _ _ hc e _=>k b o (fun z=>hc (by simp [z])) e) (fun b o _ _ hc e _=>⟨o.slots,k b o (fun z=>hc (by simp [z])) e⟩) (fun _ _ _ _ n=>n)
  (fun b o hc e=>⟨o,k b o (fun z=>hc (by simp [z])) e⟩) (fun _ _ e=>e) (fun _ _ _ e=>e) (fun b ps e=>⟨#[],by rw [e];simp⟩) (fun m hm=>?_) (fun b u e=>?_) I.bare
 ·have e:b=it:=by simpa using hb
  subst e
  exact⟨h1,hL,h2,h3⟩
 ·obtain⟨o,es,ep,ho,r⟩:=hm
  exact⟨o,es,ep,k _ o (Ne.symm hL) ho,r⟩
 ·refine(I.hok b u e).stay (fun c v hc q=>k c v ?_ q) (fun _ q=>q) fun _ _ q=>q
  rcases hc with z | z
  ·rw [z];exact nit b u e
  ·exact nit c _ z
theorem Inv.tok (I:Inv X pins σ H s)(t:Nat):Inv X pins σ H { s with toks:=t }:=I.un (h':=s.heap) (t':=t) Un.refl I.hok
theorem Inv.kept {t':Nat}(I:Inv X pins σ H s)(k:∀ b u,s.heap.get? b=some u->h'.get? b=some u):Inv X pins σ H { s with heap:=h',toks:=t' }:=I.un (Un.kept k) (I.hok.kept k)
theorem Inv.laid {a:Addr}{o:HO}{t':Nat}(I:Inv X pins σ H s)(k:∀ b u,s.heap.get? b=some u->h'.get? b=some u)(hp:s.heap.objs.size<=a)(new:zR X.prog X.w (upd H a o) h' a o) :
  Inv X pins σ (upd H a o) { s with heap:=h',toks:=t' }:=I.un (Un.laid k hp (I.hok.fresh hp)) (I.hok.laid k hp new)
theorem Inv.write {x e:Addr}{o:HO}{t':Nat}(I:Inv X pins σ H s)(mu:Mut (H x))(he:e=x\/H e=some (.own x))(k:∀ b u,b≠e->s.heap.get? b=some u->h'.get? b=some u)(heo:∃ u,h'.get? e=some u)
  (new:zR X.prog X.w (upd H x o) h' x o):Inv X pins σ (upd H x o) { s with heap:=h',toks:=t' }:=I.un (Un.write mu he k heo) (I.hok.write mu he k heo new)
theorem Inv.pins_of {pins':List (Addr×Obj)}(I:Inv X pins σ H s)(h:∀ p∈pins',s.heap.get? p.1=some p.2/\H p.1=none/\p.1≠X.env.locals/\p.1∉X.fs/\∀ v,p.2.data≠.cell v):Inv X pins' σ H s:=
 ⟨I.ok,I.os,I.bare,I.base,I.loc,I.cell,I.free,I.freeC,fun p hp=>(uC.mp hp).elim (fun z=>I.pin p (uS _ z)) (h p),I.hok,I.len⟩
theorem WO {N:Lh}(hN:N.Nodup){i j:Nat}{x:Str}(a:N[i]? = some x)(b:N[j]? = some x):i=j:=by
 obtain⟨h1,e1⟩:=uM.mp a
 obtain⟨h2,e2⟩:=uM.mp b
 exact(List.getElem_inj hN).mp (e1.trans e2.symm)
theorem Jc {M:Model}{A:Around}{E:Value->Shared->Prop}{i:Nat}{x:Str}{v:V}{u:Value}{Q:Unit->Shared->Prop}(I:Inv X pins σ H s)(hN:X.N.Nodup)(hi:X.N[i]? = some x)(hx:Loc X.env.scope x)(r:RelV v u)
  (h:∀ s',Inv X pins (σ.set i (some v)) H s'->(∃ a,Heap.SameBut a s.heap s'.heap/\(a=X.env.locals\/X.env.cells.lookup x=some a))->Q () s') (hf:X.fn x=true\/X.env.scope.names.lookup x=some .local:=by first | exact .inl rfl | exact .inr rfl | assumption):wpAny M A (storeName X.env x u) Q E s:=by
 obtain⟨m,hn,hl⟩:=id I.loc
 have hcls:(X.env.scope.kind == .class||(X.env.scope.kind == .module&&X.env.locals != X.env.globals))=false:=by rw [I.ok.kind];rfl
 have hiσ:i<σ.length:=by rw [I.len];exact(uM.mp hi).1
 have cne:=I.cne
 have tracked:∀ {a:Addr} {h':Heap},(∃ o,s.heap.get? a=some o/\H a=none)->Heap.SameBut a s.heap h'->HOk X.prog X.w H h':=fun {a h'} ha hs b ob e=>by
  obtain⟨_,_,hfree⟩:=ha
  refine(I.hok b ob e).stay (fun c w' hc q=>(hs.2 c ?_).trans q) (fun _ q=>q) fun _ _ q=>q
  rintro rfl
  rcases hc with rfl | hc
  ·rw [hfree] at e;cases e
  ·rw [hfree] at hc;cases hc
 rcases hx with hk | hk
 ·refine wpAny_storeName_local hk hn (fun h' hn' hs=>?_) hcls
  obtain⟨oL,_,_,hoL,_⟩:=id hn
  refine h _ ⟨I.ok,I.os,I.bare,⟨fun b o e n hb hx=>?_,fun b o e n hb hx=>?_,I.base.free,fun b o e hx=>?_,I.base.tups,I.base.frzs,I.base.tbls⟩,⟨_,hn',fun j y v' e1 e2 e3=>?_⟩,fun y c e=>?_,I.free,I.freeC,fun p hp=>?_,tracked ⟨oL,hoL,I.free⟩ hs,by simpa using I.len⟩ ⟨_,hs,.inl rfl⟩
  ·exact(hs.2 b (uX (uE (Heap.lt_size e) I.ok.above))).trans (I.base.keep b o e n hb hx)
  ·obtain⟨sl,e1⟩:=I.base.slot b o e n hb hx
   exact⟨sl,(hs.2 b (uX (uE (Heap.lt_size e) I.ok.above))).trans e1⟩
  ·obtain⟨o',e1⟩:=I.base.there b o e hx
   exact⟨o',(hs.2 b (uX (uE (Heap.lt_size e) I.ok.above))).trans e1⟩
  ·by_cases hj:j=i
   ·subst hj
    rw [hi] at e1;cases e1
    rw [uO hiσ] at e2
    cases e2
    exact⟨u,r,.inl ⟨hk,by simp⟩⟩
   ·rw [Uk (Ne.symm hj)] at e2
    obtain⟨u',r',q⟩:=hl j y v' e1 e2 e3
    refine⟨u',r',?_⟩
    rcases q with⟨k,e⟩ | ⟨k,c,e,z⟩
    ·refine .inl ⟨k,?_⟩
     have:y≠x:=fun e=>hj (WO hN e1 (e ▸ hi))
     simp [this,e]
    ·exact .inr ⟨k,c,e,z.sameBut hs (cne y c e)⟩
  ·obtain⟨w',z⟩:=I.cell y c e
   exact⟨w',z.sameBut hs (cne y c e)⟩
  ·obtain⟨e,n,ne,nf,d⟩:=I.pin p hp
   exact⟨(hs.2 p.1 ne).trans e,n,ne,nf,d⟩
 ·have hfn:X.fn x=true:=by
   rcases hf with z | z
   ·exact z
   ·rw [z] at hk;cases hk
  obtain⟨c,hc⟩:=I.ok.has x (.inl hk)
  obtain⟨w',z⟩:=I.cell x c hc
  refine wpAny_storeName_cell I.ok.kind hk hc z (fun h' hc' hs=>?_)
  obtain⟨oc,hoc,hocd⟩:=id z
  refine h { s with heap:=h' } ⟨I.ok,I.os,I.bare,⟨fun b o e n hb hx=>?_,fun b o e n hb hx=>?_,I.base.free,fun b o e hx=>?_,I.base.tups,I.base.frzs,I.base.tbls⟩,⟨m,hn.sameBut hs (Ne.symm (cne x c hc)),fun j y v' e1 e2 e3=>?_⟩,fun y c' e=>?_,I.free,I.freeC,fun p hp=>?_,tracked ⟨oc,hoc,I.freeC x c hc⟩ hs,by simpa using I.len⟩ ⟨c,hs,.inr hc⟩
  ·exact(hs.2 b (uX (uE (Heap.lt_size e) (I.ok.cab x c hfn hc)))).trans (I.base.keep b o e n hb hx)
  ·obtain⟨sl,e1⟩:=I.base.slot b o e n hb hx
   exact⟨sl,(hs.2 b (uX (uE (Heap.lt_size e) (I.ok.cab x c hfn hc)))).trans e1⟩
  ·obtain⟨o',e1⟩:=I.base.there b o e hx
   exact⟨o',(hs.2 b (uX (uE (Heap.lt_size e) (I.ok.cab x c hfn hc)))).trans e1⟩
  ·by_cases hj:j=i
   ·subst hj
    rw [hi] at e1;cases e1
    rw [uO hiσ] at e2
    cases e2
    exact⟨u,r,.inr ⟨.inl hk,c,hc,hc'⟩⟩
   ·rw [Uk (Ne.symm hj)] at e2
    obtain⟨u',r',q⟩:=hl j y v' e1 e2 e3
    refine⟨u',r',?_⟩
    rcases q with q | ⟨k,c',e,z'⟩
    ·exact .inl q
    ·refine .inr ⟨k,c',e,z'.sameBut hs ?_⟩
     rintro rfl
     exact hj (WO hN e1 (I.ok.inj _ _ _ e hc ▸ hi))
  ·by_cases hcc:c' = c
   ·subst hcc;exact⟨_,hc'⟩
   ·obtain⟨w2,z2⟩:=I.cell y c' e
    exact⟨w2,z2.sameBut hs hcc⟩
  ·obtain⟨e,n,ne,nf,d⟩:=I.pin p hp
   refine⟨(hs.2 p.1 ?_).trans e,n,ne,nf,d⟩
   intro q
   rw [q,hoc] at e
   have q':oc=p.2:=uG e
   exact d w' (by rw [← q'];exact hocd)
theorem ZX {M:Model}{A:Around}{E:Value->Shared->Prop}{i:Nat}{x:Str}{v:V}{u:Value}{Q:Unit->Shared->Prop}(I:Inv X pins σ H s)(hN:X.N.Nodup)(hi:X.N[i]? = some x)(hx:Loc X.env.scope x)(r:RelV v u)
  (h:∀ s',Inv X pins (σ.set i (some v)) H s'->Q () s') (hf:X.fn x=true\/X.env.scope.names.lookup x=some .local:=by first | exact .inl rfl | exact .inr rfl | assumption):wpAny M A (storeName X.env x u) Q E s:=
 Jc I hN hi hx r (fun s' I' _=>h s' I') hf
theorem Inv.call' {s':Shared}{ch:Ld}(I:Inv X pins σ H s)(ho:s'.os=s.os)(u:Un (frs X.stack) ch H H' s.heap s'.heap)(hok:HOk X.prog X.w H' s'.heap)(hg:AllBare s'.gens)
  (hch:∀ b∈ch,(b∈X.ex\/X.s₀.heap.objs.size<=b)/\b≠X.env.locals/\(∀ x c,X.env.cells.lookup x=some c->c≠b)/\∀ p∈X.pn++pins,p.1≠b):Inv X pins σ H' s':=by
 obtain⟨h',g',d',t',o'⟩:=s'
 have e:o' = s.os:=ho
 subst e
 exact I.call (g':=g') (t':=t') (d':=d') u hok hg hch
end
noncomputable abbrev XK:=Value->Option Addr->Hp->Prop
noncomputable abbrev St:=List (Option V)
noncomputable abbrev VK:=V->Hp->Prop
noncomputable abbrev TE:=St->Hp->VK->Prop
noncomputable abbrev TT:=St->Hp->(Bool->Hp->Prop)->Prop
noncomputable abbrev TA:=St->Hp->(List V->Hp->Prop)->Prop
structure Ends where
 nx:St->Hp->Prop
 rt:VK
 bk:St->Hp->Prop:=fun _ _=>False
 ct:St->Hp->Prop:=fun _ _=>False
noncomputable abbrev TS:=Ends->St->Hp->Prop
def EP (X:Cx)(pins:List (Addr×Obj))(σ:St)(Q:VK)(u:Value)(s':Shared):Prop:=∃ v H',Inv X pins σ H' s'/\RelV v u/\Q v H'
def TP (X:Cx)(pins:List (Addr×Obj))(σ:St)(Q:Bool->Hp->Prop)(b:Bool)(s':Shared):Prop:=∃ H',Inv X pins σ H' s'/\Q b H'
def AP (X:Cx)(pins:List (Addr×Obj))(σ:St)(Q:List V->Hp->Prop)(us:Lf)(s':Shared):Prop:=∃ vs H',Inv X pins σ H' s'/\Vals vs us/\Q vs H'
def SP (X:Cx)(pins:List (Addr×Obj))(D:Ends)(f:Flow)(s':Shared):Prop:=
 match f with
 | .next=>∃ σ' H',Inv X pins σ' H' s'/\D.nx σ' H'
 | .brk=>∃ σ' H',Inv X pins σ' H' s'/\D.bk σ' H'
 | .cont=>∃ σ' H',Inv X pins σ' H' s'/\D.ct σ' H'
 | .ret u=>∃ v σ' H',Inv X pins σ' H' s'/\RelV v u/\D.rt v H'
def PE (X:Cx)(e:Expr)(t:TE):Prop:=
 ∀ (pins:List (Addr×Obj)) (s:Shared) (σ:St) (H:Hp) (Q:VK),Inv X pins σ H s->t σ H Q->wpAny (model X.prog X.w) X.A (eval e X.env) (EP X pins σ Q) X.xe s
def PT (X:Cx)(e:Expr)(t:TT):Prop:=
 ∀ (pins:List (Addr×Obj)) (s:Shared) (σ:St) (H:Hp) (Q:Bool->Hp->Prop),Inv X pins σ H s->t σ H Q->wpAny (model X.prog X.w) X.A (isTrue e X.env (eval e X.env)) (TP X pins σ Q) X.xe s
def PW (X:Cx)(e:Expr)(t:TT):Prop:=
 ∀ (whole:Sem Value) (pins:List (Addr×Obj)) (s:Shared) (σ:St) (H:Hp) (Q:Bool->Hp->Prop),Inv X pins σ H s->t σ H Q->wpAny (model X.prog X.w) X.A (isTrue e X.env whole) (TP X pins σ Q) X.xe s
theorem PW.pt {X:Cx}{e:Expr}{t:TT}(h:PW X e t):PT X e t:=h _
def PA (X:Cx)(es:Lg)(t:TA):Prop:=
 ∀ (pos:Pos) (pins:List (Addr×Obj)) (s:Shared) (σ:St) (H:Hp) (Q:List V->Hp->Prop),Inv X pins σ H s->t σ H Q->wpAny (model X.prog X.w) X.A (spliced (backTo pos (starEach es X.env))) (AP X pins σ Q) X.xe s
def PS (X:Cx)(st:Stmt)(t:TS):Prop:=
 ∀ (pins:List (Addr×Obj)) (s:Shared) (σ:St) (H:Hp) (D:Ends),Inv X pins σ H s->t D σ H->wpAny (model X.prog X.w) X.A (exec st X.env) (SP X pins D) X.xe s
def PSs (X:Cx)(st:List Stmt)(t:TS):Prop:=
 ∀ (pins:List (Addr×Obj)) (s:Shared) (σ:St) (H:Hp) (D:Ends),Inv X pins σ H s->t D σ H->wpAny (model X.prog X.w) X.A (execs st X.env) (SP X pins D) X.xe s
theorem thn {α:Type}{t:Sem α}{Q Q':α->Shared->Prop}{M:Model}{A:Around}{E:Value->Shared->Prop}{s:Shared}(h:wpAny M A t Q E s)(hQ:∀ a s,Q a s->Q' a s):wpAny M A t Q' E s:=wpAny_mono h hQ fun _ _ x=>x
section
variable {X:Cx}
theorem bin {a b:Expr}{ta tb:TE}(ha:PE X a ta)(hb:PE X b tb){pins:List (Addr×Obj)}{s:Shared}{σ:St}{H:Hp}{R:V->V->Hp->Prop}(I:Inv X pins σ H s)(h:ta σ H fun x H1=>tb σ H1 fun y H2=>R x y H2)
  {α:Type} {Q:α->Shared->Prop} {f:Value->Value->Sem α}
  (hf:∀ v u s2 x y H2,Inv X pins σ H2 s2->RelV x v->RelV y u->R x y H2->wpAny (model X.prog X.w) X.A (f v u) Q X.xe s2) :
  wpAny (model X.prog X.w) X.A (eval a X.env) (fun v s₁=>wpAny (model X.prog X.w) X.A (eval b X.env) (fun u s₂=>wpAny (model X.prog X.w) X.A (f v u) Q X.xe s₂) X.xe s₁) X.xe s:=by
 refine thn (ha pins s σ H _ I h) fun v s1 ⟨x,H1,I1,r1,q1⟩=>?_
 refine thn (hb pins s1 σ H1 _ I1 q1) fun u s2 ⟨y,H2,I2,r2,q2⟩=>?_
 exact hf v u s2 x y H2 I2 r1 r2 q2
noncomputable def tVar (i:Nat):TE:=fun σ H Q=>∃ v,σ[i]? = some (some v)/\Q v H
noncomputable def tC (v:V):TE:=fun _ H Q=>Q v H
theorem zes {i:Nat}{x:Str}{pos:Pos}(hN:X.N[i]? = some x)(hv:Vis X.env.scope x)(hd:(x == ("__debug__":Str))=false:=by decide) (hcd:(x == ("__classdict__":Str))=false:=by decide):PE X (.Name x pos) (tVar i):=by
 intro pins s σ H Q I h
 obtain⟨v,e,h⟩:=h
 obtain⟨m,hn,hl⟩:=I.loc
 obtain⟨u,r,l⟩:=hl i x v hN e hv
 have fin:EP X pins σ Q u s:=⟨v,H,I,r,h⟩
 rcases l with⟨hk,hm⟩ | ⟨hk,c,hc,hcell⟩
 ·exact wpAny_Name (wpAny_loadName_local I.ok.kind hk hn hm fin) hd
 ·rcases hk with hk | hk
  ·exact wpAny_Name (wpAny_loadName_cell I.ok.kind hk hc hcell fin) hd
  ·exact wpAny_Name (wpAny_loadName_free I.ok.kind hk hc hcell fin hcd) hd
theorem KY {i j pos}:PE X (.Constant (.int i) j pos) (tC (.int i)):=fun _ _ _ H _ I h=>wpAny_Constant_int ⟨.int i,H,I.tok _,⟨_,rfl⟩,h⟩
theorem zgT {b j pos}:PE X (.Constant (.bool b) j pos) (tC (.bl b)):=fun _ _ _ H _ I h=>Constant_bool ⟨.bl b,H,I,rfl,h⟩
theorem zet {j pos}:PE X (.Constant .none j pos) (tC .non):=fun _ _ _ H _ I h=>Constant_none ⟨.non,H,I,rfl,h⟩
theorem zeu {x j pos}:PE X (.Constant (.str x) j pos) (tC (.str x)):=fun _ _ _ H _ I h=>Calls.Constant_str ⟨.str x,H,I.tok _,⟨_,rfl⟩,h⟩
def Gl (X:Cx)(x:Str):Prop:=X.env.kindOf x=some .globalImplicit
theorem yL {E:Value->Shared->Prop}{pins:List (Addr×Obj)}{s:Shared}{σ:St}{H:Hp}{x:Str}{u:Value}{pos:Pos}{Q:Value->Shared->Prop}(I:Inv X pins σ H s)(hg:Gl X x)(hm:X.mg x=some u)(h:Q u s)
  (hd:(x == ("__debug__":Str))=false:=by decide):wpAny (model X.prog X.w) X.A (eval (.Name x pos) X.env) Q E s:=
 Calls.Name_function_global I.ok.kind hg (Calls.loadGlobal_global (by rw [I.ok.glob];exact I.mod.glob.keeps I.bk) hm h) hd
theorem xa {E:Value->Shared->Prop}{pins:List (Addr×Obj)}{s:Shared}{σ:St}{H:Hp}{x:Str}{u:Value}{pos:Pos}{Q:Value->Shared->Prop}(I:Inv X pins σ H s)(hg:Gl X x)(hm:X.mg x=none)(hv:bootBuiltins x=some u)(h:Q u s)
  (hn:x≠"__name__":=by decide) (hd:(x == ("__debug__":Str))=false:=by decide):wpAny (model X.prog X.w) X.A (eval (.Name x pos) X.env) Q E s:=by
 obtain⟨mb,h1,h2⟩:=I.mod.blt
 exact Calls.Name_function_global I.ok.kind hg (Calls.loadGlobal_builtin (by rw [I.ok.glob];exact I.mod.glob.keeps I.bk) hm (by rw [I.ok.blt];exact h1.keeps I.bk) ((h2 x hn).trans hv) h) hd
theorem zch {x:Str}{v:V}{u:Value}{pos:Pos}(hg:Gl X x)(hm:X.mg x=some u)(r:RelV v u)(hd:(x == ("__debug__":Str))=false:=by decide):PE X (.Name x pos) (tC v):=
 fun _ _ _ H _ I h=>yL I hg hm ⟨v,H,I,r,h⟩ hd
theorem zci {x:Str}{v:V}{u:Value}{pos:Pos}(hg:Gl X x)(hm:X.mg x=none)(hv:bootBuiltins x=some u)(r:RelV v u)(hn:x≠"__name__":=by decide) (hd:(x == ("__debug__":Str))=false:=by decide):PE X (.Name x pos) (tC v):=
 fun _ _ _ H _ I h=>xa I hg hm hv ⟨v,H,I,r,h⟩ hn hd
variable {a b:Expr} {ta tb:TE} {pos:Pos}
variable {tA tB':TT} {rest:Lg}
noncomputable def tAnd (t u:TT):TT:=fun σ H Q=>t σ H fun c H1=>if c=true then u σ H1 Q else Q false H1
noncomputable def tOr (t u:TT):TT:=fun σ H Q=>t σ H fun c H1=>if c=true then Q true H1 else u σ H1 Q
noncomputable def tNot (t:TT):TT:=fun σ H Q=>t σ H fun c H1=>Q (!c) H1
theorem zcj (ha:PT X a tA):PW X (.BoolOp .And [a] pos) tA:=by
 intro wh pins s σ H Q I h
 refine isTrue_and (thn (ha pins s σ H Q I h) fun c s1 e=>?_)
 cases c with
 | true=>exact isTrue_and_nil e
 | false=>exact e
theorem zew (ha:PT X a tA):PW X (.BoolOp .Or [a] pos) tA:=by
 intro wh pins s σ H Q I h
 refine isTrue_or (thn (ha pins s σ H Q I h) fun c s1 e=>?_)
 cases c with
 | false=>exact isTrue_or_nil e
 | true=>exact e
theorem zex (ha:PT X a tA)(hb:PW X (.BoolOp .And (b::rest) pos) tB'):PW X (.BoolOp .And (a::b::rest) pos) (tAnd tA tB'):=by
 intro wh pins s σ H Q I h
 refine isTrue_and (thn (ha pins s σ H _ I h) fun c s1 ⟨H1,I1,q1⟩=>?_)
 cases c with
 | true=>exact hb wh pins s1 σ H1 Q I1 q1
 | false=>exact⟨H1,I1,q1⟩
theorem zgU (ha:PT X a tA)(hb:PW X (.BoolOp .Or (b::rest) pos) tB'):PW X (.BoolOp .Or (a::b::rest) pos) (tOr tA tB'):=by
 intro wh pins s σ H Q I h
 refine isTrue_or (thn (ha pins s σ H _ I h) fun c s1 ⟨H1,I1,q1⟩=>?_)
 cases c with
 | true=>exact⟨H1,I1,q1⟩
 | false=>exact hb wh pins s1 σ H1 Q I1 q1
theorem zey (ha:PT X a tA):PT X (.UnaryOp .Not a pos) (tNot tA):=by
 intro pins s σ H Q I h
 exact isTrue_not (ha pins s σ H (fun c H1=>Q (!c) H1) I h)
noncomputable def zdG (ta tb:TE):TE:=fun σ H Q=>ta σ H fun x H1=>∃ c,x=.bl c/\if c=true then tb σ H1 Q else Q (.bl false) H1
noncomputable def tOrV (ta tb:TE):TE:=fun σ H Q=>ta σ H fun x H1=>∃ c,x=.bl c/\if c=true then Q (.bl true) H1 else tb σ H1 Q
noncomputable def zdH (ta:TE):TE:=fun σ H Q=>ta σ H fun x H1=>∃ c,x=.bl c/\Q (.bl (!c)) H1
theorem zez {op}{t:TE}(h:PE X a t):PE X (.BoolOp op [a] pos) t:=fun pins s σ H Q I hw=>BoolOp_one (h pins s σ H Q I hw)
theorem zeA (ha:PE X a ta)(hb:PE X (.BoolOp .And (b::rest) pos) tb):PE X (.BoolOp .And (a::b::rest) pos) (zdG ta tb):=by
 intro pins s σ H Q I h
 refine BoolOp_and (thn (ha pins s σ H _ I h) fun v s1 ⟨x,H1,I1,r1,q1⟩=>?_)
 obtain⟨c,rfl,q1⟩:=q1
 cases r1
 refine wpAny_truthy_bool ?_
 cases c with
 | true=>exact hb pins s1 σ H1 Q I1 q1
 | false=>exact⟨.bl false,H1,I1,rfl,q1⟩
theorem zgV (ha:PE X a ta)(hb:PE X (.BoolOp .Or (b::rest) pos) tb):PE X (.BoolOp .Or (a::b::rest) pos) (tOrV ta tb):=by
 intro pins s σ H Q I h
 refine BoolOp_or (thn (ha pins s σ H _ I h) fun v s1 ⟨x,H1,I1,r1,q1⟩=>?_)
 obtain⟨c,rfl,q1⟩:=q1
 cases r1
 refine wpAny_truthy_bool ?_
 cases c with
 | false=>exact hb pins s1 σ H1 Q I1 q1
 | true=>exact⟨.bl true,H1,I1,rfl,q1⟩
theorem zeB (ha:PE X a ta):PE X (.UnaryOp .Not a pos) (zdH ta):=by
 intro pins s σ H Q I h
 refine UnaryOp_ (thn (ha pins s σ H _ I h) fun v s1 ⟨x,H1,I1,r1,q1⟩=>?_)
 obtain⟨c,rfl,q1⟩:=q1
 cases r1
 exact not_of (wpAny_truthy_bool ⟨.bl (!c),H1,I1,rfl,q1⟩)
noncomputable def tIf (t:TT)(ta tb:TE):TE:=fun σ H Q=>t σ H fun c H1=>if c=true then ta σ H1 Q else tb σ H1 Q
theorem KZ {c:Expr}(hc:PT X c tA)(ha:PE X a ta)(hb:PE X b tb):PE X (.IfExp c a b pos) (tIf tA ta tb):=by
 intro pins s σ H Q I h
 refine wpAny_IfExp (thn (hc pins s σ H _ I h) fun d s1 ⟨H1,I1,q1⟩=>?_)
 cases d with
 | true=>exact ha pins s1 σ H1 Q I1 q1
 | false=>exact hb pins s1 σ H1 Q I1 q1
end
def SqL (K:Le)(H:Hp)(a:Addr)(xs:List V):Prop:=
 Rd H a (.lst xs) \/
  ∃ (o:Obj) (its:Array Value) (n:Nat),K.lookup a=some o/\o.cls=.type "list"/\o.dict=none/\o.data=.seq its n/\its.size<=sizeLine/\Vals xs its.toList
def SqT (K:Le)(H:Hp)(a:Addr)(xs:List V):Prop:=
 Rd H a (.tup xs) \/
  ∃ (o:Obj) (its:Array Value) (n:Nat),K.lookup a=some o/\o.cls=.type "tuple"/\o.data=.seq its n/\its.size<=sizeLine/\Vals xs its.toList
noncomputable def absV:Value->Option V
 | .none=>some .non
 | .bool b=>some (.bl b)
 | .int i _=>some (.int i)
 | .str x _=>some (.str x)
 | .bytes b _=>some (.byt b)
 | .float b _=>some (.flt b)
 | .ref a=>some (.ref a)
 | .type n=>some (.ty n)
 | _=>none
theorem RelV.abs {x:V}{u:Value}(r:RelV x u):absV u=some x:=by
 cases x with
 | non=>cases r;rfl
 | bl _=>cases r;rfl
 | int _=>obtain⟨t,rfl⟩:=r;rfl
 | str _=>obtain⟨t,rfl⟩:=r;rfl
 | byt _=>obtain⟨t,rfl⟩:=r;rfl
 | flt _=>obtain⟨t,rfl⟩:=r;rfl
 | ref _=>cases r;rfl
 | ty _=>cases r;rfl
theorem RelV.inj {x y:V}{u:Value}(r:RelV x u)(q:RelV y u):x=y:=uG (r.abs.symm.trans q.abs)
theorem Vals.inj:∀ {xs ys:List V} {us:Lf},Vals xs us->Vals ys us->xs=ys
 | _,_,_,.nil,.nil=>rfl
 | _,_,_,.cons r t,.cons r' t'=>by rw [r.inj r',Vals.inj t t']
section
variable {X:Cx} {pins:List (Addr×Obj)} {σ:St} {H:Hp} {s:Shared} {a:Addr} {xs ys:List V}
theorem SqL.of {K:Le}(h:H a=some (.lst xs)):SqL K H a xs:=.inl (.inl h)
theorem SqT.of {K:Le}(h:H a=some (.tup xs)):SqT K H a xs:=.inl (.inl h)
theorem Inv.list (I:Inv X pins σ H s)(h:SqL X.K H a xs):∃ its:Lf,Vals xs its/\PlainL s.heap a its.toArray/\xs.length<=sizeLine:=by
 rcases h with h | ⟨o,its,n,hk,hc,hd,hs,hz,r⟩
 ·obtain⟨z,its,n,r,e⟩:=h.ok I.hok
  exact⟨its,r,⟨_,n,e,rfl,rfl,rfl⟩,z⟩
 ·refine⟨its.toList,r,⟨o,n,I.kIn a o hk,hc,hd,by simpa using hs⟩,?_⟩
  have e:=r.length
  simp only [gx] at e
  lia
theorem Inv.tuple (I:Inv X pins σ H s)(h:SqT X.K H a xs):∃ its:Lf,Vals xs its/\IsTup s.heap a its.toArray/\xs.length<=sizeLine:=by
 rcases h with h | ⟨o,its,n,hk,hc,hs,hz,r⟩
 ·obtain⟨z,its,r,p⟩:=h.ok I.hok
  exact⟨its,r,p,z⟩
 ·refine⟨its.toList,r,⟨o,I.kIn a o hk,hc,n,by simpa using hs⟩,?_⟩
  have e:=r.length
  simp only [gx] at e
  lia
theorem Inv.list_inj (I:Inv X pins σ H s)(h:SqL X.K H a xs)(h':SqL X.K H a ys):xs=ys:=by
 obtain⟨its,r,⟨o,n,e,_,_,d⟩,_⟩:=I.list h
 obtain⟨its',r',⟨o',n',e',_,_,d'⟩,_⟩:=I.list h'
 rw [e] at e';cases e'
 rw [d] at d'
 injection d' with d1 _
 have:its=its':=by simpa using congrArg Array.toList d1
 subst this
 exact r.inj r'
theorem Inv.tuple_inj (I:Inv X pins σ H s)(h:SqT X.K H a xs)(h':SqT X.K H a ys):xs=ys:=by
 obtain⟨its,r,⟨o,e,_,n,d⟩,_⟩:=I.tuple h
 obtain⟨its',r',⟨o',e',_,n',d'⟩,_⟩:=I.tuple h'
 rw [e] at e';cases e'
 rw [d] at d'
 injection d' with d1 _
 have:its=its':=by simpa using congrArg Array.toList d1
 subst this
 exact r.inj r'
end
noncomputable abbrev Cx.wish (X:Cx)(E:Value->Shared->Prop):Cx:={ X with xe:=E }
noncomputable abbrev Cx.nox (X:Cx):Cx:=X.wish fun _ _=>False
theorem Cx.Ok.wish {X:Cx}(ok:X.Ok)(E:Value->Shared->Prop):(X.wish E).Ok:=
 ⟨ok.mod,ok.kind,ok.glob,ok.blt,ok.above,ok.inj,ok.has,ok.cab,ok.hd,ok.frames,ok.stk,ok.exf,ok.bs,ok.bsz,ok.noex,ok.exfs,ok.funs,ok.frf⟩
theorem Cx.Ok.unwish {X:Cx}{E:Value->Shared->Prop}(ok:(X.wish E).Ok):X.Ok:=
 ⟨ok.mod,ok.kind,ok.glob,ok.blt,ok.above,ok.inj,ok.has,ok.cab,ok.hd,ok.frames,ok.stk,ok.exf,ok.bs,ok.bsz,ok.noex,ok.exfs,ok.funs,ok.frf⟩
section
variable {X:Cx} {pins:List (Addr×Obj)} {σ:St} {H:Hp} {s:Shared} {E:Value->Shared->Prop}
theorem Inv.wish (I:Inv X pins σ H s)(E:Value->Shared->Prop):Inv (X.wish E) pins σ H s:=⟨I.ok.wish E,I.os,I.bare,I.base,I.loc,I.cell,I.free,I.freeC,I.pin,I.hok,I.len⟩
theorem Inv.unwish (I:Inv (X.wish E) pins σ H s):Inv X pins σ H s:=⟨I.ok.unwish,I.os,I.bare,I.base,I.loc,I.cell,I.free,I.freeC,I.pin,I.hok,I.len⟩
theorem SP.unwish {D:Ends}{f:Flow}{s':Shared}(h:SP (X.wish E) pins D f s'):SP X pins D f s':=by
 cases f with
 | next=>obtain⟨σ',H',I,q⟩:=h;exact⟨σ',H',I.unwish,q⟩
 | brk=>obtain⟨σ',H',I,q⟩:=h;exact⟨σ',H',I.unwish,q⟩
 | cont=>obtain⟨σ',H',I,q⟩:=h;exact⟨σ',H',I.unwish,q⟩
 | ret u=>obtain⟨v,σ',H',I,r,q⟩:=h;exact⟨v,σ',H',I.unwish,r,q⟩
theorem PSs.nox {st:List Stmt}{t:TS}(h:PSs X.nox st t):PSs X st t:=fun pins s σ H D I hw=>
 wpAny_mono (h pins s σ H D (I.wish _) hw) (fun _ _ q=>q.unwish) fun _ _ z=>False.elim z
end
section
variable {X:Cx} {st:Stmt} {rest:List Stmt} {t u:TS} {e:Expr} {te:TE} {pos:Pos}
noncomputable def VF:TS:=fun D σ H=>D.nx σ H
noncomputable def tSeq (t u:TS):TS:=fun D σ H=>t { D with nx:=u D } σ H
theorem VG:PSs X [] VF:=fun _ _ σ H _ I h=>wpAny_execs_nil ⟨σ,H,I,h⟩
theorem WQ (h1:PS X st t)(h2:PSs X rest u):PSs X (st::rest) (tSeq t u):=by
 intro pins s σ H D I h
 refine wpAny_execs_cons (thn (h1 pins s σ H { D with nx:=u D } I h) fun f s1 q=>?_)
 cases f with
 | next=>
  obtain⟨σ',H',I',q⟩:=q
  exact h2 pins s1 σ' H' D I' q
 | ret v=>exact q
 | brk=>exact q
 | cont=>exact q
noncomputable def K0:TS:=fun D σ H=>D.bk σ H
noncomputable def zdI:TS:=fun D σ H=>D.ct σ H
theorem zck:PS X (.Pass pos) VF:=fun _ _ σ H _ I h=>wpAny_Pass ⟨σ,H,I,h⟩
theorem K1:PS X (.Break pos) K0:=fun _ _ σ H _ I h=>wpAny_Break ⟨σ,H,I,h⟩
theorem WR:PS X (.Continue pos) zdI:=fun _ _ σ H _ I h=>wpAny_Continue ⟨σ,H,I,h⟩
theorem Inv.quiet {pins:List (Addr×Obj)}{σ:St}{H:Hp}{s:Shared}(I:Inv X pins σ H s):interactive X.env=false:=by simp [interactive,I.ok.kind]
noncomputable def zdJ (te:TE):TS:=fun D σ H=>te σ H fun _ H1=>D.nx σ H1
theorem zcl (he:PE X e te)(hs:swapsWith e none pos.line X.env=pure false:=by rfl):PS X (.Expr e pos) (zdJ te):=by
 intro pins s σ H D I h
 exact wpAny_Expr_any (thn (he pins s σ H _ I h) fun v s1 ⟨x,H1,I1,r1,q1⟩=>⟨σ,H1,I1,q1⟩) I.quiet hs
noncomputable def tRet (te:TE):TS:=fun D σ H=>te σ H D.rt
theorem zeC (he:PE X e te):PS X (.Return (some e) pos) (tRet te):=by
 intro pins s σ H D I h
 exact wpAny_Return_some (thn (he pins s σ H _ I h) fun v s1 ⟨x,H1,I1,r1,q1⟩=>⟨x,σ,H1,I1,r1,q1⟩)
noncomputable def zdK:TS:=fun D _ H=>D.rt .non H
theorem zcm:PS X (.Return none pos) zdK:=fun _ _ σ H _ I h=>wpAny_Return_none ⟨.non,σ,H,I,rfl,h⟩
noncomputable def tIfS (c:TT)(t u:TS):TS:=fun D σ H=>c σ H fun b H1=>if b=true then t D σ H1 else u D σ H1
theorem zgW {c:Expr}{a b:List Stmt}{tc:TT}(hc:PT X c tc)(ha:PSs X a t)(hb:PSs X b u):PS X (.If c a b pos) (tIfS tc t u):=by
 intro pins s σ H D I h
 refine wpAny_If (thn (hc pins s σ H _ I h) fun d s1 ⟨H1,I1,q1⟩=>?_)
 cases d with
 | true=>exact ha pins s1 σ H1 D I1 q1
 | false=>exact hb pins s1 σ H1 D I1 q1
end
noncomputable abbrev TG:=V->St->Hp->(St->Hp->Prop)->Prop
noncomputable abbrev TGs:=List V->St->Hp->(St->Hp->Prop)->Prop
def PG (X:Cx)(target:Expr)(t:TG):Prop:=
 ∀ (pins:List (Addr×Obj)) (s:Shared) (σ:St) (H:Hp) (v:V) (u:Value) (Q:St->Hp->Prop),Inv X pins σ H s->RelV v u->t v σ H Q ->
  wpAny (model X.prog X.w) X.A (assign target X.env u) (fun _ s'=>∃ σ' H',Inv X pins σ' H' s'/\Q σ' H') X.xe s
def PGs (X:Cx)(ts:Lg)(t:TGs):Prop:=
 ∀ (pins:List (Addr×Obj)) (s:Shared) (σ:St) (H:Hp) (vs:List V) (us:Lf) (Q:St->Hp->Prop),Inv X pins σ H s->Vals vs us->t vs σ H Q ->
  wpAny (model X.prog X.w) X.A (assignInOrder ((assignEach ts X.env).map (·.2)) us) (fun _ s'=>∃ σ' H',Inv X pins σ' H' s'/\Q σ' H') X.xe s
noncomputable abbrev TSet:=V->V->V->Hp->(Hp->Prop)->Prop
def PSet (X:Cx)(t:TSet):Prop:=
 ∀ (pins:List (Addr×Obj)) (s:Shared) (σ:St) (H:Hp) (o i v:V) (ov iv u:Value) (Q:Hp->Prop),Inv X pins σ H s->RelV o ov->RelV i iv->RelV v u->t o i v H Q ->
  wpAny (model X.prog X.w) X.A (setItem ov iv u) (fun _ s'=>∃ H',Inv X pins σ H' s'/\Q H') X.xe s
noncomputable abbrev TIp:=V->V->Hp->VK->Prop
def PIp (X:Cx)(op:Operator)(t:TIp):Prop:=
 ∀ (pins:List (Addr×Obj)) (s:Shared) (σ:St) (H:Hp) (x y:V) (v u:Value) (Q:VK),Inv X pins σ H s->RelV x v->RelV y u->t x y H Q ->
  wpAny (model X.prog X.w) X.A (inplaceOp op v u) (EP X pins σ Q) X.xe s
section
variable {X:Cx} {pos:Pos}
noncomputable def wB (i:Nat):TG:=fun v σ H Q=>Q (σ.set i (some v)) H
theorem JJ {i:Nat}{x:Str}(hN:X.N.Nodup)(hi:X.N[i]? = some x)(hx:Loc X.env.scope x)(hf:X.fn x=true\/X.env.scope.names.lookup x=some .local:=by first | exact .inl rfl | exact .inr rfl | assumption):PG X (.Name x pos) (wB i):=by
 intro pins s σ H v u Q I r h
 exact wpAny_assign_Name (ZX I hN hi hx r (fun s' I'=>⟨_,H,I',h⟩) hf)
noncomputable def gNil:TGs:=fun vs σ H Q=>vs=[]/\Q σ H
noncomputable def WU (t:TG)(u:TGs):TGs:=fun vs σ H Q=>∃ v r,vs=v::r/\t v σ H fun σ' H'=>u r σ' H' Q
theorem VH:PGs X [] gNil:=by
 intro pins s σ H vs us Q I r h
 obtain⟨e,h⟩:=h
 subst e
 cases r
 exact assignInOrder_nil ⟨σ,H,I,h⟩
theorem WV {e:Expr}{es:Lg}{t:TG}{u:TGs}(h1:PG X e t)(h2:PGs X es u)
  (hs:(assignEach (e::es) X.env).map (·.2)=assign e X.env::(assignEach es X.env).map (·.2):=by rfl):PGs X (e::es) (WU t u):=by
 intro pins s σ H vs us Q I r h
 obtain⟨v,vr,e1,h⟩:=h
 subst e1
 cases r with
 | cons r rr=>
  rw [hs]
  refine assignInOrder_cons (thn (h1 pins s σ H _ _ _ I r h) fun _ s1 ⟨σ1,H1,I1,q1⟩=>?_)
  exact h2 pins s1 σ1 H1 _ _ Q I1 rr q1
noncomputable def gTup (K:Le)(n:Nat)(t:TGs):TG:=fun v σ H Q=>∃ a xs,v=.ref a/\SqT K H a xs/\xs.length=n/\t xs σ H Q
theorem K2 {es:Lg}{k:Nat}{t:TGs}{n:Nat}(hc:X.calm=true)(h:PGs X es t)
  (hn:(assignEach es X.env).length=n:=by rfl) (hst:(assignEach es X.env).findIdx? (·.1)=none:=by rfl):PG X (.Tuple es k pos) (gTup X.K n t):=by
 intro pins s σ H v u Q I r hw
 obtain⟨a,xs,e1,hq,hl,hw⟩:=hw
 subst e1
 cases r
 obtain⟨its,rv,ht,hz⟩:=I.tuple hq
 refine assign_Tuple_tuple (I.ok.hd hc) ht (by simp [hn,← hl,rv.length]) hst fun h' hx=>?_
 have I1:Inv X pins σ H { s with heap:=h' }:=I.kept (t':=s.toks) fun b o e=>hx b o (uX (Heap.lt_size e)) e
 exact h pins _ σ H xs _ Q I1 (by simpa using rv) hw
noncomputable def gSub (to ti:TE)(t:TSet):TG:=fun v σ H Q=>to σ H fun o H1=>ti σ H1 fun i H2=>t o i v H2 fun H3=>Q σ H3
theorem zeD {o i:Expr}{to ti:TE}{t:TSet}(ho:PE X o to)(hi:PE X i ti)(hs:PSet X t)
  (ha:∀ v,assign (.Subscript o i pos) X.env v=(do
   let ov ← holding [v] (eval o X.env)
   let iv ← holding [v,ov] (eval i X.env)
   standAt pos
   holding [v,ov,iv] (setItem ov iv v)
   release [v,ov,iv] []):=by intro _;rfl):PG X (.Subscript o i pos) (gSub to ti t):=by
 intro pins s σ H v u Q I r h
 rw [ha]
 refine wpAny_bind (wpAny_holding (thn (ho pins s σ H _ I h) fun ov s1 ⟨x,H1,I1,r1,q1⟩=>?_))
 refine wpAny_bind (wpAny_holding (thn (hi pins s1 σ H1 _ I1 q1) fun iv s2 ⟨y,H2,I2,r2,q2⟩=>?_))
 refine wpAny_bind (wpAny_standAt (wpAny_bind (wpAny_holding (thn (hs pins s2 σ H2 x y v ov iv u _ I2 r1 r2 r q2) fun _ s3 ⟨H3,I3,q3⟩=>?_))))
 exact wpAny_release ⟨σ,H3,I3,q3⟩
noncomputable def tAsg (te:TE)(g:TG):TS:=fun D σ H=>te σ H fun x H1=>g x σ H1 D.nx
theorem zeE {tg e:Expr}{te:TE}{g:TG}(he:PE X e te)(hg:PG X tg g)(hs:swapsWithSole [tg] e pos.line X.env=pure false:=by rfl) (hw:swappedStores [tg] e X.env=pure none:=by rfl)
  (h1:(assignEach [tg] X.env).map (·.2)=[assign tg X.env]:=by rfl):PS X (.Assign [tg] e pos) (tAsg te g):=by
 intro pins s σ H D I h
 refine wpAny_Assign_stores (thn (he pins s σ H _ I h) fun v s1 ⟨x,H1,I1,r1,q1⟩=>?_) hs hw
 rw [h1]
 exact thn (hg pins s1 σ H1 x v _ I1 r1 q1) fun _ s2 q=>q
theorem zeF {i:Nat}{x:Str}{e:Expr}{te:TE}{pos':Pos}(hN:X.N.Nodup)(hi:X.N[i]? = some x)(hx:Loc X.env.scope x)(he:PE X e te)(hs:swapsWith e (some (.Name x pos')) pos.line X.env=pure false:=by rfl) (hf:X.fn x=true\/X.env.scope.names.lookup x=some .local:=by first | exact .inl rfl | exact .inr rfl | assumption) :
  PS X (.Assign [.Name x pos'] e pos) (tAsg te (wB i)):=by
 intro pins s σ H D I h
 refine wpAny_Assign_Name (thn (he pins s σ H _ I h) fun v s1 ⟨y,H1,I1,r1,q1⟩=>?_) hs
 exact ZX I1 hN hi hx r1 (fun s2 I2=>⟨_,H1,I2,q1⟩) hf
noncomputable def tAug (i:Nat)(te:TE)(ti:TIp):TS:=fun D σ H=>∃ x,σ[i]? = some (some x)/\te σ H fun y H1=>ti x y H1 fun z H2=>D.nx (σ.set i (some z)) H2
theorem K3 {i:Nat}{x:Str}{e:Expr}{te:TE}{op:Operator}{ti:TIp}{pos':Pos}(hN:X.N.Nodup)(hi:X.N[i]? = some x)(hx:Loc X.env.scope x)(he:PE X e te)(ho:PIp X op ti)(hf:X.fn x=true\/X.env.scope.names.lookup x=some .local:=by first | exact .inl rfl | exact .inr rfl | assumption) :
  PS X (.AugAssign (.Name x pos') op e pos) (tAug i te ti):=by
 intro pins s σ H D I h
 obtain⟨v,e1,h⟩:=h
 obtain⟨m,hn,hl⟩:=I.loc
 have vis:Vis X.env.scope x:=by rcases hx with k | k;exact .inl k;exact .inr (.inl k)
 obtain⟨u,r,l⟩:=hl i x v hi e1 vis
 refine wpAny_AugAssign_Name ?_
 have go:wpAny (model X.prog X.w) X.A (eval e X.env) (fun w s₂=>wpAny (model X.prog X.w) X.A (inplaceOp op u w) (fun r s₃=>wpAny (model X.prog X.w) X.A (storeName X.env x r) (fun _=>SP X pins D .next) X.xe s₃) X.xe s₂) X.xe s:=by
  refine thn (he pins s σ H _ I h) fun w s1 ⟨y,H1,I1,r1,q1⟩=>?_
  refine thn (ho pins s1 σ H1 v y u w _ I1 r r1 q1) fun z s2 ⟨zv,H2,I2,r2,q2⟩=>?_
  exact ZX I2 hN hi hx r2 (fun s3 I3=>⟨_,H2,I3,q2⟩) hf
 rcases l with⟨hk,hm⟩ | ⟨hk,c,hc,hcell⟩
 ·exact wpAny_loadName_local I.ok.kind hk hn hm go
 ·rcases hk with hk | hk
  ·exact wpAny_loadName_cell I.ok.kind hk hc hcell go
  ·rcases hx with k | k
   ·have:X.env.scope.names.lookup x=some .free:=hk
    rw [k] at this;cases this
   ·have:X.env.scope.names.lookup x=some .free:=hk
    rw [k] at this;cases this
noncomputable def ipI (f:Int->Int->Int):TIp:=fun x y H Q=>∃ i j,x=.int i/\y=.int j/\Q (.int (f i j)) H
theorem zeG:PIp X .Add (ipI fun i j=>i+j):=by
 intro pins s σ H x y v u Q I r1 r2 h
 obtain⟨i,j,e1,e2,q⟩:=h
 subst e1;subst e2
 obtain⟨t,rfl⟩:=r1
 obtain⟨t',rfl⟩:=r2
 exact iadd_int ⟨.int _,H,I.tok _,⟨_,rfl⟩,q⟩
theorem zeH:PIp X .Sub (ipI fun i j=>i - j):=by
 intro pins s σ H x y v u Q I r1 r2 h
 obtain⟨i,j,e1,e2,q⟩:=h
 subst e1;subst e2
 obtain⟨t,rfl⟩:=r1
 obtain⟨t',rfl⟩:=r2
 exact isub_int ⟨.int _,H,I.tok _,⟨_,rfl⟩,q⟩
end
section
variable {X:Cx} {pos:Pos}
noncomputable def K6 (c:TT)(tb:TS):TS:=fun D σ H=>∃ W:Nat->St->Hp->Prop,(∃ m,W m σ H)/\∀ m σ H,W m σ H ->
 c σ H fun b H1=>if b=true then ∃ N:St->Hp->Prop,(∀ σ' H',N σ' H'->∃ m',m' < m/\W m' σ' H')/\tb { D with nx:=N,ct:=N,bk:=D.nx } σ H1 else D.nx σ H1
theorem K7 {c:Expr}{body:List Stmt}{tc:TT}{tb:TS}(hp:PassesOwn (model X.prog X.w) X.A X.env X.xe)(hc:PT X c tc)(hb:PSs X body tb):PS X (.While c body [] pos) (K6 tc tb):=by
 intro pins s σ H D I h
 obtain⟨W,⟨m0,w0⟩,turn⟩:=h
 refine wpAny_While (codeAny_whileLoop (fun n s'=>∃ σ' H',Inv X pins σ' H' s'/\W n σ' H') ?_ m0 ⟨σ,H,I,w0⟩)
 rintro n s1 ⟨σ1,H1,I1,w1⟩
 refine wpAny_passesOwn hp (thn (hc pins s1 σ1 H1 _ I1 (turn n σ1 H1 w1)) fun b s2 ⟨H2,I2,q2⟩=>?_)
 cases b with
 | true=>
  obtain⟨N,hN,q2⟩:=q2
  rw [uA rfl]
  refine wpAny_passesOwn hp (thn (hb pins s2 σ1 H2 _ I2 q2) fun f s3 q3=>?_)
  cases f with
  | next=>
   obtain⟨σ3,H3,I3,n3⟩:=q3
   obtain⟨m',hm,w3⟩:=hN σ3 H3 n3
   exact⟨m',hm,σ3,H3,I3,w3⟩
  | cont=>
   obtain⟨σ3,H3,I3,n3⟩:=q3
   obtain⟨m',hm,w3⟩:=hN σ3 H3 n3
   exact⟨m',hm,σ3,H3,I3,w3⟩
  | brk=>exact q3
  | ret v=>exact q3
 | false=>
  rw [uq ux]
  exact wpAny_execs_nil ⟨σ1,H2,I2,q2⟩
end
structure It where
 go:Nat->Hp->Prop
 yld:Nat->Hp->V->Hp->Prop
 stop:Nat->Hp->Prop
def FpOk (X:Cx)(pins:List (Addr×Obj))(H:Hp)(b:Addr):Prop:=
 H b=none/\b≠X.env.locals/\b∉X.fs/\(b∈X.ex\/X.s₀.heap.objs.size<=b)/\(∀ x c,X.env.cells.lookup x=some c->c≠b)/\∀ p∈X.pn++pins,p.1≠b
theorem Inv.fpOk {X:Cx}{pins:List (Addr×Obj)}{σ:St}{H H':Hp}{s:Shared}{b:Addr}(I:Inv X pins σ H s)(hb:s.heap.objs.size<=b)(hn:H' b=none):FpOk X pins H' b:=by
 refine⟨hn,gE (uE I.lt hb),I.nofs hb,.inr (uN I.sz hb),fun x c e z=>?_,fun p hp z=>?_⟩
 ·obtain⟨v,q⟩:=I.cell x c e
  exact absurd (uE q.lt (by rw [z];exact hb)) (u4 _)
 ·exact absurd (uE (Heap.lt_size (I.pin p hp).1) (by rw [z];exact hb)) (u4 _)
structure Turn (P:Program)(w:World)(K:Le)(tg:Expr)(J:It)(fp:Ld)(it:Addr)(tn:Nat->Heap->Prop):Prop where
 mem:it∈fp
 obj:∀ i h,tn i h->∀ b∈fp,∃ o,h.get? b=some o/\∀ v,o.data≠.cell v
 keep:∀ i h h',tn i h->(∀ b∈fp,∀ o,h.get? b=some o->h'.get? b=some o)->tn i h'
 item:∀ (X:Cx),X.prog=P->X.w=w->X.K=K->X.calm=true->∀ (i:Nat) (pins:List (Addr×Obj)) (s:Shared) (σ:St) (H:Hp) (E:Value->Shared->Prop),Inv X pins σ H s->(∀ b∈fp,FpOk X pins H b)->tn i s.heap->J.go i H ->
  wpAny (model P w) X.A (pyNext (.ref it)) (fun r s1=>∃ u,r=some u /\
   wpAny (model P w) X.A (letOwnedTupleGo tg (.ref it) u) (fun _ s2=>∃ x H',Inv X pins σ H' s2/\RelV x u/\J.yld i H x H'/\tn (i+1) s2.heap/\∀ b∈fp,H' b=none) E s1) E s
 done:∀ (X:Cx),X.prog=P->X.w=w->X.K=K->X.calm=true->∀ (i:Nat) (pins:List (Addr×Obj)) (s:Shared) (σ:St) (H:Hp) (E:Value->Shared->Prop),Inv X pins σ H s->(∀ b∈fp,FpOk X pins H b)->tn i s.heap->J.stop i H ->
  wpAny (model P w) X.A (pyNext (.ref it)) (fun r s1=>r=none/\Inv X pins σ H s1) E s
 self:∀ (A:Around) (i:Nat) (s:Shared) (Q:Value->Shared->Prop) (E:Value->Shared->Prop),tn i s.heap->Q (.ref it) s->wpAny (model P w) A (pyIter (.ref it)) Q E s
noncomputable abbrev TI:=St->Hp->(It->Hp->Prop)->Prop
def PIE (X:Cx)(pins:List (Addr×Obj))(σ:St)(tg:Expr)(R:It->Hp->Prop)(itv:Value)(s2:Shared):Prop:=
 ∃ (it:Addr) (fp:Ld) (tn:Nat->Heap->Prop) (J:It) (H':Hp),itv=.ref it/\Inv X pins σ H' s2/\Turn X.prog X.w X.K tg J fp it tn/\tn 0 s2.heap/\(∀ b∈fp,FpOk X pins H' b)/\R J H'
def PI (X:Cx)(tg iter:Expr)(wi:TI):Prop:=
 ∀ (pins:List (Addr×Obj)) (s:Shared) (σ:St) (H:Hp) (R:It->Hp->Prop),Inv X pins σ H s->wi σ H R ->
  wpAny (model X.prog X.w) X.A (eval iter X.env) (fun v s1=>wpAny (model X.prog X.w) X.A (pyIter v) (PIE X pins σ tg R) X.xe s1) X.xe s
theorem Jd {M:Model}{A:Around}{E:Value->Shared->Prop}{s:Shared}{tg:Expr}{it:Addr}{u:Value}{o:Obj}{n:String}{vs:Array Value}{Q:Unit->Shared->Prop}(ho:s.heap.get? it=some o)(hc:o.cls=.type n)(hd:o.data=.fields vs)
    (hn:["enumerate","zip","dict_itemiterator","dict_reverseitemiterator","odict_iterator","itertools.zip_longest","itertools.pairwise"].contains n=false) (hQ:Q () s):wpAny M A (letOwnedTupleGo tg (.ref it) u) Q E s:=by
  unfold letOwnedTupleGo
  cases tg<;>first
    | exact wpAny_pure hQ
    | (cases u<;>first
        | exact wpAny_pure hQ
        | (refine wpAny_bind (wpAny_load ho ?_)
           rw [hc,hd]
           show wpAny M A (if (["enumerate","zip","dict_itemiterator","dict_reverseitemiterator","odict_iterator","itertools.zip_longest","itertools.pairwise"].contains n&&vs[0]? == some (rawInt _))=true then _ else _) Q E s
           rw [uq (by intro h;rw [hn,gq] at h;cases h)]
           exact wpAny_pure hQ))
noncomputable def Itl (K:Le)(a:Addr):It:=
 ⟨fun i H=>∃ xs x,SqL K H a xs/\xs[i]? = some x,fun i H x H'=>H' = H/\∀ xs,SqL K H a xs->xs[i]? = some x,fun i H=>∃ xs,SqL K H a xs/\xs.length<=i⟩
noncomputable def Itt (K:Le)(a:Addr):It:=
 ⟨fun i H=>∃ xs x,SqT K H a xs/\xs[i]? = some x,fun i H x H'=>H' = H/\∀ xs,SqT K H a xs->xs[i]? = some x,fun i H=>∃ xs,SqT K H a xs/\xs.length<=i⟩
noncomputable def Itr (lo:Int)(n:Nat):It:=⟨fun i _=>i<n,fun i H x H'=>H' = H/\x=.int (lo+i),fun i _=>n<=i⟩
theorem YR {P:Program}{w:World}{K:Le}{tg:Expr}(a it:Addr):Turn P w K tg (Itl K a) [it] it (fun i h=>h.IsListIter it a i) where
 mem:=by simp
 obj:=fun i h st b hb=>by
  have e:b=it:=by simpa using hb
  subst e
  obtain⟨o,e,c,d⟩:=st
  exact⟨o,e,fun v z=>by rw [d] at z;cases z⟩
 keep:=fun i h h' st k=>st.at fun o e=>k it (by simp) o e
 item:=by
  intro X hP hw hK hc i pins s σ H E I hf st hg
  subst hP hw hK
  obtain⟨xs,x,hq,hx⟩:=hg
  obtain⟨its,rv,p,hz⟩:=I.list hq
  obtain⟨u,hu,ru⟩:=rv.get hx
  obtain⟨f0,f1,f2,f3,f4,f5⟩:=hf it (by simp)
  refine wpAny_pyNext_list_item st p.isList (x:=u) (by simpa using hu) fun h' st' sb=>?_
  have I1:Inv X pins σ H { s with heap:=h' }:=I.turned (t':=s.toks) (fun b o hb e=>(sb.2 b hb).trans e) f0 f1 f3 f4 f5
  obtain⟨o,e,c,d⟩:=id st'
  exact⟨u,rfl,Jd (s:={ s with heap:=h' }) e c d (by decide) ⟨x,H,I1,ru,⟨rfl,fun ys hy=>by rw [I.list_inj hy hq];exact hx⟩,st',fun b hb=>(hf b hb).1⟩⟩
 done:=by
  intro X hP hw hK hc i pins s σ H E I hf st hg
  subst hP hw hK
  obtain⟨xs,hq,hx⟩:=hg
  obtain⟨its,rv,p,hz⟩:=I.list hq
  obtain⟨f0,f1,f2,f3,f4,f5⟩:=hf it (by simp)
  have hl:=rv.length
  exact wpAny_pyNext_list_end (I.ok.hd hc) st p.isList (by simp;lia) fun h' eb=>⟨rfl,I.turned (t':=s.toks) (fun b o hb e=>eb b o hb e) f0 f1 f3 f4 f5⟩
 self:=fun _ _ _ _ _ st h=>wpAny_pyIter_listiter st h
theorem XX {P:Program}{w:World}{K:Le}{tg:Expr}(a it:Addr):Turn P w K tg (Itt K a) [it] it (fun i h=>h.IsTupleIter it a i) where
 mem:=by simp
 obj:=fun i h st b hb=>by
  have e:b=it:=by simpa using hb
  subst e
  obtain⟨o,e,c,d⟩:=st
  exact⟨o,e,fun v z=>by rw [d] at z;cases z⟩
 keep:=fun i h h' st k=>st.at fun o e=>k it (by simp) o e
 item:=by
  intro X hP hw hK hc i pins s σ H E I hf st hg
  subst hP hw hK
  obtain⟨xs,x,hq,hx⟩:=hg
  obtain⟨its,rv,p,hz⟩:=I.tuple hq
  obtain⟨u,hu,ru⟩:=rv.get hx
  obtain⟨f0,f1,f2,f3,f4,f5⟩:=hf it (by simp)
  refine wpAny_pyNext_tuple_item st (show s.heap.IsTuple a its.toArray from p) (x:=u) (by simpa using hu) fun h' st' sb=>?_
  have I1:Inv X pins σ H { s with heap:=h' }:=I.turned (t':=s.toks) (fun b o hb e=>(sb.2 b hb).trans e) f0 f1 f3 f4 f5
  obtain⟨o,e,c,d⟩:=id st'
  exact⟨u,rfl,Jd (s:={ s with heap:=h' }) e c d (by decide) ⟨x,H,I1,ru,⟨rfl,fun ys hy=>by rw [I.tuple_inj hy hq];exact hx⟩,st',fun b hb=>(hf b hb).1⟩⟩
 done:=by
  intro X hP hw hK hc i pins s σ H E I hf st hg
  subst hP hw hK
  obtain⟨xs,hq,hx⟩:=hg
  obtain⟨its,rv,p,hz⟩:=I.tuple hq
  obtain⟨f0,f1,f2,f3,f4,f5⟩:=hf it (by simp)
  have hl:=rv.length
  exact wpAny_pyNext_tuple_end (I.ok.hd hc) st (show s.heap.IsTuple a its.toArray from p) (by simp;lia) fun h' eb=>⟨rfl,I.turned (t':=s.toks) (fun b o hb e=>eb b o hb e) f0 f1 f3 f4 f5⟩
 self:=fun _ _ _ _ _ st h=>wpAny_pyIter_tupleiter st h
theorem XY {P:Program}{w:World}{K:Le}{tg:Expr}(it:Addr)(lo:Int)(n:Nat):Turn P w K tg (Itr lo n) [it] it (fun i h=>IsRangeIter h it (lo+(i:Nat) * 1) ((n:Int) - (i:Nat)) 1) where
 mem:=by simp
 obj:=fun i h st b hb=>by
  have e:b=it:=by simpa using hb
  subst e
  exact⟨_,st,fun v z=>by
   have z':Data.fields _=Data.cell v:=z
   cases z'⟩
 keep:=fun i h h' st k=>k it (by simp) _ st
 item:=by
  intro X hP hw hK hc i pins s σ H E I hf st hg
  subst hP hw hK
  obtain⟨f0,f1,f2,f3,f4,f5⟩:=hf it (by simp)
  have W:=Walks.range (prog:=X.prog) (w:=X.w) (I.ok.hd hc) it lo 1 n
  refine W.item i s _ _ hg st fun v h' tk hv st' kk=>?_
  obtain⟨t,rfl⟩:=hv
  have I1:Inv X pins σ H { s with heap:=h',toks:=tk }:=I.turned (fun b o hb e=>kk b o (by simpa using hb) e) f0 f1 f3 f4 f5
  refine⟨_,rfl,Jd (s:={ s with heap:=h',toks:=tk }) (n:="range_iterator") st' rfl rfl (by decide) ⟨.int (lo+i),H,I1,⟨t,?_⟩,⟨rfl,rfl⟩,st',fun b hb=>(hf b hb).1⟩⟩
  rw [Int.mul_one]
 done:=by
  intro X hP hw hK hc i pins s σ H E I hf st hg
  subst hP hw hK
  obtain⟨f0,f1,f2,f3,f4,f5⟩:=hf it (by simp)
  exact wpAny_pyNext_range_end (I.ok.hd hc) st (by have:n<=i:=hg;lia) fun h' eb=>⟨rfl,I.turned (t':=s.toks) (fun b o hb e=>eb b o hb e) f0 f1 f3 f4 f5⟩
 self:=fun _ _ _ _ _ st h=>wpAny_pyIter_rangeiter st h
section
variable {X:Cx} {tg:Expr}
theorem WW {pins:List (Addr×Obj)}{σ:St}{H:Hp}{s:Shared}{R:It->Hp->Prop}{E:Value->Shared->Prop}{lo hi:Int}{t u v:Tok}{tk:Nat}(I:Inv X pins σ H s)(h1:-(2 ^ 62)<=lo)(h2:lo<2 ^ 62)(h3:-(2 ^ 62)<=hi)(h4:hi<2 ^ 62)
  (q:R (Itr lo (hi - lo).toNat) H):wpAny (model X.prog X.w) X.A (pyIter (.ref s.heap.objs.size)) (PIE X pins σ tg R) E { s with heap:=s.heap.push { cls:=.type "range",data:=.fields #[.int lo t,.int hi u,.int 1 v] },toks:=tk }:=by
 refine wpAny_pyIter_range (IsRange.new ..) (small_one h1 h2 h3 h4) ?_
 have I1:Inv X pins σ H { s with heap:=s.heap.push { cls:=.type "range",data:=.fields #[.int lo t,.int hi u,.int 1 v] },toks:=tk }:=I.kept fun b o e=>Heap.get?_push_of_some _ e
 refine⟨(s.heap.push { cls:=.type "range",data:=.fields #[.int lo t,.int hi u,.int 1 v] }).objs.size,[(s.heap.push { cls:=.type "range",data:=.fields #[.int lo t,.int hi u,.int 1 v] }).objs.size],_,_,H,rfl,
  I1.kept (t':=tk) fun b o e=>Heap.get?_push_of_some _ e,XY _ lo (hi - lo).toNat,?_,fun b hb=>?_,q⟩
 ·have e1:lo+((0:Nat):Int) * 1=lo:=by simp
  have e2:(((hi - lo).toNat:Nat):Int) - ((0:Nat):Int)=Builtin.Range.rangeSize lo hi 1:=by rw [rangeSize_one];split<;>lia
  show IsRangeIter _ _ (lo+((0:Nat):Int) * 1) ((((hi - lo).toNat:Nat):Int) - ((0:Nat):Int)) 1
  rw [e1,e2]
  exact Heap.get?_push_size _ rfl
 ·have e:b=(s.heap.push { cls:=.type "range",data:=.fields #[.int lo t,.int hi u,.int 1 v] }).objs.size:=by simpa using hb
  subst e
  exact I1.fpOk (uf _) (I1.hok.fresh (uf _))
noncomputable def zgX (ta:TA):TI:=fun σ H R=>ta σ H fun vs H1=>∃ j:Int,vs=[.int j]/\-(2 ^ 62)<=j/\j<2 ^ 62/\R (Itr 0 j.toNat) H1
noncomputable def zgY (ta:TA):TI:=fun σ H R=>ta σ H fun vs H1=>∃ i j:Int,vs=[.int i,.int j]/\(-(2 ^ 62)<=i/\i<2 ^ 62/\-(2 ^ 62)<=j/\j<2 ^ 62)/\R (Itr i (j - i).toNat) H1
theorem YS {a:Expr}{ta:TA}{p pos:Pos}(hg:Gl X "range")(hm:X.mg "range" = none)(ha:PA X [a] ta)(hs:starEach [a] X.env=[(false,eval a X.env)]:=by rfl):PI X tg (.Call (.Name "range" p) [a] [] pos) (zgX ta):=by
 intro pins s σ H R I h
 refine Call_ (xa I hg hm boot_range (PyProof.Rows.callWith_type1 (thn (ha pos pins s σ H _ I h) fun us s1 ⟨vs,H1,I1,r1,q1⟩=>?_) hs rfl))
 obtain⟨j,e,q1,q2,q⟩:=q1
 subst e
 cases r1 with
 | cons r rr=>
  cases rr
  obtain⟨t,rfl⟩:=r
  exact call_range_1 (WW I1 (by lia) (by lia) q1 q2 (by simpa using q))
theorem YT {a b:Expr}{ta:TA}{p pos:Pos}(hg:Gl X "range")(hm:X.mg "range" = none)(ha:PA X [a,b] ta)(hs:starEach [a,b] X.env=[(false,eval a X.env),(false,eval b X.env)]:=by rfl) (hs2:starEach [b] X.env=[(false,eval b X.env)]:=by rfl) :
  PI X tg (.Call (.Name "range" p) [a,b] [] pos) (zgY ta):=by
 intro pins s σ H R I h
 refine Call_ (xa I hg hm boot_range (PyProof.Rows.callWith_type1 (thn (ha pos pins s σ H _ I h) fun us s1 ⟨vs,H1,I1,r1,q1⟩=>?_) (by rw [hs,hs2]) (by rw [hs2];rfl)))
 obtain⟨i,j,e,⟨q1,q2,q3,q4⟩,q⟩:=q1
 subst e
 cases r1 with
 | cons r rr=>
  cases rr with
  | cons r' rr=>
   cases rr
   obtain⟨t,rfl⟩:=r
   obtain⟨t',rfl⟩:=r'
   exact call_range_2 (WW I1 q1 q2 q3 q4 q)
noncomputable def tFor (wi:TI)(g:TG)(tb:TS):TS:=fun D σ H=>wi σ H fun J H1=>∃ W:Nat->Nat->St->Hp->Prop,(∃ m,W 0 m σ H1)/\∀ i m σ H,W i m σ H ->
 (J.stop i H/\D.nx σ H)\/(J.go i H/\∃ N:St->Hp->Prop,(∀ σ' H',N σ' H'->∃ m',m' < m/\W (i+1) m' σ' H')/\∀ x H',J.yld i H x H'->g x σ H' fun σ2 H2=>tb { D with nx:=N,ct:=N,bk:=D.nx } σ2 H2)
noncomputable def kC (fp:Ld)(h:Heap):List (Addr×Obj):=fp.filterMap fun b=>(h.get? b).map fun o=>(b,o)
theorem xG {fp:Ld}{h:Heap}{b:Addr}{o:Obj}(hb:b∈fp)(e:h.get? b=some o):(b,o)∈kC fp h:=List.mem_filterMap.mpr ⟨b,hb,by rw [e];rfl⟩
theorem YU {fp:Ld}{h:Heap}{p:Addr×Obj}(hp:p∈kC fp h):p.1∈fp/\h.get? p.1=some p.2:=by
 obtain⟨b,hb,e⟩:=List.mem_filterMap.mp hp
 cases q:h.get? b with
 | none=>rw [q] at e;cases e
 | some o=>
  rw [q] at e
  have e':(b,o)=p:=uG e
  subst e'
  exact⟨hb,q⟩
theorem Inv.pinned {pins:List (Addr×Obj)}{σ:St}{H:Hp}{s:Shared}{fp:Ld}(I:Inv X pins σ H s)(hf:∀ b∈fp,FpOk X pins H b)(ho:∀ b∈fp,∃ o,s.heap.get? b=some o/\∀ v,o.data≠.cell v):Inv X (pins++kC fp s.heap) σ H s:=
 I.pins_of fun p hp=>(uC.mp hp).elim (fun z=>I.pin p (uy _ z)) fun z=>by
  obtain⟨hb,e⟩:=YU z
  obtain⟨f0,f1,f2,_⟩:=hf p.1 hb
  obtain⟨o,e',d⟩:=ho p.1 hb
  rw [e] at e';cases e'
  exact⟨e,f0,f1,f2,d⟩
theorem Inv.unpinned {pins pl:List (Addr×Obj)}{σ:St}{H:Hp}{s:Shared}(I:Inv X (pins++pl) σ H s):Inv X pins σ H s:=I.pins_of fun p hp=>I.pin p (uy _ (uS _ hp))
theorem K8 {iter:Expr}{body:List Stmt}{wi:TI}{g:TG}{tb:TS}{pos:Pos}(hp:PassesOwn (model X.prog X.w) X.A X.env X.xe)(hc:X.calm=true)(hi:PI X tg iter wi)(hg:PG X tg g)(hb:PSs X body tb)
  (hs:∀ x,foldedSetIterable iter X.env x=pure x:=by intro _;rfl):PS X (.For tg iter body [] pos) (tFor wi g tb):=by
 intro pins s σ H D I h
 refine wpAny_For (thn (hi pins s σ H _ I h) fun v s1 h1=>thn h1 fun itv s2 h2=>?_) hs
 obtain⟨it,fp,tn,J,H2,e,I2,T,st2,f2,W,⟨m0,w0⟩,turn⟩:=h2
 subst e
 have stat:∀ {H':Hp},(∀ b∈fp,H' b=none)->∀ b∈fp,FpOk X pins H' b:=fun hn b hb=>⟨hn b hb,(f2 b hb).2⟩
 refine codeAny_forLoop_any (fun n s'=>∃ i σ' H',Inv X pins σ' H' s'/\tn i s'.heap/\(∀ b∈fp,H' b=none)/\W i n σ' H') ?_ m0 ⟨0,σ,H2,I2,st2,fun b hb=>(f2 b hb).1,w0⟩
 rintro n s3 ⟨i,σ3,H3,I3,st3,fr3,w3⟩
 rcases turn i n σ3 H3 w3 with⟨stop,qn⟩ | ⟨go,N,hN,step⟩
 ·refine wpAny_passesOwn hp (thn (T.done X rfl rfl rfl hc i pins s3 σ3 H3 X.xe I3 (stat fr3) st3 stop) fun r s4 ⟨hr,I4⟩=>?_)
  subst hr
  exact wpAny_execs_nil ⟨σ3,H3,I4,qn⟩
 ·refine wpAny_passesOwn hp (thn (T.item X rfl rfl rfl hc i pins s3 σ3 H3 X.xe I3 (stat fr3) st3 go) fun r s4 ⟨u,hr,h4⟩=>?_)
  subst hr
  refine wpAny_passesOwn hp (thn h4 fun _ s5 ⟨x,H5,I5,r5,y5,st5,fr5⟩=>?_)
  have I5':=I5.pinned (stat fr5) (T.obj _ _ st5)
  refine wpAny_passesOwn hp (thn (hg _ s5 σ3 H5 x u _ I5' r5 (step x H5 y5)) fun _ s6 ⟨σ6,H6,I6,q6⟩=>?_)
  refine wpAny_passesOwn hp (thn (hb _ s6 σ6 H6 _ I6 q6) fun f s7 q7=>?_)
  have again:∀ {σ7:St} {H7:Hp},Inv X (pins++kC fp s5.heap) σ7 H7 s7->N σ7 H7->∃ m,m<n/\∃ i σ' H',Inv X pins σ' H' s7/\tn i s7.heap/\(∀ b∈fp,H' b=none)/\W i m σ' H':=fun {σ7 H7} I7 n7=>by
   obtain⟨m',hm,w7⟩:=hN σ7 H7 n7
   refine⟨m',hm,i+1,σ7,H7,I7.unpinned,T.keep _ _ _ st5 fun b hb o e=>(I7.pin (b,o) (uy _ (uy _ (xG hb e)))).1,fun b hb=>?_,w7⟩
   obtain⟨o,e,d⟩:=T.obj _ _ st5 b hb
   exact(I7.pin (b,o) (uy _ (uy _ (xG hb e)))).2.1
  cases f with
  | next=>obtain⟨σ7,H7,I7,n7⟩:=q7;exact again I7 n7
  | cont=>obtain⟨σ7,H7,I7,n7⟩:=q7;exact again I7 n7
  | brk=>obtain⟨σ7,H7,I7,q7⟩:=q7;exact⟨σ7,H7,I7.unpinned,q7⟩
  | ret v=>obtain⟨x7,σ7,H7,I7,r7,q7⟩:=q7;exact⟨x7,σ7,H7,I7.unpinned,r7,q7⟩
end
noncomputable abbrev R2:=V->V->Hp->VK->Prop
def OpR (X:Cx)(f:Value->Value->Sem Value)(r:R2):Prop:=
 ∀ (pins:List (Addr×Obj)) (s:Shared) (σ:St) (H:Hp) (x y:V) (v u:Value) (Q:VK),Inv X pins σ H s->RelV x v->RelV y u->r x y H Q ->
  wpAny (model X.prog X.w) X.A (f v u) (EP X pins σ Q) X.xe s
def UnR (X:Cx)(f:Value->Sem Value)(r:V->Hp->VK->Prop):Prop:=
 ∀ (pins:List (Addr×Obj)) (s:Shared) (σ:St) (H:Hp) (x:V) (v:Value) (Q:VK),Inv X pins σ H s->RelV x v->r x H Q ->
  wpAny (model X.prog X.w) X.A (f v) (EP X pins σ Q) X.xe s
def qF (X:Cx)(f:Value)(r:List V->Hp->VK->Prop):Prop:=
 ∀ (pins:List (Addr×Obj)) (s:Shared) (σ:St) (H:Hp) (xs:List V) (us:Lf) (Q:VK),Inv X pins σ H s->Vals xs us->r xs H Q ->
  wpAny (model X.prog X.w) X.A (call f us) (EP X pins σ Q) X.xe s
def TruR (X:Cx)(r:V->Hp->(Bool->Hp->Prop)->Prop):Prop:=
 ∀ (pins:List (Addr×Obj)) (s:Shared) (σ:St) (H:Hp) (x:V) (v:Value) (Q:Bool->Hp->Prop),Inv X pins σ H s->RelV x v->r x H Q ->
  wpAny (model X.prog X.w) X.A (truthy v) (TP X pins σ Q) X.xe s
noncomputable def tOp (r:R2)(ta tb:TE):TE:=fun σ H Q=>ta σ H fun x H1=>tb σ H1 fun y H2=>r x y H2 Q
noncomputable def tUn (r:V->Hp->VK->Prop)(ta:TE):TE:=fun σ H Q=>ta σ H fun x H1=>r x H1 Q
noncomputable def rI (C:Int->Int->Prop)(g:Int->Int->V):R2:=fun x y H Q=>∃ i j,x=.int i/\y=.int j/\C i j/\Q (g i j) H
noncomputable def rI0 (g:Int->Int->V):R2:=fun x y H Q=>∃ i j,x=.int i/\y=.int j/\Q (g i j) H
noncomputable def rU (g:Int->V):V->Hp->VK->Prop:=fun x H Q=>∃ i,x=.int i/\Q (g i) H
section
variable {X:Cx} {a b c:Expr} {ta tb tc:TE} {pos:Pos}
theorem binT (ha:PE X a ta)(hb:PE X b tb){pins:List (Addr×Obj)}{s:Shared}{σ:St}{H:Hp}{R:V->V->Hp->Prop}(I:Inv X pins σ H s)
  (h:ta σ H fun x H1=>tb σ H1 fun y H2=>R x y H2) {Q:Value->Shared->Prop} {f:Value->Value->Sem Value}
  (hf:∀ v u s2 x y H2,Inv X pins σ H2 s2->RelV x v->RelV y u->R x y H2->wpAny (model X.prog X.w) X.A (f v u) Q X.xe s2) :
  wpAny (model X.prog X.w) X.A (eval a X.env) (fun v s₁=>wpAny (model X.prog X.w) X.A (eval b X.env) (fun u s₂=>wpAny (model X.prog X.w) X.A (f v u) Q X.xe s₂) X.xe s₁) X.xe s:=by
 refine thn (ha pins s σ H _ I h) fun v s1 ⟨x,H1,I1,r1,q1⟩=>?_
 refine thn (hb pins s1 σ H1 _ I1 q1) fun u s2 ⟨y,H2,I2,r2,q2⟩=>?_
 exact hf v u s2 x y H2 I2 r1 r2 q2
theorem zgZ {op:Operator}{r:R2}(ho:OpR X (binaryOp op) r)(ha:PE X a ta)(hb:PE X b tb):PE X (.BinOp a op b pos) (tOp r ta tb):=by
 intro pins s σ H Q I h
 exact wpAny_BinOp (binT ha hb I h fun v u s2 x y H2 I2 rx ry q=>ho pins s2 σ H2 x y v u Q I2 rx ry q)
theorem zdL {op:UnaryOp}{r:V->Hp->VK->Prop}(ho:UnR X (unaryOp op) r)(ha:PE X a ta):PE X (.UnaryOp op a pos) (tUn r ta):=by
 intro pins s σ H Q I h
 exact UnaryOp_ (thn (ha pins s σ H _ I h) fun v s1 ⟨x,H1,I1,r1,q1⟩=>ho pins s1 σ H1 x v Q I1 r1 q1)
theorem opI {f:Value->Value->Sem Value}{C:Int->Int->Prop}{g:Int->Int->Int}
  (rule:∀ (i j:Int) (t u:Tok) (s:Shared) (Q:Value->Shared->Prop) (E:Value->Shared->Prop),C i j->Q (.int (g i j) s.toks) { s with toks:=s.toks+1 }->wpAny (model X.prog X.w) X.A (f (.int i t) (.int j u)) Q E s) :
  OpR X f (rI C fun i j=>.int (g i j)):=by
 intro pins s σ H x y v u Q I rx ry h
 obtain⟨i,j,rfl,rfl,hc,q⟩:=h
 obtain⟨t,rfl⟩:=rx
 obtain⟨t',rfl⟩:=ry
 exact rule i j t t' s _ _ hc ⟨.int (g i j),H,I.tok _,⟨_,rfl⟩,q⟩
theorem opI0 {f:Value->Value->Sem Value}{g:Int->Int->Int}
  (rule:∀ (i j:Int) (t u:Tok) (s:Shared) (Q:Value->Shared->Prop) (E:Value->Shared->Prop),Q (.int (g i j) s.toks) { s with toks:=s.toks+1 }->wpAny (model X.prog X.w) X.A (f (.int i t) (.int j u)) Q E s) :
  OpR X f (rI0 fun i j=>.int (g i j)):=by
 intro pins s σ H x y v u Q I rx ry h
 obtain⟨i,j,rfl,rfl,q⟩:=h
 obtain⟨t,rfl⟩:=rx
 obtain⟨t',rfl⟩:=ry
 exact rule i j t t' s _ _ ⟨.int (g i j),H,I.tok _,⟨_,rfl⟩,q⟩
theorem opB0 {f:Value->Value->Sem Value}{g:Int->Int->Bool}
  (rule:∀ (i j:Int) (t u:Tok) (s:Shared) (Q:Value->Shared->Prop) (E:Value->Shared->Prop),Q (.bool (g i j)) s->wpAny (model X.prog X.w) X.A (f (.int i t) (.int j u)) Q E s) :
  OpR X f (rI0 fun i j=>.bl (g i j)):=by
 intro pins s σ H x y v u Q I rx ry h
 obtain⟨i,j,rfl,rfl,q⟩:=h
 obtain⟨t,rfl⟩:=rx
 obtain⟨t',rfl⟩:=ry
 exact rule i j t t' s _ _ ⟨.bl (g i j),H,I,rfl,q⟩
def CDiv (i j:Int):Prop:=0<j/\j<1073741824
def CPow (i j:Int):Prop:=0<=j/\j<=1000000/\i.natAbs<2 ^ 64
def CMul (i j:Int):Prop:=(-(2 ^ 64)<i/\i<2 ^ 64)\/(-(2 ^ 64)<j/\j<2 ^ 64)
theorem CMul.ok {i j:Int}(h:CMul i j):IntMulOk i j:=by
 rcases h with⟨h1,h2⟩ | ⟨h1,h2⟩
 ·exact .of_left (intBits_le_64 h1 h2)
 ·exact .of_right (intBits_le_64 h1 h2)
theorem zeI:OpR X (binaryOp .Add) (rI0 fun i j=>.int (i+j)):=opI0 fun _ _ _ _ _ _ _ q=>add_int q
theorem zeJ:OpR X (binaryOp .Sub) (rI0 fun i j=>.int (i - j)):=opI0 fun _ _ _ _ _ _ _ q=>sub_int q
theorem zcn:OpR X (binaryOp .FloorDiv) (rI CDiv fun i j=>.int (i / j)):=opI fun i j _ _ _ _ _ hc q=>by
 have h1:(0:Int)<j:=hc.1
 have h2:j<1073741824:=hc.2
 exact floordiv_int (by lia) (by rw [Int.fdiv_eq_ediv_of_nonneg i (by lia)];exact q) (.inl (PyProof.noPylong_small (by lia)))
theorem zeK:OpR X (binaryOp .Mod) (rI (fun _ j=>0<j) fun i j=>.int (i % j)):=opI fun i j _ _ _ _ _ hc q=>by
 have h1:(0:Int)<j:=hc
 exact mod_int' (by lia) (by rw [Int.fmod_eq_emod_of_nonneg i (by lia)];exact q)
theorem zeL:OpR X (binaryOp .Pow) (rI CPow fun i j=>.int (i ^ j.toNat)):=opI fun _ _ _ _ _ _ _ hc q=>pow_int_small hc.1 hc.2.1 hc.2.2 q
theorem unI {f:Value->Sem Value}{g:Int->Int}
  (rule:∀ (i:Int) (t:Tok) (s:Shared) (Q:Value->Shared->Prop) (E:Value->Shared->Prop),Q (.int (g i) s.toks) { s with toks:=s.toks+1 }->wpAny (model X.prog X.w) X.A (f (.int i t)) Q E s) :
  UnR X f (rU fun i=>.int (g i)):=by
 intro pins s σ H x v Q I rx h
 obtain⟨i,rfl,q⟩:=h
 obtain⟨t,rfl⟩:=rx
 exact rule i t s _ _ ⟨.int (g i),H,I.tok _,⟨_,rfl⟩,q⟩
theorem K9:UnR X (unaryOp .USub) (rU fun i=>.int (-i)):=unI fun _ _ _ _ _ q=>neg_int q
end
noncomputable def scal:V->V->Bool
 | .non,.non=>true | .non,.int _=>true | .int _,.non=>true | .non,.bl _=>true | .bl _,.non=>true | .non,.str _=>true | .str _,.non=>true
 | .int _,.int _=>true | .bl _,.bl _=>true | .str _,.str _=>true | .byt _,.byt _=>true
 | .int _,.str _=>true | .str _,.int _=>true | .bl _,.str _=>true | .str _,.bl _=>true
 | _,_=>false
noncomputable def rEq:R2:=fun x y H Q=>scal x y=true/\Q (.bl (decide (x=y))) H
noncomputable def rNe:R2:=fun x y H Q=>scal x y=true/\Q (.bl (!decide (x=y))) H
theorem VI {i j:Int}:decide (V.int i=V.int j)=(i == j):=by
 rw [UD]
 simp
theorem zaa {i j:Bool}:decide (V.bl i=V.bl j)=(i == j):=by
 rw [UD]
 simp
theorem VJ {i j:Str}:decide (V.str i=V.str j)=(i == j):=by
 rw [UD]
 simp
theorem VL {i j:Array UInt8}:decide (V.byt i=V.byt j)=(i.toList == j.toList):=by
 rw [UD]
 cases i
 cases j
 simp
section
variable {X:Cx} {a b c:Expr} {ta tb tc:TE} {pos:Pos}
theorem fin_bl {pins:List (Addr×Obj)}{σ:St}{H:Hp}{s:Shared}{Q:VK}{k k':Bool}(I:Inv X pins σ H s)(q:Q (.bl k) H)(e:k=k'):EP X pins σ Q (.bool k') s:=by
 subst e
 exact⟨.bl k,H,I,rfl,q⟩
theorem zg0:OpR X (compareOp .Eq) rEq:=by
 intro pins s σ H x y v u Q I rx ry h
 obtain⟨hs,q⟩:=h
 cases x with
 | non=>
  cases rx
  cases y with
  | non=>cases ry;exact PySem.EqNone.eq_none_none (fin_bl I q (by simp))
  | bl j=>cases ry;exact PySem.EqNone.eq_none_bool (fin_bl I q (by simp))
  | int j=>obtain⟨t',rfl⟩:=ry;exact PySem.EqNone.eq_none_int (fin_bl I q (by simp))
  | str j=>obtain⟨t',rfl⟩:=ry;exact PySem.EqNone.eq_none_str (fin_bl I q (by simp))
  | _=>exact absurd (show false=true from hs) ux
 | bl i=>
  cases rx
  cases y with
  | non=>cases ry;exact PySem.EqNone.eq_bool_none (fin_bl I q (by simp))
  | bl j=>cases ry;exact eq_bool (fin_bl I q zaa)
  | str j=>obtain⟨t',rfl⟩:=ry;exact PySem.EqMixed.eq_bool_str (fin_bl I q (by simp))
  | _=>exact absurd (show false=true from hs) ux
 | int i=>
  obtain⟨t,rfl⟩:=rx
  cases y with
  | non=>cases ry;exact PySem.EqNone.eq_int_none (fin_bl I q (by simp))
  | int j=>obtain⟨t',rfl⟩:=ry;exact eq_int (fin_bl I q VI)
  | str j=>obtain⟨t',rfl⟩:=ry;exact PySem.EqMixed.eq_int_str (fin_bl I q (by simp))
  | _=>exact absurd (show false=true from hs) ux
 | str i=>
  obtain⟨t,rfl⟩:=rx
  cases y with
  | non=>cases ry;exact PySem.EqNone.eq_str_none (fin_bl I q (by simp))
  | bl j=>cases ry;exact PySem.EqMixed.eq_str_bool (fin_bl I q (by simp))
  | int j=>obtain⟨t',rfl⟩:=ry;exact PySem.EqMixed.eq_str_int (fin_bl I q (by simp))
  | str j=>obtain⟨t',rfl⟩:=ry;exact eq_str (fin_bl I q VJ)
  | _=>exact absurd (show false=true from hs) ux
 | byt i=>
  obtain⟨t,rfl⟩:=rx
  cases y with
  | byt j=>obtain⟨t',rfl⟩:=ry;exact PySem.W.eq_bytes (fin_bl I q VL)
  | _=>exact absurd (show false=true from hs) ux
 | _=>cases y<;>exact absurd (show false=true from hs) ux
theorem zg1:OpR X (compareOp .NotEq) rNe:=by
 intro pins s σ H x y v u Q I rx ry h
 obtain⟨hs,q⟩:=h
 cases x with
 | non=>
  cases rx
  cases y with
  | non=>cases ry;exact PySem.EqNone.ne_none_none (fin_bl I q (by simp))
  | bl j=>cases ry;exact PySem.EqNone.ne_none_bool (fin_bl I q (by simp))
  | int j=>obtain⟨t',rfl⟩:=ry;exact PySem.EqNone.ne_none_int (fin_bl I q (by simp))
  | str j=>obtain⟨t',rfl⟩:=ry;exact PySem.EqNone.ne_none_str (fin_bl I q (by simp))
  | _=>exact absurd (show false=true from hs) ux
 | bl i=>
  cases rx
  cases y with
  | non=>cases ry;exact PySem.EqNone.ne_bool_none (fin_bl I q (by simp))
  | bl j=>cases ry;exact ne_bool (fin_bl I q (congrArg not zaa))
  | str j=>obtain⟨t',rfl⟩:=ry;exact PySem.EqMixed.ne_bool_str (fin_bl I q (by simp))
  | _=>exact absurd (show false=true from hs) ux
 | int i=>
  obtain⟨t,rfl⟩:=rx
  cases y with
  | non=>cases ry;exact PySem.EqNone.ne_int_none (fin_bl I q (by simp))
  | int j=>obtain⟨t',rfl⟩:=ry;exact ne_int (fin_bl I q (congrArg not VI))
  | str j=>obtain⟨t',rfl⟩:=ry;exact PySem.EqMixed.ne_int_str (fin_bl I q (by simp))
  | _=>exact absurd (show false=true from hs) ux
 | str i=>
  obtain⟨t,rfl⟩:=rx
  cases y with
  | non=>cases ry;exact PySem.EqNone.ne_str_none (fin_bl I q (by simp))
  | bl j=>cases ry;exact PySem.EqMixed.ne_str_bool (fin_bl I q (by simp))
  | int j=>obtain⟨t',rfl⟩:=ry;exact PySem.EqMixed.ne_str_int (fin_bl I q (by simp))
  | str j=>obtain⟨t',rfl⟩:=ry;exact ne_str (fin_bl I q (congrArg not VJ))
  | _=>exact absurd (show false=true from hs) ux
 | byt i=>
  obtain⟨t,rfl⟩:=rx
  cases y with
  | byt j=>obtain⟨t',rfl⟩:=ry;exact PySem.W.ne_bytes (fin_bl I q (congrArg not VL))
  | _=>exact absurd (show false=true from hs) ux
 | _=>cases y<;>exact absurd (show false=true from hs) ux
theorem zg2:OpR X (compareOp .Lt) (rI0 fun i j=>.bl (decide (i<j))):=opB0 fun _ _ _ _ _ _ _ q=>lt_int q
theorem zg3:OpR X (compareOp .LtE) (rI0 fun i j=>.bl (decide (i<=j))):=opB0 fun _ _ _ _ _ _ _ q=>le_int q
theorem zg4:OpR X (compareOp .Gt) (rI0 fun i j=>.bl (decide (j<i))):=opB0 fun _ _ _ _ _ _ _ q=>gt_int q
theorem zg5:OpR X (compareOp .GtE) (rI0 fun i j=>.bl (decide (j<=i))):=opB0 fun _ _ _ _ _ _ _ q=>ge_int q
theorem YV:OpR X (compareOp .In) (fun x y H Q=>∃ i j,x=.str i/\y=.str j/\Q (.bl (!(Builtin.Str.occurrences j i 0 j.length 1).isEmpty)) H):=by
 intro pins s σ H x y v u Q I rx ry h
 obtain⟨i,j,rfl,rfl,q⟩:=h
 obtain⟨t,rfl⟩:=rx
 obtain⟨t',rfl⟩:=ry
 exact in_str (fin_bl I q rfl)
theorem zeM:OpR X (compareOp .Is) (fun x y H Q=>y=.non/\Q (.bl (decide (x=.non))) H):=by
 intro pins s σ H x y v u Q I rx ry h
 obtain⟨rfl,q⟩:=h
 cases ry
 refine is_none_gen (fin_bl I q ?_)
 cases x<;>first
  | (cases rx;rfl)
  | (obtain⟨t,rfl⟩:=rx;rfl)
theorem zco:OpR X (compareOp .IsNot) (fun x y H Q=>y=.non/\Q (.bl (!decide (x=.non))) H):=by
 intro pins s σ H x y v u Q I rx ry h
 obtain⟨rfl,q⟩:=h
 cases ry
 refine isnot_none_gen (fin_bl I q ?_)
 cases x<;>first
  | (cases rx;rfl)
  | (obtain⟨t,rfl⟩:=rx;rfl)
theorem JK:OpR X (compareOp .NotIn) (fun x y H Q=>∃ i j,x=.str i/\y=.str j/\Q (.bl (!(!(Builtin.Str.occurrences j i 0 j.length 1).isEmpty))) H):=by
 intro pins s σ H x y v u Q I rx ry h
 obtain⟨i,j,rfl,rfl,q⟩:=h
 obtain⟨t,rfl⟩:=rx
 obtain⟨t',rfl⟩:=ry
 exact notIn_str (fin_bl I q rfl)
theorem zcp {op:CmpOp}{r:R2}(ho:OpR X (compareOp op) r)(ha:PE X a ta)(hb:PE X b tb)(hm:behindInMarks op b=false):PE X (.Compare a [op] [b] pos) (tOp r ta tb):=by
 intro pins s σ H Q I h
 exact wpAny_Compare1 (binT ha hb I h fun v u s2 x y H2 I2 rx ry q=>ho pins s2 σ H2 x y v u Q I2 rx ry q) hm
noncomputable def VM (t:TE):TT:=fun σ H Q=>t σ H fun x H'=>∃ k,x=.bl k/\Q k H'
theorem zcq {op:CmpOp}{r:R2}(ho:OpR X (compareOp op) r)(ha:PE X a ta)(hb:PE X b tb)(hm:behindInMarks op b=false):PT X (.Compare a [op] [b] pos) (VM (tOp r ta tb)):=by
 intro pins s σ H Q I h
 refine wpAny_isTrue_Compare1 (thn (ha pins s σ H _ I h) fun v s1 ⟨x,H1,I1,r1,q1⟩=>thn (hb pins s1 σ H1 _ I1 q1) fun u s2 ⟨y,H2,I2,r2,q2⟩=>
  thn (ho pins s2 σ H2 x y v u _ I2 r1 r2 q2) fun c s3 ⟨z,H3,I3,r3,k,e,q3⟩=>?_) hm
 subst e
 cases r3
 exact wpAny_truthy_bool ⟨H3,I3,q3⟩
noncomputable def kD (r r':R2)(ta tb tc:TE):TE:=fun σ H Q=>ta σ H fun x H1=>tb σ H1 fun y H2=>r x y H2 fun z H3=>∃ k,z=.bl k /\
 (if k=true then tc σ H3 fun w' H4=>r' y w' H4 Q else Q (.bl false) H3)
theorem zab {op op':CmpOp}{r r':R2}(ho:OpR X (compareOp op) r)(ho':OpR X (compareOp op') r')(ha:PE X a ta)(hb:PE X b tb)(hc:PE X c tc)
  (hm:lastMarks [op,op'] [b,c]=false:=by with_unfolding_all rfl):PE X (.Compare a [op,op'] [b,c] pos) (kD r r' ta tb tc):=by
 intro pins s σ H Q I h
 refine Compare_chain (thn (ha pins s σ H _ I h) fun v s1 ⟨x,H1,I1,r1,q1⟩=>chain_link (thn (hb pins s1 σ H1 _ I1 q1) fun u s2 ⟨y,H2,I2,r2,q2⟩=>
  thn (ho pins s2 σ H2 x y v u _ I2 r1 r2 q2) fun d s3 ⟨z,H3,I3,r3,k,e,q3⟩=>?_)) hm
 subst e
 cases r3
 refine wpAny_truthy_bool ?_
 cases k with
 | false=>exact ite_ff ⟨.bl false,H3,I3,rfl,q3⟩
 | true=>exact ite_tt (chain_last (thn (hc pins s3 σ H3 _ I3 q3) fun w' s4 ⟨z',H4,I4,r4,q4⟩=>ho' pins s4 σ H4 y z' u w' Q I4 r2 r4 q4))
theorem zac {op op':CmpOp}{r r':R2}(ho:OpR X (compareOp op) r)(ho':OpR X (compareOp op') r')(ha:PE X a ta)(hb:PE X b tb)(hc:PE X c tc)
  (hm:lastMarks [op,op'] [b,c]=false:=by with_unfolding_all rfl):PT X (.Compare a [op,op'] [b,c] pos) (VM (kD r r' ta tb tc)):=by
 intro pins s σ H Q I h
 refine isTrue_chain (thn (ha pins s σ H _ I h) fun v s1 ⟨x,H1,I1,r1,q1⟩=>test_link (thn (hb pins s1 σ H1 _ I1 q1) fun u s2 ⟨y,H2,I2,r2,q2⟩=>
  thn (ho pins s2 σ H2 x y v u _ I2 r1 r2 q2) fun d s3 ⟨z,H3,I3,r3,k,e,q3⟩=>?_)) hm
 subst e
 cases r3
 refine wpAny_truthy_bool ?_
 cases k with
 | false=>
  obtain⟨k',e',q'⟩:=q3
  cases e'
  exact ite_ff ⟨H3,I3,q'⟩
 | true=>
  refine ite_tt (test_last (thn (hc pins s3 σ H3 _ I3 q3) fun w' s4 ⟨z',H4,I4,r4,q4⟩=>thn (ho' pins s4 σ H4 y z' u w' _ I4 r2 r4 q4) fun d' s5 ⟨z2,H5,I5,r5,k2,e2,q5⟩=>?_))
  subst e2
  cases r5
  exact wpAny_truthy_bool ⟨H5,I5,q5⟩
def TruV (K:Le)(x:V)(H:Hp)(k:Bool):Prop:=
 match x with
 | .non=>k=false
 | .bl b=>k=b
 | .int i=>k=(i != 0)
 | .str y=>y.length<=sizeLine/\k=((y.length:Int) != 0)
 | .byt y=>y.size<=sizeLine/\k=((y.size:Int) != 0)
 | .ref p=>(∃ xs,SqL K H p xs/\k = !xs.isEmpty)\/(∃ xs,SqT K H p xs/\k = !xs.isEmpty)\/∃ kvs,H p=some (.dK kvs)/\k = !kvs.isEmpty
 | _=>False
theorem XZ {κ:Type}{kvs:List (κ×V)}{vs:List (κ×Value)}(r:KV kvs vs):(!vs.isEmpty) = !kvs.isEmpty:=by
 cases r<;>rfl
theorem ZY {xs:List V}{its:Lf}(r:Vals xs its):(!its.toArray.isEmpty) = !xs.isEmpty:=by
 cases r<;>simp
theorem yl:(sizeLine:Nat)<2 ^ 63:=by rw [sizeLine_eq];decide
theorem zeN:TruR X (fun x H Q=>∃ k,TruV X.K x H k/\Q k H):=by
 intro pins s σ H x v Q I rx h
 obtain⟨k,e,q⟩:=h
 have hl:=yl
 have hs:sizeLine=16777216:=sizeLine_eq
 cases x with
 | non=>
  cases rx
  have e':k=false:=e
  subst e'
  exact truthy_none ⟨H,I,q⟩
 | bl b=>
  cases rx
  have e':k=b:=e
  subst e'
  exact wpAny_truthy_bool ⟨H,I,q⟩
 | int i=>
  obtain⟨t,rfl⟩:=rx
  have e':k=(i != 0):=e
  subst e'
  exact PySem.P.truthy_int ⟨H,I,q⟩
 | str y=>
  obtain⟨t,rfl⟩:=rx
  obtain⟨hy,e'⟩:y.length<=sizeLine/\k=((y.length:Int) != 0):=e
  subst e'
  exact PySem.P.truthy_str (by lia) ⟨H,I.tok _,q⟩
 | byt y=>
  obtain⟨t,rfl⟩:=rx
  obtain⟨hy,e'⟩:y.size<=sizeLine/\k=((y.size:Int) != 0):=e
  subst e'
  exact PySem.W.truthy_bytes (by lia) ⟨H,I.tok _,q⟩
 | ref p=>
  cases rx
  have e':(∃ xs,SqL X.K H p xs/\k = !xs.isEmpty)\/(∃ xs,SqT X.K H p xs/\k = !xs.isEmpty)\/∃ kvs,H p=some (.dK kvs)/\k = !kvs.isEmpty:=e
  rcases e' with⟨xs,hx,e'⟩ | ⟨xs,hx,e'⟩ | ⟨kvs,hx,e'⟩
  ·subst e'
   obtain⟨its,r,pl,hz⟩:=I.list hx
   have hlen:=r.length
   exact wpAny_truthy_list pl.isList (by simp only [ue];lia) ⟨H,I.tok _,by rw [ZY r];exact q⟩
  ·subst e'
   obtain⟨its,r,pl,hz⟩:=I.tuple hx
   have hlen:=r.length
   exact truthy_tuple pl (by simp only [ue];lia) ⟨H,I.tok _,by rw [ZY r];exact q⟩
  ·subst e'
   obtain⟨hz,hS,vs,r,m⟩:kvs.length<=sizeLine/\(p == sysModules)=false/\∃ vs,KV kvs vs/\s.heap.DictOf (zJ X.prog X.w) p vs:=I.hok p _ hx
   have hlen:kvs.length=vs.length:=Paired.length r
   exact wpAny_truthy_dict hS m (by lia) ⟨H,I.tok _,by rw [XZ r];exact q⟩
 | _=>exact(show False from e).elim
theorem zad (ha:PE X a ta)(he:∀ whole,isTrue a X.env whole=(do let v ← whole;standAt a.pos;holding [v] (truthy v))) :
  PT X a (fun σ H Q=>ta σ H fun x H'=>∃ k,TruV X.K x H' k/\Q k H'):=by
 intro pins s σ H Q I h
 exact isTrue_plain (thn (ha pins s σ H _ I h) fun v s1 ⟨x,H1,I1,r1,q1⟩=>zeN pins s1 σ H1 x v Q I1 r1 q1) (he _)
theorem X0:OpR X (binaryOp .Add) (fun x y H Q=>∃ i j,x=.str i/\y=.str j/\i.length+j.length<=sizeLine/\Q (.str (i++j)) H):=by
 intro pins s σ H x y v u Q I rx ry h
 obtain⟨i,j,rfl,rfl,hz,q⟩:=h
 obtain⟨t,rfl⟩:=rx
 obtain⟨t',rfl⟩:=ry
 exact add_str (fun t' tk=>⟨.str (i++j),H,I.tok _,⟨_,rfl⟩,q⟩) hz
theorem vals1 {x:V}{us:Lf}(r:Vals [x] us):∃ u,us=[u]/\RelV x u:=by
 cases r with
 | cons r1 r2=>cases r2;exact⟨_,rfl,r1⟩
theorem vals2 {x y:V}{us:Lf}(r:Vals [x,y] us):∃ u w',us=[u,w']/\RelV x u/\RelV y w':=by
 cases r with
 | cons r1 r2=>
  cases r2 with
  | cons r3 r4=>cases r4;exact⟨_,_,rfl,r1,r3⟩
theorem YW (hc:X.calm=true):qF X (.builtin "max") (fun xs H Q=>∃ i j,xs=[.int i,.int j]/\Q (.int (if j > i then j else i)) H):=by
 intro pins s σ H xs us Q I r h
 obtain⟨i,j,rfl,q⟩:=h
 obtain⟨u,w',rfl,⟨t,rfl⟩,⟨t',rfl⟩⟩:=vals2 r
 refine max_two_ints (I.ok.hd hc) fun h' tk k=>⟨_,H,I.kept k,?_,q⟩
 by_cases hj:j > i
 ·rw [uA hj,uA hj];exact⟨_,rfl⟩
 ·rw [uq hj,uq hj];exact⟨_,rfl⟩
theorem YX (hc:X.calm=true):qF X (.builtin "min") (fun xs H Q=>∃ i j,xs=[.int i,.int j]/\Q (.int (if j<i then j else i)) H):=by
 intro pins s σ H xs us Q I r h
 obtain⟨i,j,rfl,q⟩:=h
 obtain⟨u,w',rfl,⟨t,rfl⟩,⟨t',rfl⟩⟩:=vals2 r
 refine min_two_ints (I.ok.hd hc) fun h' tk k=>⟨_,H,I.kept k,?_,q⟩
 by_cases hj:j<i
 ·rw [uA hj,uA hj];exact⟨_,rfl⟩
 ·rw [uq hj,uq hj];exact⟨_,rfl⟩
theorem YY:qF X (.type "int") (fun xs H Q=>(∃ i,xs=[.int i]/\Q (.int i) H)\/∃ k,xs=[.bl k]/\Q (.int (if k then 1 else 0)) H):=by
 intro pins s σ H xs us Q I r h
 rcases h with⟨i,rfl,q⟩ | ⟨k,rfl,q⟩
 ·obtain⟨u,rfl,t,rfl⟩:=vals1 r
  exact call_int_int ⟨.int i,H,I,⟨_,rfl⟩,q⟩
 ·obtain⟨u,rfl,r1⟩:=vals1 r
  cases r1
  exact call_int_bool ⟨.int (if k then 1 else 0),H,I.tok _,⟨_,rfl⟩,q⟩
theorem JL:qF X (.type "str") (fun xs H Q=>∃ i,xs=[.int i]/\i.natAbs.log2<1920/\Q (.str (toString i)) H):=by
 intro pins s σ H xs us Q I r h
 obtain⟨i,rfl,hz,q⟩:=h
 obtain⟨u,rfl,t,rfl⟩:=vals1 r
 exact PySem.P.str_of_int hz ⟨.str _,H,I.tok _,⟨_,rfl⟩,q⟩
end
structure ObjM (h:Heap)(x dx C:Addr)(mA:La):Prop where
 obj:h.get? x=some (PySem.W.instObj C dx)
 ns:h.Ns1 dx mA
 ne:dx≠x
theorem YZ {h:Heap}{dx:Addr}{mA:La}(n:h.Ns1 dx mA):∃ od,h.get? dx=some od/\∀ name,PySem.W.lookIn name od=some (mA name):=by
 obtain⟨o,es,ep,ho,hd,hk,_,hm⟩:=n
 refine⟨o,ho,fun name=>?_⟩
 have e:=hm name
 unfold nsFind findBy at e
 rw [← Array.find?_toList] at e
 unfold PySem.W.lookIn
 rw [hd]
 dsimp only
 split
 ·rename_i y q
  rw [q] at e
  exact congrArg some e
 ·rename_i q
  rw [q] at e
  have a:es.toList.any (·.refKey)=false:=by
   rw [List.any_eq_false]
   intro y hy
   obtain⟨z,t,hkey⟩:=hk y (Array.mem_toList_iff.mp hy)
   simp [DictEntry.refKey,hkey]
  have a':¬ es.toList.any (·.refKey)=true:=by rw [a];exact ux
  rw [uq a']
  exact congrArg some e
theorem ObjM.look {h:Heap}{x dx C:Addr}{mA:La}(I:ObjM h x dx C mA):∃ od,PySem.W.InstAt h x (PySem.W.instObj C dx) C (some od)/\∀ name,PySem.W.lookIn name od=some (mA name):=
 let ⟨od,ho,hl⟩:=YZ I.ns
 ⟨od,⟨I.obj,rfl,rfl,ho⟩,hl⟩
section
variable {prog:Program} {w:World} {A:Around} {E:Value->Shared->Prop} {s:Shared} {K:Le} {x dx C f:Addr} {mA:La} {name:Str} {v:Value}
theorem get_map {expr:Bool}{Q:Value->Shared->Prop}(X:K.In s.heap)(I:ObjM s.heap x dx C mA)(hg:PySem.W.plainGet K C name=true)(hh:PySem.W.hasDictIn K C=true)
  (ha:PySem.W.findIn K (.ref C) name=some none) (hv:mA name=some v) (hv':PySem.W.handedIn v=true) (h:Q v { s with toks:=s.toks+1 }) :
  wpAny (model prog w) A (getAttr (.ref x) name expr) Q E s:=by
 obtain⟨od,J,hl⟩:=I.look
 exact PySem.W.get_value X J (gy hg).1 (PySem.W.findObj_own hh ha rfl (by rw [hl,hv])) hv' h
theorem zae {pl:Sem Bool}{Q:Value×Lf->Shared->Prop}(X:K.In s.heap)(I:ObjM s.heap x dx C mA)(hg:PySem.W.plainGet K C name=true)
  (hf:PySem.W.findIn K (.ref C) name=some (some (.ref f))) (ht:PySem.W.isFn K (.ref f)=true) (hv:mA name=none) (h:Q (.ref f,[.ref x]) s) :
  wpAny (model prog w) A (getMethod (.ref x) name pl) Q E s:=by
 obtain⟨od,J,hl⟩:=I.look
 exact PySem.W.method_fn X J (gy hg).1 (gy hg).2 hf (gc.mp ht) (by show(PySem.W.lookIn name od).map (·.isSome)=some false;rw [hl,hv];rfl) h
theorem zcr {ns:Lh}{Q:Unit->Shared->Prop}(X:K.In s.heap)(I:ObjM s.heap x dx C mA)
  (hs:PySem.W.findIn K (.ref C) "__setattr__" = some (some (.builtin "object.__setattr__"))) (hp:PySem.W.plainOver K C=true) (ht:PySem.W.takerIn K C name=some none) (hh:PySem.W.hasDictIn K C=true)
  (hw:PySem.Within mA ns) (hsz:ns.length<=sizeLine)
  (h:∀ h',ObjM h' x dx C (fun y=>if y=name then some v else mA y)->Heap.SameBut dx s.heap h'->Q () { s with heap:=h',toks:=s.toks+2 }) :
  wpAny (model prog w) A (setAttr (.ref x) name v) Q E s:=by
 obtain⟨od,J,hl⟩:=I.look
 refine PySem.W.set_plain X J hs (PySem.W.osa_open (s:={ s with toks:=s.toks+1 }) (r:=none) X J hp ht fun b=>?_)
 obtain⟨cd,hc,hd'⟩:=PySem.W.any_some hh
 have hx:s.heap.get? x=some ⟨.ref C,some dx,.plain,#[]⟩:=I.obj
 refine wpAny_bind (wpAny_pure (wpAny_bind (wpAny_bind (wpAny_loadPart hx (wpAny_bind (PySem.W.Looks.here (s:={ s with toks:=s.toks+1 }) (PySem.W.looks_clsIn X hc) ?_))))))
 rw [hd']
 refine wpAny_pure (a:=some dx) (wpAny_bind (wpAny_pure (wpAny_bind ?_)))
 refine wpAny_nsSet1 (s:={ s with toks:=s.toks+1 }) I.ns fun h' hn2 hs2=>?_
 obtain⟨oD,esD,epD,hoD,hdD,hcD⟩:=hn2.count (PySem.Within.cons name v hw)
 refine wpAny_bind (wpAny_lookBehind hoD (by rw [hdD];exact pastItsLine_dict (uN hcD (by rw [ua];lia))) ?_)
 exact wpAny_pure (h _ ⟨(hs2.2 _ (Ne.symm I.ne)).trans I.obj,hn2,I.ne⟩ hs2)
theorem zaf {R:Result->Shared->Prop}{vs:Lf}{kw:List (Str×Value)}(X:K.In s.heap)(hm:PySem.W.makesIn K C=true)
  (hi:PySem.W.findIn K (.ref C) "__init__" = some (some (.ref f))) (hf:PySem.W.typeIn K (.ref f)=some (.type "function"))
  (h:codeAny (model prog w) (A.under (.builtin "type.__call__" ⟨.ref C::vs,kw⟩)) (.call (.ref f) ⟨.ref (s.heap.objs.size+1)::vs,kw⟩) (PySem.W.InitBack (s.heap.objs.size+1) R)
   { s with heap:=(s.heap.push PySem.W.emptyDict).push (PySem.W.instObj C s.heap.objs.size) }) :
  codeAny (model prog w) A (.call (.ref C) ⟨vs,kw⟩) R s:=by
 obtain⟨hh,g,d,t,os⟩:=s
 exact PySem.W.make_core (PySem.W.makes_of X hm) (PySem.W.looks_findIn X hi) (fun self=>PySem.W.bind_fn X self hf) (.inl rfl) h
end
noncomputable def putF (f:Str)(v:V):List (Str×V)->List (Str×V)
 | []=>[(f,v)]
 | (g,x)::r=>if g=f then(g,v)::r else(g,x)::putF f v r
theorem Za (f g:Str)(v:V):∀ fs:List (Str×V),(putF f v fs).lookup g=if g=f then some v else fs.lookup g
 | []=>by
  show List.lookup g [(f,v)]=_
  by_cases h:g=f
  ·have hb:(g == f)=true:=gc.mpr h
   simp only [List.lookup,hb,uA h]
  ·have hb:(g == f)=false:=uZ.mpr h
   simp only [List.lookup,hb,uq h]
 | (k,x)::r=>by
  have ih:=Za f g v r
  rw [show putF f v ((k,x)::r)=(if k=f then(k,v)::r else(k,x)::putF f v r) from rfl]
  by_cases hk:k=f
  ·rw [uA hk]
   by_cases h:g=k
   ·have hb:(g == k)=true:=gc.mpr h
    simp only [List.lookup,hb,uA (h.trans hk)]
   ·have hb:(g == k)=false:=uZ.mpr h
    simp only [List.lookup,hb,uq (fun e:g=f=>h (e.trans hk.symm))]
  ·rw [uq hk]
   by_cases h:g=k
   ·have hb:(g == k)=true:=gc.mpr h
    simp only [List.lookup,hb,uq (fun e:g=f=>hk (h.symm.trans e))]
   ·have hb:(g == k)=false:=uZ.mpr h
    simp only [List.lookup,hb]
    exact ih
theorem kE (f:Str)(v:V):∀ fs:List (Str×V),f∈(putF f v fs).map (·.1)/\∀ g,g∈fs.map (·.1)->g∈(putF f v fs).map (·.1)
 | []=>⟨by simp [putF],fun g h=>by simp at h⟩
 | (k,x)::r=>by
  obtain⟨i1,i2⟩:=kE f v r
  rw [show putF f v ((k,x)::r)=(if k=f then(k,v)::r else(k,x)::putF f v r) from rfl]
  by_cases hk:k=f
  ·rw [uA hk]
   subst hk
   exact⟨by simp,fun g h=>by simpa using h⟩
  ·rw [uq hk]
   refine⟨?_,fun g h=>?_⟩
   ·rw [ur]
    exact uk _ i1
   ·rw [ur] at h ⊢
    rcases uh.mp h with e | e
    ·exact uh.mpr (.inl e)
    ·exact uk _ (i2 g e)
theorem Zb (f:Str)(v:V):∀ fs:List (Str×V),(putF f v fs).length<=fs.length+1
 | []=>by simp [putF]
 | (k,x)::r=>by
  have ih:=Zb f v r
  rw [show putF f v ((k,x)::r)=(if k=f then(k,v)::r else(k,x)::putF f v r) from rfl]
  by_cases hk:k=f
  ·rw [uA hk,ua,ua];lia
  ·rw [uq hk,ua,ua];lia
theorem RelO.some_of {v:V}{o:Option Value}(r:RelO (some v) o):∃ u,o=some u/\RelV v u:=by
 cases o with
 | none=>exact(show False from r).elim
 | some u=>exact⟨u,rfl,r⟩
theorem RelO.none_of {o:Option Value}(r:RelO none o):o=none:=by
 cases o with
 | none=>rfl
 | some u=>exact(show False from r).elim
theorem Y0 {v:V}{u:Value}(r:RelV v u):PySem.W.handedIn u=true:=by
 cases v with
 | non=>cases (show u=Value.none from r);rfl
 | bl b=>cases (show u=Value.bool b from r);rfl
 | int i=>obtain⟨t,e⟩:=(show ∃ t,u=Value.int i t from r);cases e;rfl
 | str x=>obtain⟨t,e⟩:=(show ∃ t,u=Value.str x t from r);cases e;rfl
 | byt b=>obtain⟨t,e⟩:=(show ∃ t,u=Value.bytes b t from r);cases e;rfl
 | flt b=>obtain⟨t,e⟩:=(show ∃ t,u=Value.float b t from r);cases e;rfl
 | ref a=>cases (show u=Value.ref a from r);rfl
 | ty n=>cases (show u=Value.type n from r);rfl
section
variable {P:Program} {w:World} {H H':Hp} {h h':Heap} {a C dx:Addr} {fs fs':List (Str×V)}
theorem yM (hok:HOk P w H h)(e:H a=some (.ins C dx fs)):∃ mA,ObjM h a dx C mA/\(∀ f,RelO (fs.lookup f) (mA f))/\PySem.Within mA (fs.map (·.1))/\fs.length<=1000/\H dx=some (.own a):=by
 obtain⟨d,z,ne,ob,mA,n,r,q⟩:=(show zR P w H h a (.ins C dx fs) from hok a _ e)
 exact⟨mA,⟨ob,n,ne⟩,r,q,z,d⟩
end
structure Cls (K:Le)(C:Addr):Prop where
 pg:PySem.W.plainGet K C Str.empty=true
 hd:PySem.W.hasDictIn K C=true
 po:PySem.W.plainOver K C=true
 sa:PySem.W.findIn K (.ref C) "__setattr__" = some (some (.builtin "object.__setattr__"))
theorem Cls.get {K:Le}{C:Addr}(c:Cls K C)(f:Str):PySem.W.plainGet K C f=true:=c.pg
def qM (K:Le)(C:Addr)(f:Str):Prop:=PySem.W.findIn K (.ref C) f=some none
theorem qM.taker {K:Le}{C:Addr}{f:Str}(n:qM K C f):PySem.W.takerIn K C f=some none:=by
 unfold PySem.W.takerIn
 rw [show PySem.W.findIn K (.ref C) f=some none from n]
 rfl
structure Meth (K:Le)(C:Addr)(m:Str)(f:Addr):Prop where
 at_:PySem.W.findIn K (.ref C) m=some (some (.ref f))
 fn:PySem.W.isFn K (.ref f)=true
 kp:PySem.W.keepIn K (.ref f)=true
section
variable {X:Cx} {pins:List (Addr×Obj)} {σ:St} {H:Hp} {s:Shared} {a C dx:Addr} {fs:List (Str×V)} {f:Str} {v:V} {A:Around} {E:Value->Shared->Prop}
theorem X1 {b:Bool}{Q:Value->Shared->Prop}(I:Inv X pins σ H s)(e:H a=some (.ins C dx fs))(c:Cls X.K C)(n:qM X.K C f)(l:fs.lookup f=some v)
  (h:∀ u s',Inv X pins σ H s'->RelV v u->Q u s'):wpAny (model X.prog X.w) A (getAttr (.ref a) f b) Q E s:=by
 obtain⟨mA,O,r,_,_,_⟩:=yM I.hok e
 obtain⟨u,hu,ru⟩:=RelO.some_of (v:=v) (o:=mA f) (by rw [← l];exact r f)
 exact get_map I.kIn O (c.get f) c.hd n hu (Y0 ru) (h u _ (I.tok _) ru)
theorem X2 {m:Str}{g:Addr}{pl:Sem Bool}{Q:Value×Lf->Shared->Prop}(I:Inv X pins σ H s)(e:H a=some (.ins C dx fs))(c:Cls X.K C)(k:Meth X.K C m g)(l:fs.lookup m=none)
  (h:Q (.ref g,[.ref a]) s):wpAny (model X.prog X.w) A (getMethod (.ref a) m pl) Q E s:=by
 obtain⟨mA,O,r,_,_,_⟩:=yM I.hok e
 have hn:mA m=none:=RelO.none_of (by rw [← l];exact r m)
 exact zae I.kIn O (c.get m) k.at_ k.fn hn h
theorem X3 {y:V}{u:Value}{Q:Unit->Shared->Prop}(I:Inv X pins σ H s)(e:H a=some (.ins C dx fs))(c:Cls X.K C)(n:qM X.K C f)(hl:fs.length<1000)(ry:RelV y u)
  (h:∀ s',Inv X pins σ (upd H a (.ins C dx (putF f y fs))) s'->Q () s'):wpAny (model X.prog X.w) A (setAttr (.ref a) f u) Q E s:=by
 obtain⟨mA,O,r,wi,_,ho⟩:=yM I.hok e
 have hz:(fs.map (·.1)).length<=sizeLine:=by rw [ug,sizeLine_eq];lia
 refine zcr I.kIn O c.sa c.po n.taker c.hd wi hz fun h' O' sb=>h _ ?_
 have hd:∃ o,h'.get? dx=some o:=let ⟨o,_,_,e',_⟩:=O'.ns;⟨o,e'⟩
 refine I.write (x:=a) (e:=dx) (by rw [e];exact True.intro) (.inr ho) (fun b q hb z=>(sb.2 b hb).trans z) hd ?_
 refine⟨by rw [zP O.ne];exact ho,?_,O.ne,O'.obj,_,O'.ns,fun g=>?_,fun g hg=>?_⟩
 ·have:=Zb f y fs;lia
 ·show RelO ((putF f y fs).lookup g) (if g=f then some u else mA g)
  rw [Za]
  by_cases q:g=f
  ·rw [uA q,uA q];exact ry
  ·rw [uq q,uq q];exact r g
 ·by_cases q:g=f
  ·rw [q];exact(kE f y fs).1
  ·refine(kE f y fs).2 g (wi g fun z=>hg ?_)
   show(if g=f then some u else mA g)=none
   rw [uq q];exact z
theorem Inv.made (I:Inv X pins σ H s):Inv X pins σ (upd (upd H s.heap.objs.size (.own (s.heap.objs.size+1))) (s.heap.objs.size+1) (.ins C s.heap.objs.size []))
  { s with heap:=(s.heap.push PySem.W.emptyDict).push (PySem.W.instObj C s.heap.objs.size) }:=by
 have e1:(s.heap.push PySem.W.emptyDict).get? s.heap.objs.size=some PySem.W.emptyDict:=Heap.get?_push_size s.heap rfl
 have e2:((s.heap.push PySem.W.emptyDict).push (PySem.W.instObj C s.heap.objs.size)).get? (s.heap.objs.size+1)=some (PySem.W.instObj C s.heap.objs.size):=by
  have:=Heap.get?_push_size (s.heap.push PySem.W.emptyDict) (o:=PySem.W.instObj C s.heap.objs.size) rfl
  rwa [Heap.size_push] at this
 have e3:(s.heap.push PySem.W.emptyDict).Ns s.heap.objs.size (fun _=>none):=⟨PySem.W.emptyDict,#[],_,e1,rfl,(fun e he=>absurd he (by simp)),fun _=>rfl⟩
 have I1:=I.laid (a:=s.heap.objs.size) (o:=.own (s.heap.objs.size+1)) (h':=s.heap.push PySem.W.emptyDict) (t':=s.toks) (fun b u q=>Heap.get?_push_of_some _ q) (uf _) ⟨_,e1⟩
 refine I1.laid (a:=s.heap.objs.size+1) (o:=.ins C s.heap.objs.size []) (t':=s.toks) (fun b u q=>Heap.get?_push_of_some _ q) (UI (Heap.size_push _ _)) ?_
 have ne:s.heap.objs.size≠s.heap.objs.size+1:=uX (UL _)
 refine⟨by rw [zP ne,jz],uF _,ne,e2,fun _=>none,(Heap.Ns1.of_empty e3).at fun o q=>Heap.get?_push_of_some _ q,fun _=>True.intro,fun y hy=>absurd rfl hy⟩
theorem zcs {prog:Program}{w:World}{env:Env}{e:Expr}{f:Str}{pos:Pos}{s:Shared}{Q:Value->Shared->Prop}(hb:attributeBase e f env (eval e env)=eval e env)
  (h:wpAny (model prog w) A (eval e env) (fun o s₁=>wpAny (model prog w) A (getAttr o f true) Q E s₁) E s):wpAny (model prog w) A (eval (.Attribute e f pos) env) Q E s:=
 Attribute_any_ h (by rw [arm_eval_Attribute,hb])
end
noncomputable def tFld (K:Le)(ta:TE)(f:Str):TE:=fun σ H Q=>ta σ H fun x H1=>∃ a C dx fs v,x=.ref a/\H1 a=some (.ins C dx fs)/\Cls K C/\qM K C f/\fs.lookup f=some v/\Q v H1
noncomputable def sFld (K:Le)(ta tv:TE)(f:Str):TS:=fun D σ H=>tv σ H fun y H1=>ta σ H1 fun x H2=>∃ a C dx fs,x=.ref a/\H2 a=some (.ins C dx fs)/\Cls K C/\qM K C f/\fs.length<1000 /\
 D.nx σ (upd H2 a (.ins C dx (putF f y fs)))
section
variable {X:Cx} {o e value:Expr} {f:Str} {pos pos' tpos:Pos} {ta tv:TE}
theorem zeO (he:PE X e ta)(hb:attributeBase e f X.env (eval e X.env)=eval e X.env):PE X (.Attribute e f pos) (tFld X.K ta f):=by
 intro pins s σ H Q I h
 refine zcs hb (thn (he pins s σ H _ I h) fun u s1 ⟨x,H1,I1,rx,a,C,dx,fs,v,ex,ea,c,n,l,q⟩=>?_)
 subst ex
 obtain rfl:u=Value.ref a:=rx
 exact X1 I1 ea c n l fun u' s2 I2 ru=>⟨v,H1,I2,ru,q⟩
theorem zeP (ha:PE X o ta)(hv:PE X value tv)(hs:swapsWith value (some (.Attribute o f pos')) pos.line X.env=pure false):PS X (.Assign [.Attribute o f pos'] value pos) (sFld X.K ta tv f):=by
 intro pins s σ H D I h
 refine plainObj_wpAny_Assign_Attribute (thn (hv pins s σ H _ I h) fun u s1 ⟨y,H1,I1,ry,q⟩=>thn (ha pins s1 σ H1 _ I1 q) fun ov s2 ⟨x,H2,I2,rx,a,C,dx,fs,ex,ea,c,n,l,q2⟩=>?_) hs
 subst ex
 obtain rfl:ov=Value.ref a:=rx
 exact X3 I2 ea c n l ry fun s3 I3=>⟨σ,_,I3,q2⟩
end
section
variable {X:Cx} {pins:List (Addr×Obj)} {σ:St} {H:Hp} {s:Shared} {A:Around} {E:Value->Shared->Prop} {Q:Value->Shared->Prop} {c:Value} {b:Bool}
inductive TyOf (K:Le)(H:Hp):V->Value->Prop where
 | non:TyOf K H .non (.type "NoneType")
 | bl (x:Bool):TyOf K H (.bl x) (.type "bool")
 | int (i:Int):TyOf K H (.int i) (.type "int")
 | str (x:Str):TyOf K H (.str x) (.type "str")
 | flt (x:UInt64):TyOf K H (.flt x) (.type "float")
 | lst {a:Addr} {xs:List V} (e:H a=some (.lst xs)):TyOf K H (.ref a) (.type "list")
 | frz {a:Addr} {o:Obj} {xs:List V} (e:H a=some (.frz o (.lst xs))):TyOf K H (.ref a) (.type "list")
 | tup {a:Addr} {xs:List V} (e:H a=some (.tup xs)):TyOf K H (.ref a) (.type "tuple")
 | dK {a:Addr} {kvs:List (Key×V)} (e:H a=some (.dK kvs)):TyOf K H (.ref a) (.type "dict")
 | dT {a:Addr} {kvs:List (List Key×V)} (e:H a=some (.dT kvs)):TyOf K H (.ref a) (.type "dict")
 | ins {a C dx:Addr} {fs:List (Str×V)} (e:H a=some (.ins C dx fs)) (cl:Cls K C) (ha:PySem.W.findIn K (.ref C) "__class__" = some (some (.builtin "object.__class__")))
   (hn:PySem.W.specialIn K (.builtin "object.__class__") "__get__" = some (some (.builtin "getset_descriptor.__get__"))) (htk:PySem.W.takesIn K (.builtin "object.__class__")=some true)
   (hm:PySem.W.mroIn K C (.type "object")=some true):TyOf K H (.ref a) (.ref C)
theorem Je {x:V}{u t:Value}(I:Inv X pins σ H s)(rx:RelV x u)(ty:TyOf X.K H x t)(e:PySem.W.kitOne X.K t c=some b)(h:∀ tk,Q (.bool b) { s with toks:=tk }) :
  wpAny (model X.prog X.w) A (call (.builtin "isinstance") [u,c]) Q E s:=by
 cases ty with
 | non=>cases (show u=Value.none from rx);exact u5 PySem.W.kitx_none I.kIn True.intro e (fun z=>nomatch z) h
 | bl y=>cases (show u=Value.bool y from rx);exact u5 PySem.W.kitx_bool I.kIn True.intro e (fun z=>nomatch z) h
 | int i=>obtain⟨t,q⟩:=(show ∃ t,u=Value.int i t from rx);cases q;exact u5 PySem.W.kitx_int I.kIn True.intro e (fun z=>nomatch z) h
 | str y=>obtain⟨t,q⟩:=(show ∃ t,u=Value.str y t from rx);cases q;exact u5 PySem.W.kitx_str I.kIn True.intro e (fun z=>nomatch z) h
 | flt y=>obtain⟨t,q⟩:=(show ∃ t,u=Value.float y t from rx);cases q;exact u5 PySem.W.kitx_float I.kIn True.intro e (fun z=>nomatch z) h
 | @lst a xs ea=>
  cases (show u=Value.ref a from rx)
  obtain⟨_,_,n,_,h1⟩:=(show zR X.prog X.w H s.heap a (.lst xs) from I.hok a _ ea)
  exact u5 UW I.kIn ⟨_,h1,rfl⟩ e (fun z=>nomatch z) h
 | @frz a ob xs ea=>
  cases (show u=Value.ref a from rx)
  obtain⟨_,_,_,n,_,h1⟩:=(show zR X.prog X.w H s.heap a (.frz ob (.lst xs)) from I.hok a _ ea)
  exact u5 UW I.kIn ⟨_,h1,rfl⟩ e (fun z=>nomatch z) h
 | @tup a xs ea=>
  cases (show u=Value.ref a from rx)
  obtain⟨_,_,_,p⟩:=(show zR X.prog X.w H s.heap a (.tup xs) from I.hok a _ ea)
  obtain⟨o,h1,h2,_⟩:=p
  exact u5 PySem.W.kitx_tuple I.kIn ⟨o,h1,h2⟩ e (fun z=>nomatch z) h
 | @dK a kvs ea=>
  cases (show u=Value.ref a from rx)
  obtain⟨_,_,vs,_,p⟩:=(show zR X.prog X.w H s.heap a (.dK kvs) from I.hok a _ ea)
  obtain⟨o,es,ep,h1,h2,_⟩:=p
  exact u5 UX I.kIn ⟨o,h1,h2.1⟩ e (fun z=>nomatch z) h
 | @dT a kvs ea=>
  cases (show u=Value.ref a from rx)
  obtain⟨_,_,xs,_,o,es,ep,h1,h2,_⟩:=(show zR X.prog X.w H s.heap a (.dT kvs) from I.hok a _ ea)
  exact u5 UX I.kIn ⟨o,h1,h2.1⟩ e (fun z=>nomatch z) h
 | @ins a C dx fs ea cl ha hn htk hm=>
  cases (show u=Value.ref a from rx)
  obtain⟨mA,O,_⟩:=yM I.hok ea
  obtain⟨od,J,_⟩:=O.look
  exact u5 (PySem.W.kitx_own (cl.get _) cl.hd ha hn htk hm) I.kIn J e (fun z=>nomatch z) h
end
structure Room (k:Nat)(A:Around):Prop where
 hd:A.handled=none
 dp:A.depth+3 * k+5<recursionLimit
 un:A.units+16 * k+200<cLine
 gd:A.guards=some []
theorem Room.mono {j k:Nat}{A:Around}(r:Room k A)(h:j<=k):Room j A:=⟨r.hd,by have:=r.dp;lia,by have:=r.un;lia,r.gd⟩
theorem Room.deeper {k:Nat}{A:Around}(r:Room (k+1) A)(env:Env):Room k (A.deeper env):=
 ⟨r.hd,by have:=r.dp;show A.depth+1+3 * k+5<_;lia,by have:=r.un;show A.units+3+16 * k+200<_;lia,r.gd⟩
theorem X5 {A:Around}{C:Addr}{us:Lf}{kw:List (Str×Value)}:(A.under (.builtin "type.__call__" ⟨.ref C::us,kw⟩)).depth=A.depth+1:=by
 first | rfl | simp [Around.under,Code.weight,Code.isCreation,Code.isGuard,Code.isCaller,Code.frames,Code.isFrame,guardIds]
theorem X6 {A:Around}{C:Addr}{us:Lf}{kw:List (Str×Value)}:(A.under (.builtin "type.__call__" ⟨.ref C::us,kw⟩)).units=A.units+1:=by
 first | rfl | simp [Around.under,Code.cUnits,Code.frames,Code.isFrame]
theorem WX {A:Around}{C:Addr}{us:Lf}{kw:List (Str×Value)}:(A.under (.builtin "type.__call__" ⟨.ref C::us,kw⟩)).guards=A.guards:=by
 first | rfl | simp [Around.under,Code.weight,Code.isCreation,Code.isGuard,Code.isCaller,Code.frames,Code.isFrame,guardIds]
theorem Room.make {k:Nat}{A:Around}(r:Room (k+1) A)(C:Addr)(us:Lf)(kw:List (Str×Value)):Room k (A.under (.builtin "type.__call__" ⟨.ref C::us,kw⟩)):=
 ⟨r.hd,by have:=r.dp;rw [X5];lia,by have:=r.un;rw [X6];lia,by rw [WX];exact r.gd⟩
theorem Room.depth {k:Nat}{A:Around}(r:Room k A):A.depth<recursionLimit:=by have:=r.dp;lia
noncomputable def tNil:TA:=fun _ H Q=>Q [] H
noncomputable def zdM (ta:TE)(tr:TA):TA:=fun σ H Q=>ta σ H fun x H1=>tr σ H1 fun xs H2=>Q (x::xs) H2
section
variable {X:Cx} {e:Expr} {es:Lg} {te:TE} {t:TA} {pos:Pos}
theorem kF:PA X [] tNil:=fun _ _ _ _ H Q I h=>Calls.spliced_nil ⟨[],H,I,.nil,h⟩
theorem wm (ha:PE X e te)(hr:PA X es t)(hs:starEach (e::es) X.env=(false,eval e X.env)::starEach es X.env:=by rfl):PA X (e::es) (zdM te t):=by
 intro pos pins s σ H Q I h
 rw [hs]
 show wpAny _ _ (spliced ((false,eval e X.env)::backTo pos (starEach es X.env))) _ _ s
 refine Calls.spliced_cons (thn (ha pins s σ H _ I h) fun u s1 ⟨x,H1,I1,r1,q1⟩=>?_)
 exact thn (hr pos pins s1 σ H1 _ I1 q1) fun us s2 ⟨xs,H2,I2,r2,q2⟩=>⟨x::xs,H2,I2,.cons r1 r2,q2⟩
noncomputable def tTup (t:TA):TE:=fun σ H Q=>t σ H fun xs H1=>xs.length<=sizeLine/\∀ p,H1 p=none->Q (.ref p) (upd H1 p (.tup xs))
noncomputable def tLst (t:TA):TE:=fun σ H Q=>t σ H fun xs H1=>xs.length<=sizeLine/\∀ p,H1 p=none->Q (.ref p) (upd H1 p (.lst xs))
theorem zag {x1}(h:PA X es t):PE X (.Tuple es x1 pos) (tTup t):=by
 intro pins s σ H Q I hq
 refine wpAny_Tuple_spliced (thn (h pos pins s σ H _ I hq) fun us s1 ⟨xs,H1,I1,r,z,q⟩=>⟨by rw [← r.length];exact z,?_⟩)
 have hf:H1 s1.heap.objs.size=none:=I1.hok.fresh (uf _)
 refine⟨.ref s1.heap.objs.size,upd H1 s1.heap.objs.size (.tup xs),I1.laid (t':=s1.toks) (fun b u e=>Heap.get?_push_of_some _ e) (uf _) ?_,rfl,q _ hf⟩
 exact⟨z,us,r,⟨_,Heap.get?_push_size _ rfl,rfl,_,rfl⟩⟩
theorem zeQ (h:PA X es t):PE X (.List es pos) (tLst t):=by
 intro pins s σ H Q I hq
 refine wpAny_List_spliced (thn (h pos pins s σ H _ I hq) fun us s1 ⟨xs,H1,I1,r,z,q⟩=>⟨by rw [← r.length];exact z,?_⟩)
 have hf:H1 s1.heap.objs.size=none:=I1.hok.fresh (uf _)
 refine⟨.ref s1.heap.objs.size,upd H1 s1.heap.objs.size (.lst xs),I1.laid (t':=s1.toks) (fun b u e=>Heap.get?_push_of_some _ e) (uf _) ?_,rfl,q _ hf⟩
 exact⟨z,us,0,r,Heap.get?_push_size _ rfl⟩
end
noncomputable abbrev Sp:=List V->Hp->VK->XK->Prop
noncomputable abbrev CXT:=List Env->Hp->Shared->XK->Value->Shared->Prop
structure Env0 (P:Program)(w:World)(K:Le)(mg:La)(base:Heap)(A:Around)(outer:List Env)(s:Shared)(H:Hp):Prop where
 frames:A.frames=some outer
 mod:Mod K mg base
 bs:∀ b o,base.get? b=some o->s.heap.get? b=some o/\H b=none
 bsz:base.objs.size<=s.heap.objs.size
 funs:s.heap.FunFrames base outer
 frf:∀ b∈frs outer,H b=none
 hok:HOk P w H s.heap
 bare:AllBare s.gens
def CE (outer:List Env)(P:Program)(w:World)(H:Hp)(s:Shared)(Q:VK)(u:Value)(s':Shared):Prop:=
 ∃ v H',s'.os=s.os/\AllBare s'.gens/\Un (frs outer) [] H H' s.heap s'.heap/\HOk P w H' s'.heap/\RelV v u/\Q v H'
def CR (CX:CXT)(outer:List Env)(P:Program)(w:World)(H:Hp)(s:Shared)(Q:VK)(E:XK)(r:Result)(s':Shared):Prop:=
 match r with
 | .ok (.ret u)=>CE outer P w H s Q u s'
 | .ok _=>False
 | .error e=>CX outer H s E e s'
structure FnOk (P:Program)(w:World)(K:Le)(mg:La)(base:Heap)(CX:CXT)(k:Nat)(f:Addr)(fd:FuncData)(ps:Lh)(sp:Sp):Prop where
 len:∀ vs H Q E,sp vs H Q E->vs.length=ps.length
 run:∀ (A:Around) (outer:List Env) (s:Shared) (H:Hp) (args:Args) (us:Lf) (vs:List V) (Q:VK) (E:XK),Room k A->Env0 P w K mg base A outer s H->BindsTo s fd args (ps.zip us)->Vals vs us->sp vs H Q E ->
  codeAny (model P w) A (.call (.ref f) args) (CR CX outer P w H s Q E) s
theorem Env0.make {P:Program}{w:World}{K:Le}{mg:La}{base:Heap}{A:Around}{outer:List Env}{s:Shared}{H:Hp}(e:Env0 P w K mg base A outer s H)(C:Addr)(us:Lf)(kw:List (Str×Value)) :
  Env0 P w K mg base (A.under (.builtin "type.__call__" ⟨.ref C::us,kw⟩)) outer s H:=⟨by first | exact e.frames | (simpa [Around.under,Code.envs,Code.isFrame,pushEnvs] using e.frames),e.mod,e.bs,e.bsz,e.funs,e.frf,e.hok,e.bare⟩
section
variable {X:Cx} {pins:List (Addr×Obj)} {σ:St} {H:Hp} {s s':Shared}
theorem Inv.env0 (I:Inv X pins σ H s):Env0 X.prog X.w X.K X.mg X.base X.A X.stack s H:=
 ⟨I.ok.frames,I.ok.mod,I.bs,uN I.ok.bsz I.sz,I.stack,I.stkFree,I.hok,I.bare⟩
theorem Inv.after {Q:VK}{u:Value}(I:Inv X pins σ H s)(h:CE X.stack X.prog X.w H s Q u s'):EP X pins σ Q u s':=by
 obtain⟨v,H',os,bare,un,hok,r,q⟩:=h
 obtain⟨hh,g,d,t,os'⟩:=s'
 obtain rfl:os' = s.os:=os
 exact⟨v,H',I.call (h':=hh) (g':=g) (d':=d) (t':=t) (ch:=[]) un hok bare (fun b z=>absurd z (by simp)),r,q⟩
end
def Binds (K:Le)(fd:FuncData)(ps:Lh)(ds:Lf):Prop:=
 ∀ (s:Shared) (us:Lf),K.In s.heap->(us++ds).length=ps.length->BindsTo s fd ⟨us,[]⟩ (ps.zip (us++ds))
theorem Binds.all {K:Le}{fd:FuncData}{ps:Lh}(h:∀ us:Lf,us.length=ps.length->bindArgs fd ⟨us,[]⟩=pure (ps.zip us)):Binds K fd ps []:=fun s us _ hl=>by
 rw [uw] at hl ⊢
 exact .of_eq (h us hl)
section
variable {X:Cx} {CX:CXT} {k:Nat} {f C:Addr} {fd:FuncData} {ps:Lh} {sp:Sp} {dvs:List V} {ds:Lf} {E:XK} {x m:Str} {p pos apos:Pos} {e o:Expr} {es:Lg} {ta:TE} {t:TA}
structure Mk (K:Le)(C f:Addr):Prop where
 makes:PySem.W.makesIn K C=true
 init:PySem.W.findIn K (.ref C) "__init__" = some (some (.ref f))
 fn:PySem.W.isFn K (.ref f)=true
 kp:PySem.W.keepIn K (.ref C)=true
end
section
variable {X:Cx} {CX:CXT} {k:Nat} {f C:Addr} {fd:FuncData} {ps ks:Lh} {sp:Sp} {E:XK} {x m:Str} {p pos apos kpos:Pos} {e o:Expr} {es:Lg} {kws:List Keyword} {te ta:TE} {t tk:TA} {nm:Option Str}
variable {g:Lf->Lf->Lf} {gV:List V->List V->List V}
end
structure zi (N P:Lh)(sc:Scope):Prop where
 kind:sc.kind=.function
 co:sc.isCoroutine=false
 gen:sc.isGenerator=false
 nd:N.Nodup
 pre:N.take P.length=P
 par:∀ x∈P,sc.names.lookup x=some .local\/sc.names.lookup x=some .cell
 nofree:∀ y∈sc.names,y.2≠.free
theorem Jf {kindOf:Str->Option NameKind}{x:Str}:∀ {binds:List (Str×Value)} {m:La},(∀ v,(x,v)∉binds)->bindL kindOf binds m x=m x
 | [],_,_=>rfl
 | (n,v)::r,m,h=>by
  unfold bindL
  rw [Jf fun w hw=>h w (uk _ hw)]
  split
  ·have:x≠n:=by rintro rfl;exact h v ui
   simp [this]
  ·rfl
theorem Jg {kindOf:Str->Option NameKind}{x:Str}:∀ {binds:List (Str×Value)} {m:La},(∀ v,(x,v)∉binds)->bindC kindOf binds m x=m x
 | [],_,_=>rfl
 | (n,v)::r,m,h=>by
  unfold bindC
  rw [Jg fun w hw=>h w (uk _ hw)]
  split
  ·rfl
  ·have:x≠n:=by rintro rfl;exact h v ui
   simp [this]
theorem Jh {kindOf:Str->Option NameKind}{x:Str}{v:Value}:∀ {P:Lh} {vs:Lf} {i:Nat} {m:La},P.Nodup->P[i]? = some x->vs[i]? = some v->kindOf x=some .local ->
  bindL kindOf (P.zip vs) m x=some v
 | [],_,_,_,_,h,_,_=>by simp at h
 | _::_,[],_,_,_,_,h,_=>by simp at h
 | p::P,w::vs,0,m,nd,h1,h2,hk=>by
  simp at h1 h2;subst h1;subst h2
  show bindL kindOf ((p,w)::P.zip vs) m p=_
  unfold bindL
  rw [Jf fun v hv=>(Uj.mp nd).1 (UR hv).1,uA hk]
  simp
 | p::P,w::vs,i+1,m,nd,h1,h2,hk=>by
  show bindL kindOf ((p,w)::P.zip vs) m x=_
  unfold bindL
  exact Jh (i:=i) (Uj.mp nd).2 (by simpa using h1) (by simpa using h2) hk
theorem Ji {kindOf:Str->Option NameKind}{x:Str}{v:Value}:∀ {P:Lh} {vs:Lf} {i:Nat} {m:La},P.Nodup->P[i]? = some x->vs[i]? = some v->kindOf x≠some .local ->
  bindC kindOf (P.zip vs) m x=some v
 | [],_,_,_,_,h,_,_=>by simp at h
 | _::_,[],_,_,_,_,h,_=>by simp at h
 | p::P,w::vs,0,m,nd,h1,h2,hk=>by
  simp at h1 h2;subst h1;subst h2
  show bindC kindOf ((p,w)::P.zip vs) m p=_
  unfold bindC
  rw [Jg fun v hv=>(Uj.mp nd).1 (UR hv).1,uq hk]
  simp
 | p::P,w::vs,i+1,m,nd,h1,h2,hk=>by
  show bindC kindOf ((p,w)::P.zip vs) m x=_
  unfold bindC
  exact Ji (i:=i) (Uj.mp nd).2 (by simpa using h1) (by simpa using h2) hk
noncomputable def start (N:Lh)(vs:List V):St:=vs.map some++List.replicate (N.length - vs.length) none
noncomputable def cxOf (CX:CXT)(P:Program)(w:World)(K:Le)(mg:La)(base:Heap)(N:Lh)(qual:Str)(scope:Scope)(f:Addr)(cd:Value)(A:Around)(outer:List Env)(s:Shared)(H:Hp)(E:XK):Cx where
 prog:=P
 w:=w
 K:=K
 mg:=mg
 base:=base
 A:=A.deeper (envOfC qual scope s.heap.objs.size f cd)
 N:=N
 s₀:=s
 H₀:=H
 env:=envOfC qual scope s.heap.objs.size f cd
 outer:=outer
 stack:=envOfC qual scope s.heap.objs.size f cd::outer
 ex:=[]
 calm:=true
 fn:=fun _=>true
 pn:=[]
 xe:=fun e s'=>wpAny (model P w) (A.deeper (envOfC qual scope s.heap.objs.size f cd)) (leaving (envOfC qual scope s.heap.objs.size f cd) e) (fun _ s''=>CX outer H s E e s'') (fun e' s''=>CX outer H s E e' s'') s'
theorem WY {sc:Scope}{n:Nat}{x:Str}(h:sc.names.lookup x=some .cell):∃ c,(cellsFrom n sc.names []).lookup x=some c:=by
 have q:=PySem.W.cellsFrom_some sc.names n [] (.inl h)
 exact gZ.mp q
theorem Y1 {CX:CXT}{P:Program}{w:World}{K:Le}{mg:La}{base:Heap}{N ps:Lh}{qual:Str}{scope:Scope}{f:Addr}{cd:Value}{A:Around}{outer:List Env}{s s1:Shared}{H:Hp}{E:XK}{us:Lf}{vs:List V}
  (S:zi N ps scope) (hd:A.handled=none) (e0:Env0 P w K mg base A outer s H) (hl:vs.length=ps.length) (r:Vals vs us)
  (x:InCallC s s.heap.objs.size (bindL (envOfC qual scope s.heap.objs.size f cd).kindOf (ps.zip us) fun _=>none) (cellsFrom (s.heap.objs.size+1) scope.names []) (bindC (envOfC qual scope s.heap.objs.size f cd).kindOf (ps.zip us) fun _=>none) s1) :
  Inv (cxOf CX P w K mg base N qual scope f cd A outer s H E) [] (start N vs) H s1:=by
 have hpl:ps.length<=N.length:=by have:=congrArg List.length S.pre;rw [Uc] at this;lia
 obtain⟨h1,tk,rfl,hk⟩:=x.done
 have noA:∀ b:Addr,b∉(cxOf CX P w K mg base N qual scope f cd A outer s H E).ex:=fun b z=>absurd (show b∈([]:Ld) from z) (by simp)
 refine⟨⟨e0.mod,S.kind,rfl,rfl,uf _,fun y z c h1 h2=>?_,fun y hy=>?_,fun y c _ h=>?_,fun _=>hd,Around.frames_deeper e0.frames,.inr ⟨rfl,rfl⟩,fun b z=>absurd z (noA b),e0.bs,e0.bsz,fun b _ _=>noA b,fun b z=>absurd z (noA b),e0.funs,e0.frf⟩,
  rfl,e0.bare,Un.kept hk,⟨_,x.toInCall.ns,fun i y v h1 h2 h3=>?_⟩,fun y c h=>⟨_,x.cell y c h⟩,e0.hok.fresh (uf _),fun y c h=>?_,fun p hp=>absurd (show p∈([]:List (Addr×Obj)) from hp) (by simp),e0.hok.kept hk,?_⟩
 ·exact name_of_addr x.apart (u3 h1) (u3 h2)
 ·have hy:scope.names.lookup y=some .cell\/scope.names.lookup y=some .free:=hy
  rcases hy with hy | hy
  ·exact WY hy
  ·exact absurd rfl (S.nofree _ (u3 hy))
 ·exact Nat.le_of_lt (x.above y c (u3 h))
 ·have hi:i<vs.length:=by
   unfold start at h2
   by_cases hi:i<vs.length
   ·exact hi
   ·rw [uL (by simpa using hi)] at h2
    rw [g9] at h2
    split at h2<;>cases h2
  have ha:vs[i]? = some v:=by
   unfold start at h2
   rw [Ui (by simpa using hi),uv] at h2
   cases e:vs[i]? with
   | none=>rw [e] at h2;cases h2
   | some a=>rw [e] at h2;cases h2;rfl
  obtain⟨u,hu,rv⟩:=r.get ha
  have hp:ps[i]? = some y:=by
   rw [← S.pre,List.getElem?_take_of_lt (by lia)];exact h1
  have ndP:ps.Nodup:=by rw [← S.pre];exact S.nd.sublist (List.take_sublist _ _)
  refine⟨u,rv,?_⟩
  rcases S.par y (uH hp) with k | k
  ·exact .inl ⟨k,Jh ndP hp hu k⟩
  ·obtain⟨c,e⟩:=WY (n:=s.heap.objs.size+1) k
   refine .inr ⟨.inl k,c,e,?_⟩
   have q:=x.cell y c e
   rw [Ji ndP hp hu (by show scope.names.lookup y≠_;rw [k];decide)] at q
   exact q
 ·exact e0.hok.fresh (Nat.le_of_lt (x.above y c (u3 h)))
 ·unfold start
  show _=N.length
  rw [ub,ug,Uh]
  lia
theorem zah {CX:CXT}{P:Program}{w:World}{K:Le}{mg:La}{base:Heap}{k:Nat}{f:Addr}{name qual:Str}{params:Arguments}{body:List Stmt}{scope:Scope}{dV kV doc pm cdv ct oc:Value}{an od:Option Addr}
  {osl:Array (Option Value)} {N ps:Lh} {sp:Sp} (lk:K.lookup f=some ⟨oc,od,.func (PySem.W.fnOf name qual params body scope dV kV doc pm an cdv ct),osl⟩) (hcd:PySem.W.codeIn K cdv qual=true) (S:zi N ps scope)
  (len:∀ vs H Q E,sp vs H Q E->vs.length=ps.length)
  (hbody:∀ (A:Around) (outer:List Env) (s:Shared) (H:Hp) (vs:List V) (Q:VK) (E:XK),Room k (A.deeper (envOfC qual scope s.heap.objs.size f cdv))->sp vs H Q E ->
   ∃ t,PSs (cxOf CX P w K mg base N qual scope f cdv A outer s H E) body t/\t { nx:=fun _ H'=>Q .non H',rt:=Q } (start N vs) H) :
  FnOk P w K mg base CX (k+1) f (PySem.W.fnOf name qual params body scope dV kV doc pm an cdv ct) ps sp:=by
 refine⟨len,fun A outer s H args us vs Q E hr e0 hb r hsp=>?_⟩
 have hl:=len _ _ _ _ hsp
 have KX:K.In s.heap:=e0.mod.kin.keeps fun b o e=>(e0.bs b o e).1
 have lim:s.heap.NoLimit:=e0.mod.nolimit.keeps fun b o e=>(e0.bs b o e).1
 have hkind:∀ y∈ps.zip us,scope.names.lookup y.1=some .local\/(scope.names.lookup y.1=some .cell/\((cellsFrom (s.heap.objs.size+1) scope.names []).lookup y.1).isSome=true):=fun⟨n,v⟩ hy=>by
  rcases S.par n (UR hy).1 with q | q
  ·exact .inl q
  ·exact .inr ⟨q,PySem.W.cellsFrom_some _ _ _ (.inl q)⟩
 refine codeAny_call_function hr.depth (KX _ _ lk) rfl S.co S.gen rfl (PySem.W.codeRec_of KX hcd) (hb _ _ _ _ ?_)
 refine wpAny_newFunctionEnv_cells S.kind hkind fun env he s1 x=>?_
 subst he
 refine⟨lim.keeps x.toInCall.keep,codeAny_func ?_⟩
 obtain⟨t,ht,hq⟩:=hbody A outer s H vs Q E (hr.deeper _) hsp
 have I:Inv (cxOf CX P w K mg base N qual scope f cdv A outer s H E) [] (start N vs) H s1:=Y1 S hr.hd e0 hl r x
 refine wpAny_mono (ht [] s1 (start N vs) H _ I hq) (fun fl s' hs=>?_) fun e s' hs=>hs
 have fin:∀ {σ':St} {H':Hp} {v:V} {u:Value},Inv (cxOf CX P w K mg base N qual scope f cdv A outer s H E) [] σ' H' s'->RelV v u->Q v H'->CE outer P w H s Q u s':=
  fun {σ' H' v u} J rv q=>⟨v,H',J.os,J.bare,J.base,J.hok,rv,q⟩
 cases fl with
 | ret u=>
  obtain⟨v,σ',H',J,rv,q⟩:=hs
  exact fin J rv q
 | next=>
  obtain⟨σ',H',J,q⟩:=hs
  exact fin (v:=V.non) (u:=Value.none) J rfl q
 | brk=>
  obtain⟨_,_,_,q⟩:=hs
  exact False.elim q
 | cont=>
  obtain⟨_,_,_,q⟩:=hs
  exact False.elim q
section
variable {X:Cx} {x:Str} {p pos:Pos} {e:Expr} {es:Lg} {t:TA} {id T:String} {r:List V->Hp->VK->Prop}
noncomputable def tCB (r:List V->Hp->VK->Prop)(t:TA):TE:=fun σ H Q=>t σ H fun vs H1=>r vs H1 Q
theorem wC (hc:qF X (.builtin id) r)(hg:Gl X x)(hm:X.mg x=none)(hv:bootBuiltins x=some (.builtin id))(ha:PA X (e::es) t)(hn:x≠"__name__":=by decide) (hdb:(x == ("__debug__":Str))=false:=by decide)
  (he:starEach (e::es) X.env=(false,eval e X.env)::starEach es X.env:=by rfl) (hpl:(backTo pos (starEach es X.env)).any (·.1)=false:=by rfl):PE X (.Call (.Name x p) (e::es) [] pos) (tCB r t):=by
 intro pins s σ H Q I h
 refine wpAny_Call_Name_kw (xa I hg hm hv ?_ hn hdb)
 exact PyProof.Rows.callWith_builtin1 (thn (ha pos pins s σ H _ I h) fun us s1 ⟨vs,H1,I1,r1,q1⟩=>hc pins s1 σ H1 vs us Q I1 r1 q1) he hpl
theorem xn (hc:qF X (.type T) r)(hg:Gl X x)(hm:X.mg x=none)(hv:bootBuiltins x=some (.type T))(ha:PA X (e::es) t)(hn:x≠"__name__":=by decide) (hdb:(x == ("__debug__":Str))=false:=by decide)
  (he:starEach (e::es) X.env=(false,eval e X.env)::starEach es X.env:=by rfl) (hpl:(backTo pos (starEach es X.env)).any (·.1)=false:=by rfl):PE X (.Call (.Name x p) (e::es) [] pos) (tCB r t):=by
 intro pins s σ H Q I h
 refine wpAny_Call_Name_kw (xa I hg hm hv ?_ hn hdb)
 exact PyProof.Rows.callWith_type1 (thn (ha pos pins s σ H _ I h) fun us s1 ⟨vs,H1,I1,r1,q1⟩=>hc pins s1 σ H1 vs us Q I1 r1 q1) he hpl
end
end L2
namespace HT
open PySem PyProof.Rows
section
open PySem.SeqAt
open PySem.AutoSeq1 (wpAny_loadPart')
open PySem.MeetsSeq PySem.MeetsSeq2 PySem.MeetsSeq3
end
section
variable {prog:Program} {w:World} {A:Around} {E:Value->Shared->Prop} {s:Shared}
theorem zct {t b:Addr}{vs ws:Lf}{Q:Value->Shared->Prop}(ht:IsTup s.heap t vs.toArray)(hb:IsTup s.heap b ws.toArray)(hv:vs≠[])
  (h1:ws=[]->Q (.ref t) s) (h2:ws≠[]->Q (.ref s.heap.objs.size) { s with heap:=s.heap.push { cls:=.type "tuple",data:=.seq (vs++ws).toArray } })
  (hsz:vs.length+ws.length<=sizeLine):wpAny (model prog w) A (binaryOp .Add (.ref t) (.ref b)) Q E s:=by
 obtain⟨⟨cls,dd,data,sl⟩,ho,hc,n,hd⟩:=id ht
 obtain⟨⟨cls2,dd2,data2,sl2⟩,ho2,hc2,n2,hd2⟩:=id hb
 simp only at hc hd hc2 hd2
 subst hc hd hc2 hd2
 have e:vs.toArray++ws.toArray=(vs++ws).toArray:=by simp
 by_cases hw:ws=[]
 ·exact concat_meets ⟨_,ho,rfl⟩ ⟨_,ho2,rfl⟩ noFill_tuple_add seq_tuple_add gf U2 (UZ _ _)
   (tuple_addW1 t b vs.toArray ws.toArray n n2 dd dd2 sl sl2 (by simpa using hv) (by simp [hw])) ⟨ho,ho2,h1 hw⟩
 ·refine concat_meets ⟨_,ho,rfl⟩ ⟨_,ho2,rfl⟩ noFill_tuple_add seq_tuple_add gf U2 (UZ _ _)
   (tuple_addW2 t b vs.toArray ws.toArray n n2 dd dd2 sl sl2 (by simpa using hv) (by simpa using hw) (by rw [ue,ue];exact hsz)) ⟨ho,ho2,?_⟩
  rw [e]
  exact h2 hw
noncomputable def sIx (n d:Nat):Option Int->Nat
 | none=>d
 | some v=>if v<0 then(v+(n:Int)).toNat else min v.toNat n
theorem sIx_none (n d:Nat):sIx n d none=d:=rfl
theorem sIx_nat (n d k:Nat):sIx n d (some (k:Int))=min k n:=by
 show(if (k:Int)<0 then((k:Int)+(n:Int)).toNat else min (k:Int).toNat n)=min k n
 rw [uq (by lia),Int.toNat_natCast]
theorem sIx_le (n d:Nat)(hd:d<=n)(o:Option Int):sIx n d o<=n:=by
 cases o with
 | none=>exact hd
 | some v=>
  show(if v<0 then(v+(n:Int)).toNat else min v.toNat n)<=n
  by_cases hv:v<0
  ·rw [uA hv];lia
  ·rw [uq hv];exact Nat.min_le_right _ _
theorem VN (v:Int)(n d:Nat):(if v<0 then max (v+(n:Int)) 0 else min v (n:Int))=((sIx n d (some v):Nat):Int):=by
 show(if v<0 then max (v+(n:Int)) 0 else min v (n:Int))=(((if v<0 then(v+(n:Int)).toNat else min v.toNat n):Nat):Int)
 by_cases hv:v<0
 ·simp only [uA hv];lia
 ·simp only [uq hv];lia
theorem X7 (lo hi:Option Int)(n:Nat):Builtin.Slice.sliceAdjust lo hi 1 (n:Int)=(((sIx n 0 lo:Nat):Int),((sIx n n hi:Nat):Int)):=by
 have h1:¬ ((1:Int)<0):=by lia
 unfold Builtin.Slice.sliceAdjust
 simp only [h1,UP]
 refine Prod.ext ?_ ?_
 ·cases lo with
  | none=>rfl
  | some v=>exact VN v n 0
 ·cases hi with
  | none=>rfl
  | some v=>exact VN v n n
theorem X8 (i j:Nat):Builtin.Slice.slicePlaces (i:Int) (j:Int) 1=j - i:=by
 unfold Builtin.Slice.slicePlaces
 have h1:(1:Int) > 0:=by lia
 simp only [h1,UY,Int.ediv_one]
 split<;>lia
theorem ZZ {v:Value}{o:Option Int}{Q:Option Int->Shared->Prop}(p:IsPart v o)(h:Q o s):wpAny (model prog w) A (Builtin.Slice.slicePartIndex v) Q E s:=by
 cases p with
 | none=>exact slicePart_none h
 | int i t=>exact slicePart_int h
theorem xp {sl:Addr}{vl vu:Value}{lo hi:Option Int}{n:Nat}{Q:Int×Int×Nat->Shared->Prop}(hs:s.heap.IsSliceOf sl vl vu .none)(pl:IsPart vl lo)(pu:IsPart vu hi)
  (h:Q (((sIx n 0 lo:Nat):Int),1,sIx n n hi - sIx n 0 lo) s):wpAny (model prog w) A (Builtin.Slice.sliceApplied (.ref sl) (pure (n:Int))) Q E s:=by
 obtain⟨os,hos,hcs,hds⟩:=id hs
 unfold Builtin.Slice.sliceApplied Builtin.Slice.sliceFields
 refine wpAny_bind (wpAny_bind (wpAny_field hos hds (x:=vl) rfl (wpAny_bind (wpAny_field hos hds (x:=vu) rfl (wpAny_bind (wpAny_field hos hds (x:=.none) rfl (wpAny_pure ?_)))))))
 refine wpAny_bind (slicePart_none ?_)
 show wpAny _ _ (if ((1:Int) == 0)=true then _ else _) _ _ s
 rw [uq (by decide)]
 refine wpAny_bind (ZZ pl (wpAny_bind (ZZ pu (wpAny_bind (wpAny_pure ?_)))))
 show wpAny _ _ (match Builtin.Slice.sliceAdjust lo hi 1 (n:Int) with | (lo,hi)=>pure (lo,(1:Int),Builtin.Slice.slicePlaces lo hi 1)) _ _ s
 rw [X7 lo hi n]
 show wpAny _ _ (pure (((sIx n 0 lo:Nat):Int),(1:Int),Builtin.Slice.slicePlaces ((sIx n 0 lo:Nat):Int) ((sIx n n hi:Nat):Int) 1)) _ _ s
 rw [X8]
 exact wpAny_pure h
theorem zai (xs:Array Value)(i k:Nat):((List.range k).filterMap fun(m:Nat)=>xs[((i:Int)+(m:Int) * 1).toNat]?).toArray=((xs.toList.drop i).take k).toArray:=by
 have e:(fun(m:Nat)=>xs[((i:Int)+(m:Int) * 1).toNat]?)=fun m=>xs[i+m]?:=by
  funext m
  have:((i:Int)+(m:Int) * 1).toNat=i+m:=by lia
  rw [this]
 rw [e]
 have:=pick_run xs i k
 rw [List.filterMap_map] at this
 have e2:((fun x=>xs[x]?) ∘ fun x=>i+x)=fun m=>xs[i+m]?:=rfl
 rw [e2] at this
 rw [this]
theorem yN {t sl:Addr}{items:Array Value}{vl vu:Value}{lo hi:Option Int}{Q:Value->Shared->Prop}(ht:IsTup s.heap t items)(hs:s.heap.IsSliceOf sl vl vu .none)(pl:IsPart vl lo)(pu:IsPart vu hi)
  (hw:¬ (sIx items.size 0 lo=0/\sIx items.size items.size hi=items.size))
  (h:Q (.ref s.heap.objs.size) { s with heap:=s.heap.push { cls:=.type "tuple",data:=.seq ((items.toList.drop (sIx items.size 0 lo)).take (sIx items.size items.size hi - sIx items.size 0 lo)).toArray } })
  (hsz:items.size<=sizeLine):wpAny (model prog w) A (getItem (.ref t) (.ref sl)) Q E s:=by
 have htake:sizeOk (.seq ((items.toList.drop (sIx items.size 0 lo)).take (sIx items.size items.size hi - sIx items.size 0 lo)).toArray):=by
  show((items.toList.drop (sIx items.size 0 lo)).take (sIx items.size items.size hi - sIx items.size 0 lo)).toArray.size<=sizeLine
  rw [ue,Uc,u6,gx]
  lia
 have hj:sIx items.size items.size hi<=items.size:=sIx_le _ _ (uf _) hi
 obtain⟨os,hos,hcs,hds⟩:=id hs
 have hTs:s.TypeIs (.ref sl) "slice":=⟨os,hos,hcs⟩
 unfold getItem
 try with_reducible refine wpAny_holding ?_
 first | refine wpAny_bind (wpAny_pure ?_) | skip
 refine wpAny_bind (wpAny_sequenceKey ht.typeIs (by decide) ?_)
 refine wpAny_bind (wpAny_callSpecial?_slot (name:=Str.ofString "__getitem__") ht.typeIs PyProof.Rows.slot_tuple_getitem
  (wpAny_call_entry PyProof.Rows.slot_tuple_getitem ht.typeIs entry_tuple_getitem ?_ (args_tuple_getitem _ _)))
 show wpAny _ _ (Builtin.Tuple.tupleItemsOf (.ref t) >>= _) _ _ s
 refine wpAny_bind (tupleItemsOf_ ht ?_)
 refine wpAny_bind (wpAny_typeOf hTs ?_)
 rw [uA (by decide)]
 refine wpAny_bind (xp hs pl pu ?_)
 have hno:¬ ((((sIx items.size 0 lo:Nat):Int) == 0&&(1:Int) == 1&&(sIx items.size items.size hi - sIx items.size 0 lo) == items.size)=true):=by
  intro q
  rw [uI,uI] at q
  have q1:((sIx items.size 0 lo:Nat):Int)=0:=eq_of_beq q.1.1
  have q2:sIx items.size items.size hi - sIx items.size 0 lo=items.size:=eq_of_beq q.2
  exact hw ⟨by lia,by lia⟩
 show wpAny _ _ (if (((sIx items.size 0 lo:Nat):Int) == 0&&(1:Int) == 1&&(sIx items.size items.size hi - sIx items.size 0 lo) == items.size)=true then _ else _) _ _ s
 rw [uq hno,zai]
 first
  | exact wpAny_bind (m:=Builtin.Tuple.tupleExact _) (wpAny_newObj_type (wpAny_pure ⟨_,rfl,wpAny_pure h⟩) htake)
  | exact wpAny_bind (m:=Builtin.Tuple.tupleExact _) (wpAny_newObj_type (wpAny_bind (wpAny_pure (wpAny_pure ⟨_,rfl,wpAny_pure h⟩))) htake)
  | exact wpAny_bind (wpAny_bind (m:=Builtin.Tuple.tupleExact _) (wpAny_newObj_type (wpAny_pure (wpAny_pure ⟨_,rfl,wpAny_pure h⟩)) htake))
  | exact wpAny_bind (wpAny_bind (m:=Builtin.Tuple.tupleExact _) (wpAny_newObj_type (wpAny_pure ⟨_,rfl,wpAny_pure h⟩) htake))
end
end HT
namespace L2
open PySem PySem.Spec PyProof.Rows
noncomputable abbrev TO:=St->Hp->(Option Int->Hp->Prop)->Prop
def PO (X:Cx)(e:Option Expr)(t:TO):Prop:=
 ∀ (pins:List (Addr×Obj)) (s:Shared) (σ:St) (H:Hp) (Q:Option Int->Hp->Prop),Inv X pins σ H s->t σ H Q ->
  wpAny (model X.prog X.w) X.A (evalPart e X.env) (fun u s'=>∃ o H',Inv X pins σ H' s'/\IsPart u o/\Q o H') X.xe s
noncomputable def zg6 (t:TE):TO:=fun σ H Q=>t σ H fun x H1=>∃ i,x=.int i/\Q (some i) H1
section
variable {X:Cx} {e:Expr} {te:TE} {lo hi:Option Expr} {tl th:TO} {pos p2:Pos}
theorem zcu (h:PE X e te):PO X (some e) (zg6 te):=by
 intro pins s σ H Q I hw
 rw [evalPart_some]
 refine thn (h pins s σ H _ I hw) fun u s1 ⟨x,H1,I1,r1,q1⟩=>?_
 obtain⟨i,rfl,q⟩:=q1
 obtain⟨t,rfl⟩:=r1
 exact⟨some i,H1,I1,.int i t,q⟩
def SlR (X:Cx)(r:V->Option Int->Option Int->Hp->VK->Prop):Prop:=
 ∀ (pins:List (Addr×Obj)) (s:Shared) (σ:St) (H:Hp) (x:V) (v vl vu:Value) (lo hi:Option Int) (sl:Addr) (Q:VK),Inv X pins σ H s->RelV x v->s.heap.IsSliceOf sl vl vu .none->IsPart vl lo->IsPart vu hi->r x lo hi H Q ->
  ∃ T id,typeLookup (.type T) "__getitem__" = pure (some (.builtin id))/\s.TypeIs v T/\wpAny (model X.prog X.w) X.A (getItem v (.ref sl)) (EP X pins σ Q) X.xe s
noncomputable def cutV (xs:List V)(lo hi:Option Int):List V:=(xs.drop (HT.sIx xs.length 0 lo)).take (HT.sIx xs.length xs.length hi - HT.sIx xs.length 0 lo)
theorem Zc (xs:List V)(lo hi:Option Int):(cutV xs lo hi).length<=xs.length:=by
 unfold cutV
 rw [Uc,u6]
 lia
noncomputable def rSlT (K:Le):V->Option Int->Option Int->Hp->VK->Prop:=fun x lo hi H Q=>∃ a xs,x=.ref a/\SqT K H a xs /\
 ¬ (HT.sIx xs.length 0 lo=0/\HT.sIx xs.length xs.length hi=xs.length)/\∀ p,H p=none->Q (.ref p) (upd H p (.tup (cutV xs lo hi)))
theorem zeR:SlR X (rSlT X.K):=by
 intro pins s σ H x v vl vu lo hi sl Q I rx hs pl pu h
 obtain⟨a,xs,rfl,hx,hw,q⟩:=h
 cases rx
 obtain⟨its,r,ht,hz⟩:=I.tuple hx
 have hlen:its.toArray.size=xs.length:=by rw [ue];exact r.length.symm
 refine⟨"tuple",_,PyProof.Rows.slot_tuple_getitem.lookup,ht.typeIs,?_⟩
 refine HT.yN ht hs pl pu (by rw [hlen];exact hw) ?_ (by rw [hlen];exact hz)
 rw [hlen]
 refine⟨.ref s.heap.objs.size,_,I.laid (t':=s.toks) (o:=.tup (cutV xs lo hi)) (fun b ob q=>Heap.get?_push_of_some _ q) (uf _) ?_,rfl,q _ (I.hok.fresh (uf _))⟩
 exact⟨uN (Zc xs lo hi) hz,_,(r.drop (HT.sIx xs.length 0 lo)).take (HT.sIx xs.length xs.length hi - HT.sIx xs.length 0 lo),IsTup.new _ _⟩
noncomputable def zg7 (K:Le):R2:=fun x y H Q=>∃ a b xs ys,x=.ref a/\y=.ref b/\SqT K H a xs/\SqT K H b ys/\xs≠[]/\xs.length+ys.length<=sizeLine /\
 (ys=[]->Q (.ref a) H)/\(ys≠[]->∀ p,H p=none->Q (.ref p) (upd H p (.tup (xs++ys))))
theorem Vals.nil_iff {xs:List V}{us:Lf}(r:Vals xs us):us=[]↔xs=[]:=by
 cases r with
 | nil=>simp
 | cons _ _=>simp
theorem zcv:OpR X (binaryOp .Add) (zg7 X.K):=by
 intro pins s σ H x y v u Q I rx ry h
 obtain⟨a,b,xs,ys,rfl,rfl,ha,hb,hx,hz,q1,q2⟩:=h
 cases rx
 cases ry
 obtain⟨its,r1,p1,_⟩:=I.tuple ha
 obtain⟨its2,r2,p2,_⟩:=I.tuple hb
 refine HT.zct p1 p2 (fun z=>hx (r1.nil_iff.mp z)) (fun z=>⟨.ref a,H,I,rfl,q1 (r2.nil_iff.mp z)⟩) (fun z=>?_) (by rw [← r1.length,← r2.length];exact hz)
 refine⟨.ref s.heap.objs.size,_,I.laid (t':=s.toks) (o:=.tup (xs++ys)) (fun b ob q=>Heap.get?_push_of_some _ q) (uf _) ?_,rfl,q2 (fun w=>z (r2.nil_iff.mpr w)) _ (I.hok.fresh (uf _))⟩
 exact⟨by rw [ub];exact hz,_,r1.append r2,IsTup.new _ _⟩
end
noncomputable def ixN (n:Nat)(i:Int):Option Nat:=if 0<=i then(if i<n then some i.toNat else none) else if -(n:Int)<=i then some (i+n).toNat else none
noncomputable def atI {α:Type}(xs:List α)(i:Int):Option α:=(ixN xs.length i).bind fun j=>xs[j]?
theorem JM {n:Nat}{i:Int}{j:Nat}(h:ixN n i=some j):seqIndex? i n=some j/\j<n/\-(n:Int)<=i/\i<n:=by
 unfold ixN at h
 by_cases h0:0<=i
 ·rw [uA h0] at h
  by_cases h1:i<n
  ·rw [uA h1] at h
   have e:i.toNat=j:=uG h
   exact⟨by rw [seqIndex_of h0 h1,e],by lia,by lia,h1⟩
  ·rw [uq h1] at h;cases h
 ·rw [uq h0] at h
  by_cases h1:-(n:Int)<=i
  ·rw [uA h1] at h
   have e:(i+n).toNat=j:=uG h
   exact⟨by rw [seqIndex_neg (by lia) h1,e],by lia,h1,by lia⟩
  ·rw [uq h1] at h;cases h
theorem JN {α:Type}{xs:List α}{i:Int}{v:α}(h:atI xs i=some v):∃ j,seqIndex? i xs.length=some j/\xs[j]? = some v/\j<xs.length/\-(xs.length:Int)<=i/\i<xs.length:=by
 unfold atI at h
 cases e:ixN xs.length i with
 | none=>rw [e] at h;cases h
 | some j=>
  rw [e] at h
  obtain⟨h1,h2,h3,h4⟩:=JM e
  exact⟨j,h1,h,h2,h3,h4⟩
def VO (b:Expr):Prop:=∀ o i,subscripted b false o i=operate [o,i] (getItem o i)
def IxR (X:Cx)(r:R2):Prop:=
 ∀ (value slice:Expr) (pins:List (Addr×Obj)) (s:Shared) (σ:St) (H:Hp) (x y:V) (v u:Value) (Q:VK),Inv X pins σ H s->RelV x v->RelV y u->r x y H Q ->
  subscripted slice false v u=operate [v,u] (getItem v u)->wpAny (model X.prog X.w) X.A (subscriptTail value slice v u) (EP X pins σ Q) X.xe s
def MtR (X:Cx)(id:String)(r:V->List V->Hp->VK->Prop):Prop:=
 ∀ (pins:List (Addr×Obj)) (s:Shared) (σ:St) (H:Hp) (x:V) (xs:List V) (v:Value) (us:Lf) (Q:VK),Inv X pins σ H s->RelV x v->Vals xs us->r x xs H Q ->
  wpAny (model X.prog X.w) X.A (call (.builtin id) (v::us)) (EP X pins σ Q) X.xe s
section
variable {X:Cx} {a b:Expr} {ta tb:TE} {pos:Pos}
theorem zg8 {r:R2}(hr:IxR X r)(ha:PE X a ta)(hb:PE X b tb)(hs:VO b):PE X (.Subscript a b pos) (tOp r ta tb):=by
 intro pins s σ H Q I h
 exact Subscript_ (binT ha hb I h fun v u s2 x y H2 I2 rx ry q=>hr a b pins s2 σ H2 x y v u Q I2 rx ry q (hs _ _))
noncomputable def rIxL (K:Le):R2:=fun x y H Q=>∃ p xs i v,x=.ref p/\y=.int i/\SqL K H p xs/\atI xs i=some v/\Q v H
noncomputable def rIxT (K:Le):R2:=fun x y H Q=>∃ p xs i v,x=.ref p/\y=.int i/\SqT K H p xs/\atI xs i=some v/\Q v H
noncomputable def rIxS:R2:=fun x y H Q=>∃ z i c,x=.str z/\y=.int i/\z.length<=sizeLine/\atI z.cps.toList i=some c/\Q (.str ⟨#[c]⟩) H
theorem zcw:IxR X (rIxL X.K):=by
 intro value slice pins s σ H x y v u Q I rx ry h hs
 obtain⟨p,xs,i,z,rfl,rfl,hq,he,q⟩:=h
 cases rx
 obtain⟨t,rfl⟩:=ry
 obtain⟨its,r,pl,hz⟩:=I.list hq
 obtain⟨j,h1,h2,h3,h4,h5⟩:=JN he
 obtain⟨w,ew,rw'⟩:=r.get h2
 have hl:=r.length
 have hn:=yl
 have fin:EP X pins σ Q w s:=⟨z,H,I,rw',q⟩
 by_cases h0:0<=i
 ·have hj:i.toNat=j:=by
   rw [seqIndex_of h0 h5] at h1
   exact uG h1
  exact item_listR pl.isList h0 (by lia) (by rw [hj];simpa using ew) fin hs
 ·have hj:(i+(its.toArray.size:Int)).toNat=j:=by
   rw [seqIndex_neg (by lia) h4] at h1
   rw [ue,← hl]
   exact uG h1
  exact subscriptTail_builtinR (x:=w) pl.isList.typeIs slot_list_getitem.lookup
   (wpAny_getItem_list_neg (Q:=fun r s'=>r=w/\EP X pins σ Q r s') pl.isList (by lia) (by rw [ue]<;>lia) (by lia) (by rw [hj];simpa using ew) ⟨rfl,fin⟩) hs
theorem zeS:IxR X (rIxT X.K):=by
 intro value slice pins s σ H x y v u Q I rx ry h hs
 obtain⟨p,xs,i,z,rfl,rfl,hq,he,q⟩:=h
 cases rx
 obtain⟨t,rfl⟩:=ry
 obtain⟨its,r,pl,hz⟩:=I.tuple hq
 obtain⟨j,h1,h2,h3,h4,h5⟩:=JN he
 obtain⟨w,ew,rw'⟩:=r.get h2
 have hl:=r.length
 have hn:=yl
 have fin:EP X pins σ Q w s:=⟨z,H,I,rw',q⟩
 exact subscriptTail_builtinR (x:=w) pl.typeIs slot_tuple_getitem.lookup
  (getItem_tuple (j:=j) (Q:=fun r s'=>r=w/\EP X pins σ Q r s') pl (by lia) (by lia) (by rw [ue,← hl];exact h1) (by simpa using ew) ⟨rfl,fin⟩) hs
theorem zeT:IxR X rIxS:=by
 intro value slice pins s σ H x y v u Q I rx ry h hs
 obtain⟨z,i,c,rfl,rfl,hz,he,q⟩:=h
 obtain⟨t,rfl⟩:=rx
 obtain⟨t',rfl⟩:=ry
 obtain⟨j,h1,h2,h3,h4,h5⟩:=JN he
 have hl:z.cps.toList.length=z.length:=by simp [Str.length]
 rw [hl] at h1 h4 h5
 have hn:=yl
 exact tail_any (typeIs_str s z t) slot_str_getitem.lookup (getItem_str (c:=c) (by
  have e1:decide (i < -(2 ^ 63:Int))=false:=uo (by lia)
  have e2:decide (i ≥ 2 ^ 63)=false:=uo (by lia)
  rw [e1,e2,Bool.or_false]) (by rw [h1];simpa using h2) ⟨.str ⟨#[c]⟩,H,I.tok _,⟨_,rfl⟩,q⟩) hs
theorem X9 (its:Lf)(n j:Nat)(u:Value):Obj.mapSeq (·.setIfInBounds j u) { cls:=.type "list",data:=.seq its.toArray n }={ cls:=.type "list",data:=.seq (its.set j u).toArray n }:=by
 simp [Obj.mapSeq]
theorem Inv.lst {pins:List (Addr×Obj)}{σ:St}{H:Hp}{s:Shared}{p:Addr}{xs:List V}(I:Inv X pins σ H s)(h:H p=some (.lst xs)) :
  ∃ (its:Lf) (n:Nat),Vals xs its/\s.heap.get? p=some { cls:=.type "list",data:=.seq its.toArray n }/\xs.length<=sizeLine:=by
 obtain⟨z,its,n,r,e⟩:=I.hok p _ h
 exact⟨its,n,r,e,z⟩
theorem Inv.lstUpd {pins:List (Addr×Obj)}{σ:St}{H:Hp}{s:Shared}{p:Addr}{xs ys:List V}{its its':Lf}{n n':Nat}{f:Obj->Obj}(I:Inv X pins σ H s)(h:H p=some (.lst xs))
  (ho:s.heap.get? p=some { cls:=.type "list",data:=.seq its.toArray n }) (hf:f { cls:=.type "list",data:=.seq its.toArray n }={ cls:=.type "list",data:=.seq its'.toArray n' }) (r:Vals ys its') (hz:ys.length<=sizeLine) (t:Nat) :
  Inv X pins σ (upd H p (.lst ys)) { s with heap:=s.heap.update p f,toks:=t }:=by
 have e:(s.heap.update p f).get? p=some { cls:=.type "list",data:=.seq its'.toArray n' }:=by
  rw [Heap.get?_update_self f ho (by rw [hf]<;>rfl),hf]
 refine I.write (x:=p) (e:=p) (by rw [h];trivial) (.inl rfl) (fun b u hb q=>(Heap.get?_update_other _ _ (Ne.symm hb)).trans q) ⟨_,e⟩ ?_
 exact⟨hz,its',n',r,e⟩
noncomputable def zdN:V->V->V->Hp->(Hp->Prop)->Prop:=fun o i v H Q=>∃ p xs k j,o=.ref p/\i=.int k/\H p=some (.lst xs)/\ixN xs.length k=some j/\Q (upd H p (.lst (xs.set j v)))
theorem set_list:PSet X zdN:=by
 intro pins s σ H o i v ov iv u Q I ro ri rv h
 obtain⟨p,xs,k,j,rfl,rfl,hp,hj,q⟩:=h
 cases ro
 obtain⟨t,rfl⟩:=ri
 obtain⟨its,n,r,ho,hz⟩:=I.lst hp
 obtain⟨h1,h2,h3,h4⟩:=JM hj
 have hl:=r.length
 have hn:=yl
 have I':Inv X pins σ (upd H p (.lst (xs.set j v))) { s with heap:=s.heap.update p (Obj.mapSeq (·.setIfInBounds j u)) }:=
  I.lstUpd hp ho (X9 its n j u) (r.set rv j) (by rw [List.length_set];exact hz) s.toks
 by_cases h0:0<=k
 ·have hk:k.toNat=j:=by
   rw [seqIndex_of h0 h4] at h1
   exact uG h1
  exact PySem.W.ki_setAt ho h0 (by lia) (by rw [ue,← hl];exact h4) (by rw [hk];exact⟨_,I',q⟩)
 ·have hk:(k+(its.toArray.size:Int)).toNat=j:=by
   rw [seqIndex_neg (by lia) h3] at h1
   rw [ue,← hl]
   exact uG h1
  exact PySem.W.ki_setBack ho (by lia) (by rw [ue,← hl];exact h3) (by lia) (by rw [hk];exact⟨_,I',q⟩)
theorem JO (lo hi:Option Int)(n:Nat):(sliceBounds lo hi none n).1=((HT.sIx n 0 lo:Nat):Int)/\(sliceBounds lo hi none n).2.1=((HT.sIx n n hi:Nat):Int)/\(sliceBounds lo hi none n).2.2=1:=by
 refine⟨?_,?_,rfl⟩
 ·cases lo with
  | none=>simp [sliceBounds,HT.sIx]
  | some i=>
   simp only [sliceBounds,HT.sIx,U3,show(1:Int) > 0 by decide,UY]
   by_cases h:i<0
   ·simp only [h,UY]<;>lia
   ·simp only [h,UP]<;>lia
 ·cases hi with
  | none=>simp [sliceBounds,HT.sIx]
  | some i=>
   simp only [sliceBounds,HT.sIx,U3,show(1:Int) > 0 by decide,UY]
   by_cases h:i<0
   ·simp only [h,UY]<;>lia
   ·simp only [h,UP]<;>lia
theorem QT (its:Lf)(lo hi:Option Int):slicePick its.toArray lo hi none=((its.drop (HT.sIx its.length 0 lo)).take (HT.sIx its.length its.length hi - HT.sIx its.length 0 lo)).toArray:=by
 obtain⟨h1,h2,h3⟩:=JO lo hi its.toArray.size
 unfold slicePick
 rw [h1,h2,h3]
 simp only [sliceRange_one,pick_run,ue]<;>rfl
noncomputable def rSlL (K:Le):V->Option Int->Option Int->Hp->VK->Prop:=fun x lo hi H Q=>∃ a xs,x=.ref a/\SqL K H a xs/\∀ p,H p=none->Q (.ref p) (upd H p (.lst (cutV xs lo hi)))
theorem zcx:SlR X (rSlL X.K):=by
 intro pins s σ H x v vl vu lo hi sl Q I rx hs pl pu h
 obtain⟨a,xs,rfl,hx,q⟩:=h
 cases rx
 obtain⟨its,r,ht,hz⟩:=I.list hx
 have hlen:=r.length
 refine⟨"list",_,slot_list_getitem.lookup,ht.isList.typeIs,?_⟩
 refine wpAny_getItem_list_slice ht.isList hs pl pu .none (by simp) ?_ (by rw [ue]<;>lia)
 rw [QT,← hlen]
 refine⟨.ref s.heap.objs.size,_,I.laid (t':=s.toks) (o:=.lst (cutV xs lo hi)) (fun b ob q=>Heap.get?_push_of_some _ q) (uf _) ?_,rfl,q _ (I.hok.fresh (uf _))⟩
 exact⟨uN (Zc xs lo hi) hz,_,0,(r.drop (HT.sIx xs.length 0 lo)).take (HT.sIx xs.length xs.length hi - HT.sIx xs.length 0 lo),Heap.get?_push_size _ rfl⟩
noncomputable def zF:V->Bool
 | .non=>true
 | .bl _=>true
 | .int _=>true
 | .str _=>true
 | _=>false
noncomputable def eqV:V->V->Bool
 | .non,.non=>true
 | .bl a,.bl b=>a == b
 | .bl a,.int b=>(if a then 1 else 0) == b
 | .int a,.bl b=>a == (if b then 1 else 0)
 | .int a,.int b=>a == b
 | .str a,.str b=>a == b
 | _,_=>false
theorem zaj {A:Around}{s:Shared}{y x:V}{u v:Value}(ry:RelV y u)(rx:RelV x v)(fy:zF y=true)(fx:zF x=true):SeqAt.EqAt A s u v (eqV y x):=by
 cases y with
 | non=>
  cases ry
  cases x with
  | non=>cases rx;exact SeqAt.EqAt.same _
  | bl b=>cases rx;exact SeqAt.EqAt.none_bool b
  | int b=>obtain⟨t,rfl⟩:=rx;exact SeqAt.EqAt.none_int b t
  | str b=>obtain⟨t,rfl⟩:=rx;exact SeqAt.EqAt.none_str b t
  | _=>exact absurd (show false=true from fx) ux
 | bl a=>
  cases ry
  cases x with
  | non=>cases rx;exact SeqAt.EqAt.bool_none a
  | bl b=>cases rx;exact SeqAt.EqAt.bool_bool a b
  | int b=>obtain⟨t,rfl⟩:=rx;exact SeqAt.EqAt.bool_int a b t
  | str b=>obtain⟨t,rfl⟩:=rx;exact SeqAt.EqAt.bool_str a b t
  | _=>exact absurd (show false=true from fx) ux
 | int a=>
  obtain⟨t',rfl⟩:=ry
  cases x with
  | non=>cases rx;exact SeqAt.EqAt.int_none a t'
  | bl b=>cases rx;exact SeqAt.EqAt.int_bool a t' b
  | int b=>obtain⟨t,rfl⟩:=rx;exact SeqAt.EqAt.int_int a t' b t
  | str b=>obtain⟨t,rfl⟩:=rx;exact SeqAt.EqAt.int_str a t' b t
  | _=>exact absurd (show false=true from fx) ux
 | str a=>
  obtain⟨t',rfl⟩:=ry
  cases x with
  | non=>cases rx;exact SeqAt.EqAt.str_none a t'
  | bl b=>cases rx;exact SeqAt.EqAt.str_bool a t' b
  | int b=>obtain⟨t,rfl⟩:=rx;exact SeqAt.EqAt.str_int a t' b t
  | str b=>obtain⟨t,rfl⟩:=rx;exact SeqAt.EqAt.str_str a t' b t
  | _=>exact absurd (show false=true from fx) ux
 | _=>exact absurd (show false=true from fy) ux
noncomputable def eqU (x:V)(u:Value):Bool:=match u with
 | .none=>eqV .non x
 | .bool b=>eqV (.bl b) x
 | .int i _=>eqV (.int i) x
 | .str z _=>eqV (.str z) x
 | _=>false
theorem zak {x y:V}{u:Value}(r:RelV y u)(f:zF y=true):eqU x u=eqV y x:=by
 cases y with
 | non=>cases r;rfl
 | bl b=>cases r;rfl
 | int i=>obtain⟨t,rfl⟩:=r;rfl
 | str z=>obtain⟨t,rfl⟩:=r;rfl
 | _=>exact absurd (show false=true from f) ux
theorem yO {x:V}:∀ {xs:List V} {us:Lf},Vals xs us->xs.all zF=true->us.any (eqU x)=xs.any fun y=>eqV y x
 | _,_,.nil,_=>rfl
 | y::xs,u::us,.cons r t,f=>by
  rw [Uv,uI] at f
  rw [Um,Um,zak r f.1,yO t f.2]
theorem vf {A:Around}{s:Shared}{x:V}{v:Value}(rx:RelV x v)(fx:zF x=true):∀ {xs:List V} {us:Lf},Vals xs us->xs.all zF=true->∀ u∈us,SeqAt.EqAt A s u v (eqU x u)
 | _,_,.nil,_=>fun u hu=>by cases hu
 | y::xs,u::us,.cons r t,f=>fun u' hu=>by
  rw [Uv,uI] at f
  rcases uh.mp hu with rfl | hu
  ·rw [zak r f.1];exact zaj r rx f.1 fx
  ·exact vf rx fx t f.2 u' hu
noncomputable def inV (x:V)(xs:List V):Bool:=xs.any fun y=>eqV y x
noncomputable def rIn (K:Le)(neg:Bool):R2:=fun x y H Q=>∃ p xs,y=.ref p/\(SqL K H p xs\/SqT K H p xs)/\zF x=true/\xs.all zF=true/\Q (.bl (if neg then !inV x xs else inV x xs)) H
theorem Y2:OpR X (compareOp .In) (rIn X.K false):=by
 intro pins s σ H x y v u Q I rx ry h
 obtain⟨p,xs,rfl,hq,fx,fs,q⟩:=h
 cases ry
 rcases hq with hq | hq
 ·obtain⟨its,r,pl,hz⟩:=I.list hq
  refine SeqAt.in_listAt (eqU x) pl.isList (fun w hw=>vf rx fx r fs w (by simpa using hw)) ⟨.bl _,H,I,rfl,?_⟩
  rw [show its.toArray.any (eqU x)=its.any (eqU x) by simp,yO r fs]
  exact q
 ·obtain⟨its,r,pl,hz⟩:=I.tuple hq
  refine SeqAt.in_tupleAt (eqU x) pl (fun w hw=>vf rx fx r fs w (by simpa using hw)) ⟨.bl _,H,I,rfl,?_⟩
  rw [show its.toArray.any (eqU x)=its.any (eqU x) by simp,yO r fs]
  exact q
theorem JP:OpR X (compareOp .NotIn) (rIn X.K true):=by
 intro pins s σ H x y v u Q I rx ry h
 obtain⟨p,xs,rfl,hq,fx,fs,q⟩:=h
 cases ry
 rcases hq with hq | hq
 ·obtain⟨its,r,pl,hz⟩:=I.list hq
  refine SeqAt.notIn_listAt (eqU x) pl.isList (fun w hw=>vf rx fx r fs w (by simpa using hw)) ⟨.bl _,H,I,rfl,?_⟩
  rw [show its.toArray.any (eqU x)=its.any (eqU x) by simp,yO r fs]
  exact q
 ·obtain⟨its,r,pl,hz⟩:=I.tuple hq
  refine SeqAt.notIn_tupleAt (eqU x) pl (fun w hw=>vf rx fx r fs w (by simpa using hw)) ⟨.bl _,H,I,rfl,?_⟩
  rw [show its.toArray.any (eqU x)=its.any (eqU x) by simp,yO r fs]
  exact q
theorem JQ:qF X (.builtin "len") (fun xs H Q=>∃ p ys,xs=[.ref p]/\(SqL X.K H p ys\/SqT X.K H p ys)/\Q (.int ys.length) H):=by
 intro pins s σ H xs us Q I r h
 obtain⟨p,ys,rfl,hq,q⟩:=h
 obtain⟨u,rfl,rx⟩:=vals1 r
 cases rx
 have hn:=yl
 rcases hq with hq | hq
 ·obtain⟨its,r',pl,hz⟩:=I.list hq
  have hlen:=r'.length
  exact Calls.call_len_list pl.isList (by simp only [ue]<;>lia) ⟨.int ys.length,H,I.tok _,⟨s.toks+1,by rw [ue,hlen]⟩,q⟩
 ·obtain⟨its,r',pl,hz⟩:=I.tuple hq
  have hlen:=r'.length
  exact len_tuple pl (by simp only [ue]<;>lia) ⟨.int ys.length,H,I.tok _,⟨s.toks+1,by rw [ue,hlen]⟩,q⟩
theorem JR:qF X (.builtin "len") (fun xs H Q=>∃ z,xs=[.str z]/\z.length<=sizeLine/\Q (.int z.length) H):=by
 intro pins s σ H xs us Q I r h
 obtain⟨z,rfl,hz,q⟩:=h
 obtain⟨u,rfl,t,rfl⟩:=vals1 r
 have hn:=yl
 exact len_str (by lia) ⟨.int z.length,H,I.tok _,⟨_,rfl⟩,q⟩
theorem JS:qF X (.type "list") (fun xs H Q=>∃ p ys,xs=[.ref p]/\(SqL X.K H p ys\/SqT X.K H p ys)/\∀ l,H l=none->Q (.ref l) (upd H l (.lst ys))):=by
 intro pins s σ H xs us Q I r h
 obtain⟨p,ys,rfl,hq,q⟩:=h
 obtain⟨u,rfl,rx⟩:=vals1 r
 cases rx
 have fin:∀ (its:Lf),Vals ys its->ys.length<=sizeLine->∀ (h':Heap) (c':Nat),(∀ b o',s.heap.get? b=some o'->h'.get? b=some o') ->
   h'.get? s.heap.objs.size=some { cls:=.type "list",dict:=none,data:=.seq its.toArray c',slots:=#[] }->EP X pins σ Q (.ref s.heap.objs.size) { s with heap:=h' }:=fun its r' hz h' c' kp e=>
  ⟨.ref s.heap.objs.size,_,I.laid (t':=s.toks) kp (uf _) (show zR X.prog X.w _ h' _ (.lst ys) from⟨hz,its,c',r',e⟩),rfl,q _ (I.hok.fresh (uf _))⟩
 rcases hq with hq | hq
 ·obtain⟨its,r',pl,hz⟩:=I.list hq
  have hlen:=r'.length
  obtain⟨o,ho,hc,n,hd⟩:=pl.isList
  exact call_list_seq p (.inl rfl) ho hc hd (fun h' c' kp e=>fin its r' hz h' c' kp e) (by simp only [ue]<;>lia)
 ·obtain⟨its,r',pl,hz⟩:=I.tuple hq
  have hlen:=r'.length
  obtain⟨o,ho,hc,n,hd⟩:=pl
  exact call_list_seq p (.inr rfl) ho hc hd (fun h' c' kp e=>fin its r' hz h' c' kp e) (by simp only [ue]<;>lia)
theorem yb:qF X (.type "tuple") (fun xs H Q=>∃ p ys,xs=[.ref p]/\((SqL X.K H p ys/\∀ l,H l=none->Q (.ref l) (upd H l (.tup ys)))\/(SqT X.K H p ys/\Q (.ref p) H))):=by
 intro pins s σ H xs us Q I r h
 obtain⟨p,ys,rfl,h⟩:=h
 obtain⟨u,rfl,rx⟩:=vals1 r
 cases rx
 rcases h with⟨hq,q⟩ | ⟨hq,q⟩
 ·obtain⟨its,r',pl,hz⟩:=I.list hq
  have hlen:=r'.length
  refine call_tuple_list pl.isList (fun h' kp=>?_) (by simp only [ue]<;>lia)
  have I1:Inv X pins σ H { s with heap:=h' }:=I.kept (t':=s.toks) kp
  have I2:Inv X pins σ (upd H h'.objs.size (.tup ys)) { s with heap:=h'.push { cls:=.type "tuple",data:=.seq its.toArray } }:=
   I1.laid (t':=s.toks) (fun b o e=>Heap.get?_push_of_some _ e) (uf _) (show zR X.prog X.w _ _ _ (.tup ys) from⟨hz,its,r',IsTup.new _ _⟩)
  exact⟨.ref h'.objs.size,_,I2,rfl,q _ (I1.hok.fresh (uf _))⟩
 ·obtain⟨its,r',pl,hz⟩:=I.tuple hq
  exact call_tuple_same pl ⟨.ref p,H,I,rfl,q⟩
def tyV (K:Le)(T:String)(x:V)(H:Hp):Prop:=match x with
 | .str _=>T="str"
 | .int _=>T="int"
 | .ref p=>(T="list"/\∃ xs,SqL K H p xs)\/(T="tuple"/\∃ o,K.lookup p=some o/\o.cls=.type "tuple"/\o.dict=none) \/
   (T="dict"/\((∃ kvs,H p=some (.dK kvs))\/∃ kvs,H p=some (.dT kvs)))\/(T="set"/\∃ S n,H p=some (.set S n))
 | _=>False
theorem zal {pins:List (Addr×Obj)}{σ:St}{H:Hp}{s:Shared}{T:String}{x:V}{v:Value}(I:Inv X pins σ H s)(r:RelV x v)(ty:tyV X.K T x H) :
  s.TypeIs v T/\∀ a,v=.ref a->∃ ob,s.heap.get? a=some ob/\ob.dict=none:=by
 cases x with
 | str z=>
  obtain⟨t,rfl⟩:=r
  cases (show T="str" from ty)
  exact⟨typeIs_str s z t,fun _ e=>nomatch e⟩
 | int i=>
  obtain⟨t,rfl⟩:=r
  cases (show T="int" from ty)
  exact⟨typeIs_int s i t,fun _ e=>nomatch e⟩
 | ref p=>
  cases r
  rcases ty with⟨rfl,xs,hq⟩ | ⟨rfl,o,hk,hc,hd⟩ | ⟨rfl,hk⟩ | ⟨rfl,S,n,hk⟩
  ·obtain⟨its,_,pl,_⟩:=I.list hq
   refine⟨pl.isList.typeIs,fun a e=>?_⟩
   cases e
   obtain⟨o,n,e,c,hd,_⟩:=pl
   exact⟨o,e,hd⟩
  ·refine⟨⟨o,I.kIn p o hk,hc⟩,fun a e=>?_⟩
   cases e
   exact⟨o,I.kIn _ o hk,hd⟩
  ·have z:∃ o,s.heap.get? p=some o/\o.ExactDict:=by
    rcases hk with⟨kvs,hk⟩ | ⟨kvs,hk⟩
    ·obtain⟨_,_,_,_,o,_,_,e,ex,_⟩:=I.hok p _ hk
     exact⟨o,e,ex⟩
    ·obtain⟨_,_,_,_,o,_,_,e,ex,_⟩:=I.hok p _ hk
     exact⟨o,e,ex⟩
   obtain⟨o,e,ex⟩:=z
   refine⟨⟨o,e,ex.1⟩,fun a e2=>?_⟩
   cases e2
   exact⟨o,e,ex.2.1⟩
  ·obtain⟨o,_,_,_,e,ex,_⟩:=I.hok p _ hk
   refine⟨⟨o,e,ex.1⟩,fun a e2=>?_⟩
   cases e2
   exact⟨o,e,ex.2.1⟩
 | _=>exact False.elim ty
noncomputable def tBM0 (K:Le)(T:String)(r:V->List V->Hp->VK->Prop)(to:TE):TE:=fun σ H Q=>to σ H fun x H1=>tyV K T x H1/\r x [] H1 Q
noncomputable def tBM (K:Le)(T:String)(r:V->List V->Hp->VK->Prop)(to:TE)(t:TA):TE:=fun σ H Q=>to σ H fun x H1=>tyV K T x H1/\t σ H1 fun xs H2=>r x xs H2 Q
variable {o e:Expr} {es:Lg} {to:TE} {t:TA} {name:Str} {apos cpos:Pos} {T id:String} {r:V->List V->Hp->VK->Prop}
theorem zeU (pa:PlainAttrs T)(slot:Slot T name id)(hty:typeOf (.builtin id)=pure (.type "method_descriptor"))(hm:MtR X id r)(ho:PE X o to)
  (hbase:attributeBase o name X.env (eval o X.env)=eval o X.env:=by rfl) (hline:(apos.endLine == cpos.line)=true:=by rfl):PE X (.Call (.Attribute o name apos) [] [] cpos) (tBM0 X.K T r to):=by
 intro pins s σ H Q I h
 refine wpAny_Call_method0_late hbase hline (thn (ho pins s σ H _ I h) fun v s1 ⟨x,H1,I1,r1,ty,q1⟩=>?_)
 obtain⟨h1,h2⟩:=zal I1 r1 ty
 exact⟨T,id,pa,slot,hty,h1,h2,Calls.callWith_builtin rfl (PySem.evalArgs_none (hm pins s1 σ H1 x [] v [] Q I1 r1 .nil q1))⟩
theorem zg9 (pa:PlainAttrs T)(slot:Slot T name id)(hty:typeOf (.builtin id)=pure (.type "method_descriptor"))(hm:MtR X id r)(ho:PE X o to)(ha:PA X (e::es) t)
  (hbase:attributeBase o name X.env (eval o X.env)=eval o X.env:=by rfl)
  (hfew:((backTo cpos (starEach (e::es) X.env)).all (fun x=>!x.1)&&(backToKw cpos (keywordEach [] X.env)).all (fun x=>x.1.isSome)
   && decide ((e::es).length+([]:List Keyword).length+(if ([]:List Keyword).isEmpty then 0 else 1)<30))=true:=by rfl)
  (hline:(apos.endLine == cpos.line)=true:=by rfl) (hs:starEach (e::es) X.env=(false,eval e X.env)::starEach es X.env:=by rfl) (hplain:(backTo cpos (starEach es X.env)).any (·.1)=false:=by rfl) :
  PE X (.Call (.Attribute o name apos) (e::es) [] cpos) (tBM X.K T r to t):=by
 intro pins s σ H Q I h
 refine wpAny_Call_method_late hbase hfew hline rfl (thn (ho pins s σ H _ I h) fun v s1 ⟨x,H1,I1,r1,ty,q1⟩=>?_)
 obtain⟨h1,h2⟩:=zal I1 r1 ty
 refine⟨T,id,pa,slot,hty,h1,h2,?_⟩
 have hA:=ha cpos pins s1 σ H1 _ I1 q1
 rw [hs] at hA ⊢
 refine Calls.callWith_builtin (by show(false||(backTo cpos (starEach es X.env)).any (·.1))=false;rw [hplain]<;>rfl) (Calls.evalArgs_plain ?_)
 exact thn hA fun us s2 ⟨vs,H2,I2,r2,q2⟩=>hm pins s2 σ H2 x vs v us Q I2 r1 r2 q2
end
def MtM (X:Cx)(id:String)(r:V->List V->Hp->VK->Prop):Prop:=
 ∀ (pins:List (Addr×Obj)) (s:Shared) (σ:St) (H:Hp) (x:V) (xs:List V) (v:Value) (us:Lf) (Q:VK),Inv X pins σ H s->RelV x v->Vals xs us->r x xs H Q ->
  wpAny (model X.prog X.w) X.A (call (.builtin id) (v::us)) (EP X pins σ Q) X.xe s
theorem Vals.one:∀ {x:V} {us:Lf},Vals [x] us->∃ u,us=[u]/\RelV x u
 | _,_,.cons r .nil=>⟨_,rfl,r⟩
theorem Vals.zero:∀ {us:Lf},Vals [] us->us=[]
 | _,.nil=>rfl
theorem Vals.dropLast {xs:List V}{us:Lf}(h:Vals xs us):Vals xs.dropLast us.dropLast:=by
 induction h with
 | nil=>exact .nil
 | cons r t ih=>
  cases t with
  | nil=>exact .nil
  | cons q t'=>exact .cons r ih
theorem Vals.eraseIdx:∀ {xs:List V} {us:Lf} (i:Nat),Vals xs us->Vals (xs.eraseIdx i) (us.eraseIdx i)
 | _,_,_,.nil=>.nil
 | _,_,0,.cons _ t=>t
 | _,_,i+1,.cons r t=>.cons r (Vals.eraseIdx i t)
theorem Va {α:Type}(l:List α):l.eraseIdx (l.length - 1)=l.dropLast:=by
 induction l with
 | nil=>rfl
 | cons a r ih=>
  cases r with
  | nil=>rfl
  | cons b r=>
   have e:(a::b::r).length - 1=((b::r).length - 1)+1:=by
    have h1:(a::b::r).length=r.length+2:=rfl
    have h2:(b::r).length=r.length+1:=rfl
    lia
   rw [e,List.eraseIdx_cons_succ,ih]
   all_goals rfl
theorem Jj {α:Type}:∀ (l:List α) (i:Nat),(l.eraseIdx i).length<=l.length
 | [],_=>uf _
 | _::_,0=>UH _
 | _::r,i+1=>Nat.succ_le_succ (Jj r i)
section
variable {X:Cx} {pins:List (Addr×Obj)} {σ:St} {H:Hp} {s:Shared} {l b:Addr} {xs ys zs:List V}
theorem Inv.lset {its its':Lf}{n:Nat}{f:Array Value->Array Value}{t':Nat}(I:Inv X pins σ H s)(hH:H l=some (.lst xs))
  (e:s.heap.get? l=some { cls:=.type "list",data:=.seq its.toArray n }) (hf:f its.toArray=its'.toArray) (hv:Vals ys its') (hz:ys.length<=sizeLine) :
  Inv X pins σ (upd H l (.lst ys)) { s with heap:=s.heap.update l (Obj.mapSeq f),toks:=t' }:=by
 have q:=PySem.IsL.update e f
 rw [hf] at q
 refine I.write (x:=l) (e:=l) (by rw [hH];exact trivial) (.inl rfl) (fun b' u hb hu=>(Heap.get?_update_other s.heap (Obj.mapSeq f) (Ne.symm hb)).trans hu) ⟨_,q⟩ ?_
 exact⟨hz,its',_,hv,q⟩
theorem Inv.lnew {its:Lf}{t':Nat}(I:Inv X pins σ H s)(hv:Vals ys its)(hz:ys.length<=sizeLine) :
  Inv X pins σ (upd H s.heap.objs.size (.lst ys)) { s with heap:=s.heap.push { cls:=.type "list",data:=.seq its.toArray },toks:=t' }:=
 I.laid (fun _ _ q=>Heap.get?_push_of_some _ q) (uf _) ⟨hz,its,0,hv,Heap.get?_push_size _ rfl⟩
theorem Inv.fresh (I:Inv X pins σ H s):H s.heap.objs.size=none:=I.hok.fresh (uf _)
theorem Inv.lstM (I:Inv X pins σ H s)(hH:H l=some (.lst xs)):xs.length<=sizeLine/\∃ (its:Lf) (n:Nat),Vals xs its/\xs.length=its.length/\s.heap.get? l=some { cls:=.type "list",data:=.seq its.toArray n }:=by
 obtain⟨z,its,n,r,e⟩:=I.hok l _ hH
 exact⟨z,its,n,r,r.length,e⟩
theorem zam {n:Nat}(h:n<=sizeLine):Builtin.List.listTooLong n=false:=by
 unfold Builtin.List.listTooLong
 exact uo (by lia)
end
section
variable {X:Cx}
noncomputable def VP:V->List V->Hp->VK->Prop:=fun x vs H Q=>∃ l xs y,x=.ref l/\vs=[y]/\H l=some (.lst xs)/\xs.length<sizeLine/\Q .non (upd H l (.lst (xs++[y])))
theorem Jk:MtM X "list.append" VP:=by
 intro pins s σ H x vs v us Q I rx rv h
 obtain⟨l,xs,y,rfl,rfl,hH,hz,q⟩:=h
 cases rx
 obtain⟨u,rfl,ru⟩:=rv.one
 obtain⟨z,its,n,r,hl,e⟩:=I.lstM hH
 refine call_meets F.slot_list_append ⟨_,e,rfl⟩ F.entry_list_append (F.args_list_append_2 _ _) (PySem.list_append l its.toArray n u (by rw [ue];lia)) ⟨e,?_⟩
 refine⟨.non,_,I.lset (its':=its++[u]) hH e (by simp) (r.append (.cons ru .nil)) ?_,rfl,q⟩
 rw [ub,List.length_singleton]
 lia
noncomputable def VQ:V->List V->Hp->VK->Prop:=fun x vs H Q=>∃ l b xs zs,x=.ref l/\vs=[.ref b]/\H l=some (.lst xs)/\H b=some (.lst zs)/\xs.length+zs.length<=sizeLine/\Q .non (upd H l (.lst (xs++zs)))
theorem Y3:MtM X "list.extend" VQ:=by
 intro pins s σ H x vs v us Q I rx rv h
 obtain⟨l,b,xs,zs,rfl,rfl,hH,hB,hz,q⟩:=h
 cases rx
 obtain⟨u,rfl,ru⟩:=rv.one
 cases ru
 obtain⟨z,its,n,r,hl,e⟩:=I.lstM hH
 obtain⟨z2,its2,n2,r2,hl2,e2⟩:=I.lstM hB
 have hsz:its.toArray.size+its2.toArray.size<=sizeLine:=by rw [ue,ue];lia
 have hlong:¬ (!its.toArray.isEmpty&&Builtin.List.listTooLong (its.toArray.size+its2.toArray.size))=true:=by
  rw [zam hsz,gU]
  exact ux
 refine call_meets F.slot_list_extend ⟨_,e,rfl⟩ F.entry_list_extend (F.args_list_extend_2 _ _)
  (AutoSeq1.list_extend_list_list_0 l its.toArray n b its2.toArray n2 hlong (by rw [ue];lia) (by lia)) ⟨e,e2,?_⟩
 refine⟨.non,_,I.lset (its':=its++its2) hH e (by simp) (r.append r2) ?_,rfl,q⟩
 rw [ub]
 lia
noncomputable def rPop:V->List V->Hp->VK->Prop:=fun x vs H Q=>∃ l xs y,x=.ref l/\vs=[]/\H l=some (.lst xs)/\xs[xs.length - 1]? = some y/\Q y (upd H l (.lst xs.dropLast))
theorem zeV:MtM X "list.pop" rPop:=by
 intro pins s σ H x vs v us Q I rx rv h
 obtain⟨l,xs,y,rfl,rfl,hH,hy,q⟩:=h
 cases rx
 have hus:=rv.zero
 subst hus
 obtain⟨z,its,n,r,hl,e⟩:=I.lstM hH
 obtain⟨u,hu,ru⟩:=r.get hy
 have hy':its.toArray[its.toArray.size - 1]? = some u:=by
  show its.toArray[its.length - 1]? = some u
  rw [← Array.getElem?_toList,← hl]
  exact hu
 refine call_meets F.slot_list_pop ⟨_,e,rfl⟩ F.entry_list_pop (F.args_list_pop_1 _) (MeetsSeq.list_pop_last l its.toArray n u hy' (by rw [ue];lia)) ⟨e,?_⟩
 refine⟨y,_,I.lset (its':=its.dropLast) hH e ?_ r.dropLast ?_,ru,q⟩
 ·show its.toArray.eraseIdxIfInBounds (its.toArray.size - 1)=its.dropLast.toArray
  rw [ue,gK,Va]
 ·rw [List.length_dropLast]
  lia
noncomputable def zan:V->List V->Hp->VK->Prop:=fun x vs H Q=>∃ l xs i k y,x=.ref l/\vs=[.int i]/\H l=some (.lst xs)/\-(2 ^ 63)<=i/\i<2 ^ 63/\seqIndex? i xs.length=some k/\xs[k]? = some y/\Q y (upd H l (.lst (xs.eraseIdx k)))
theorem zao:MtM X "list.pop" zan:=by
 intro pins s σ H x vs v us Q I rx rv h
 obtain⟨l,xs,i,k,y,rfl,rfl,hH,h1,h2,hk,hy,q⟩:=h
 cases rx
 obtain⟨u,rfl,ru⟩:=rv.one
 obtain⟨t,rfl⟩:=ru
 obtain⟨z,its,n,r,hl,e⟩:=I.lstM hH
 obtain⟨w,hw,rw'⟩:=r.get hy
 refine call_meets F.slot_list_pop ⟨_,e,rfl⟩ F.entry_list_pop (F.args_list_pop_2 _ _)
  (MeetsSeq.list_pop_at l its.toArray n i t k w (fitsIndex_both h1 h2) (by rw [ue,← hl];exact hk) (by rw [← Array.getElem?_toList];exact hw) (by rw [ue];lia)) ⟨e,?_⟩
 refine⟨y,_,I.lset (its':=its.eraseIdx k) hH e ?_ (r.eraseIdx k) ?_,rw',q⟩
 ·show its.toArray.eraseIdxIfInBounds k=(its.eraseIdx k).toArray
  rw [gK]
 ·have:=Jj xs k
  lia
noncomputable def zap:V->List V->Hp->VK->Prop:=fun x vs H Q=>∃ l xs,x=.ref l/\vs=[]/\H l=some (.lst xs)/\Q .non (upd H l (.lst []))
theorem zaq:MtM X "list.clear" zap:=by
 intro pins s σ H x vs v us Q I rx rv h
 obtain⟨l,xs,rfl,rfl,hH,q⟩:=h
 cases rx
 have hus:=rv.zero
 subst hus
 obtain⟨z,its,n,r,hl,e⟩:=I.lstM hH
 refine call_meets F.slot_list_clear ⟨_,e,rfl⟩ F.entry_list_clear (F.args_list_clear_1 _) (AutoSeq1.list_clear_list_0 l its.toArray n (by rw [ue];lia)) ⟨e,?_⟩
 exact⟨.non,_,I.lset (its':=[]) (ys:=[]) hH e rfl .nil (uF _),rfl,q⟩
noncomputable def rCat:R2:=fun x y H Q=>∃ l b xs zs,x=.ref l/\y=.ref b/\H l=some (.lst xs)/\H b=some (.lst zs)/\xs.length+zs.length<=sizeLine/\∀ p,H p=none->Q (.ref p) (upd H p (.lst (xs++zs)))
theorem zeW:OpR X (binaryOp .Add) rCat:=by
 intro pins s σ H x y v u Q I rx ry h
 obtain⟨l,b,xs,zs,rfl,rfl,hH,hB,hz,q⟩:=h
 cases rx
 cases ry
 obtain⟨z,its,n,r,hl,e⟩:=I.lstM hH
 obtain⟨z2,its2,n2,r2,hl2,e2⟩:=I.lstM hB
 refine PySem.P.add_list e e2 ?_ (by rw [ue,ue];lia)
 have ea:its.toArray++its2.toArray=(its++its2).toArray:=by simp
 rw [ea]
 exact⟨.ref _,_,I.lnew (t':=s.toks) (r.append r2) (by rw [ub];lia),rfl,q _ I.fresh⟩
end
section
variable {prog:Program} {w:World} {A:Around} {E:Value->Shared->Prop} {s:Shared}
set_option maxRecDepth 100000 in
end
section
variable {X:Cx}
end
end L2
namespace Att
open PySem PySem.W PySem.Calls PyProof.Rows
theorem Zy {P:Params}{h:Heap}:∀ (ns:List Int) (vs:Lf),WellAll P h vs (ns.map WData.int)->IntsAre vs ns:=by
 intro ns
 induction ns with
 | nil=>
  intro vs w
  rw [Uy] at w
  cases w
  exact .nil
 | cons n ns ih=>
  intro vs w
  rw [ur] at w
  cases w with
  | cons a b=>
   cases a
   exact .cons _ _ (ih _ b)
theorem Y4 {l:OpenLaw}{n:Nat}(hn:l.most=some n){P:Params}{h:Heap}{args:List WData}{vals:Lf}
  (hpre:l.row.toRowW.claim.pre args=true) (hwl:WellAll P h vals args) :
  ∃ a vs ns,vals=[Value.ref a]/\args=[WData.list (ns.map WData.int)]/\h.get? a=some { cls:=.type "list",data:=.seq vs.toArray }/\IntsAre vs ns/\ns.length<=n:=by
 have hsh:WShape.hasAll [] args [.list .int]=true:=(pre_splitW hpre).1
 have hc:l.pre.holds [] { args:=args }=true:=(pre_splitW hpre).2
 obtain⟨d,r,rfl,h1,h2⟩:=hasAllW_cons hsh
 obtain rfl:=hasAllW_nil h2
 obtain⟨xs,rfl,h3⟩:=hasW_list h1
 obtain⟨ns,rfl⟩:=items_int h3
 have hlen:ns.length<=n:=by
  unfold OpenLaw.pre at hc
  have h4:(WTm.not (.lt (.lit (.int (n:Int))) (.len (.arg 0)))).holds [] { args:=[.list (ns.map .int)] }=true:=by
   have h4:=(holds_andW hc).1
   rw [hn] at h4
   exact h4
  have h5:=condW_of h4 (w_not (w_lt w_lit (w_len_list (w_arg rfl))))
  rw [ug] at h5
  refine Nat.le_of_not_lt fun q=>?_
  have q':(n:Int)<((ns.length:Nat):Int):=by lia
  first
   | (rw [uT q'] at h5;exact absurd h5 (by decide))
   | (simp at h5;omega)
 cases hwl with
 | cons w1 w2=>
  cases w2
  cases w1 with
  | list ho hall=>exact⟨_,_,ns,rfl,rfl,ho,Zy ns _ hall,hlen⟩
theorem Y5 (l:OpenLaw)(args:List WData):l.row.toRowW.claim.post args (.bool true) args=true:=
 postW_of (r:=l.row.toRowW) (X:=(true == true))
  (show WShape.has [] (.bool true) .bool=true by first | rfl | decide | simp [WShape.has,WShape.arms,WShape.armsAll])
  (show(WTm.eq .res (.lit (.bool true))).value [] { args:=args,res:=some (.bool true),after:=args }=some (.bool (true == true)) from w_eq_bool (w_res rfl) w_lit) rfl
theorem attach_call {l:OpenLaw}{n:Nat}{q:Program}{loose:Lh}{XP:(La)->Heap->Prop}{YP:World->Heap->Prop}{d:DefRec}
  (hn:l.most=some n) (hdf:d.params.defaults=[])
  (call:∀ (w:World) (s₀ s₁:Shared) (mg mb:La) (fa:Addr) (o:Obj) (pm cd doc:Value) (a:Addr) (vs:Lf) (ns:List Int),
   Ground q loose [] XP w s₀ mg mb s₁.heap->YP w s₁.heap ->
   s₁.heap.get? fa=some o->o.data=.func (docDef d.name d.params d.body d.scope pm cd doc)->s₁.heap.CodeRec cd d.name->mg d.name=some (.ref fa) ->
   s₁.heap.get? a=some { cls:=.type "list",data:=.seq vs.toArray }->IntsAre vs ns->ns.length<=n->s₁.gens = #[] ->
   codeAny (model l.prog w) callerA (.call (.ref fa) ⟨[.ref a],[]⟩) (fun r s'=>r=.ok (.ret (.bool true))/\OldK s₁.heap s'.heap/\s'.os=s₁.os/\AllBare s'.gens) s₁) :
  WalkO q loose XP YP l.row.toRowW d [] (fun f vs=>PySem.call f vs):=by
 intro w s₀ s₁ mg mb G Y fa o pm cd doc dV kV ho hd hcd hD hmg hg args vals as hpre hlay hrd hwl hlo
 obtain rfl:dV=.none:=Dflts.none hD hdf
 obtain rfl:kV=.none:=Dflts.noKw hD
 obtain⟨a,vs,ns,rfl,rfl,hobj,hints,hlen⟩:=Y4 hn hpre hwl
 refine enter_call (codeAny_mono (call w s₀ s₁ mg mb fa o pm cd doc a vs ns G Y ho (fd_plain hd) hcd hmg hobj hints hlen hg) fun r s' hq=>?_)
 obtain⟨rfl,h2,h3,h4⟩:=hq
 exact⟨.inl ⟨.bool true,.bool true,[],rfl,fun _=>rfl,.bool true,Y5 l _,fun _=>⟨List.Pairwise.nil,fun _ hm=>(nomatch hm)⟩⟩,h2,h3,h4⟩
section
variable {prog:Program} {w:World} {A:Around} {E:Value->Shared->Prop} {s:Shared} {K:Frag}
end
end Att
namespace L2
open PySem PySem.Spec PyProof.Rows
theorem Jl:∀ {vs:Lf} {ns:List Int},IntsAre vs ns->Vals (ns.map V.int) vs
 | _,_,.nil=>.nil
 | _,_,.cons n t h=>.cons ⟨t,rfl⟩ (Jl h)
def Only (H:Hp):Prop:=∀ b,H b=none\/∃ o xs,H b=some (.frz o (.lst xs))
theorem zar {P:Program}{w:World}{K:Le}{mg mb:La}{CX:CXT}{k:Nat}{fa a:Addr}{fd:FuncData}{x:Str}{sp:Sp}{s₁:Shared}{vs:Lf}{ns:List Int}
  (KX:K.In s₁.heap) (hns:s₁.heap.Ns mainGlobals mg) (hb:s₁.heap.Ns builtinsNs mb) (hbb:∀ x:Str,x≠"__name__"->mb x=bootBuiltins x) (hlim:s₁.heap.NoLimit) (hg:s₁.gens = #[])
  (ha:s₁.heap.get? a=some { cls:=.type "list",data:=.seq vs.toArray }) (hi:IntsAre vs ns) (hl:ns.length<=sizeLine) (hr:Room k callerA)
  (F:∀ base:Heap,K.In base->base.Ns mainGlobals mg->FnOk P w K mg base CX k fa fd [x] sp) (hbind:∀ (s:Shared) (u:Value),BindsTo s fd ⟨[u],[]⟩ [(x,u)])
  (hsp:∀ H:Hp,Only H->SqL K H a (ns.map V.int)->sp [.ref a] H (fun v _=>v=.bl true) fun _ _ _=>False)
  (hCX:∀ H e s',CX [] H s₁ (fun _ _ _=>False) e s'->False) :
  codeAny (model P w) callerA (.call (.ref fa) ⟨[.ref a],[]⟩) (fun r s'=>r=.ok (.ret (.bool true))/\OldK s₁.heap s'.heap/\s'.os=s₁.os/\AllBare s'.gens) s₁:=by
 have rv:=Jl hi
 have lenV:=hi.length
 have core:∀ H:Hp,Only H->SqL K H a (ns.map V.int)->HOk P w H s₁.heap->(∀ b,H b≠none->b=a)->(H a≠none->K.lookup a=none) ->
   codeAny (model P w) callerA (.call (.ref fa) ⟨[.ref a],[]⟩) (fun r s'=>r=.ok (.ret (.bool true))/\OldK s₁.heap s'.heap/\s'.os=s₁.os/\AllBare s'.gens) s₁:=by
  intro H hO hS hok hA hK
  have base_of:∀ {b:Addr} {o:Obj},s₁.heap.get? b=some o->H b=none->(hidT s₁.heap H).get? b=some o:=fun e n=>KW e n
  have noA:∀ {b:Addr} {o:Obj} {es:Array DictEntry} {ep:Nat},s₁.heap.get? b=some o->o.data=.dict es ep->H b=none:=fun {b o es ep} e d=>by
   cases q:H b with
   | none=>rfl
   | some u=>
    have e':b=a:=hA b (by rw [q];simp)
    subst e'
    rw [ha] at e;cases e
    have d':Data.seq vs.toArray _=Data.dict es ep:=d
    cases d'
  have nsK:∀ {b:Addr} {m:La},s₁.heap.Ns b m->(hidT s₁.heap H).Ns b m:=fun {b m} ⟨o,es,ep,e,d,r⟩=>⟨o,es,ep,base_of e (noA e d),d,r⟩
  have hKb:K.In (hidT s₁.heap H):=fun b o e=>base_of (KX b o e) (by
   cases q:H b with
   | none=>rfl
   | some u=>
    have e':b=a:=hA b (by rw [q];simp)
    subst e'
    rw [hK (by rw [q];simp)] at e;cases e)
  have hM:Mod K mg (hidT s₁.heap H):=⟨hKb,nsK hns,⟨mb,nsK hb,hbb⟩,let ⟨mc,h1,h2⟩:=hlim;⟨mc,nsK h1,h2⟩⟩
  have e0:Env0 P w K mg (hidT s₁.heap H) callerA [] s₁ H:=⟨rfl,hM,fun b o e=>zcf e,UI (YQ _ _),trivial,fun b hb=>absurd (show b∈([]:Ld) from hb) (by simp),hok,.of_eq hg⟩
  refine codeAny_mono ((F _ hKb (nsK hns)).run callerA [] s₁ H ⟨[.ref a],[]⟩ [.ref a] [.ref a] _ _ hr e0 (hbind s₁ (.ref a)) (.cons rfl .nil) (hsp H hO hS)) fun r s' h=>?_
  cases r with
  | error e=>exact(hCX H e s' h).elim
  | ok fl=>
   cases fl with
   | next=>exact False.elim h
   | brk=>exact False.elim h
   | cont=>exact False.elim h
   | ret u=>
    obtain⟨v,H',os,bare,un,hok',r',q⟩:=h
    have q':v=.bl true:=q
    subst q'
    obtain rfl:u=Value.bool true:=r'
    refine⟨rfl,OldK.of_keep fun b o e=>?_,os,bare⟩
    cases q:H b with
    | none=>exact un.keep b o e q (by intro z;exact absurd (show b∈([]:Ld) from z) (by simp)) (by simp)
    | some u=>
     rcases hO b with z | ⟨ob,xs,z⟩
     ·rw [q] at z;cases z
     ·have z2:=un.frzs b ob _ z
      obtain⟨e1,_⟩:=hok b _ z
      obtain⟨e2,_⟩:=hok' b _ z2
      rw [e] at e1;cases e1
      exact e2
 cases hk:K.lookup a with
 | some o=>
  have e:=KX a o hk
  rw [ha] at e
  cases e
  refine core (fun _=>none) (fun _=>.inl rfl) (.inr ⟨_,vs.toArray,_,hk,rfl,rfl,rfl,by rw [ue,lenV];exact hl,by simpa using rv⟩) (fun b u z=>by have z':(none:Option HO)=some u:=z;cases z') (fun b z=>absurd rfl z) fun z=>absurd rfl z
 | none=>
  refine core (fun b=>if b=a then some (.frz { cls:=.type "list",data:=.seq vs.toArray } (.lst (ns.map V.int))) else none) (fun b=>?_) (.inl (.inr ⟨{ cls:=.type "list",data:=.seq vs.toArray },uA rfl⟩)) (fun b u z=>?_) (fun b z=>?_) fun _=>hk
  ·by_cases hb:b=a
   ·exact .inr ⟨_,_,uA hb⟩
   ·exact .inl (uq hb)
  ·by_cases hb:b=a
   ·have z':=(uA hb).symm.trans z
    cases z'
    subst hb
    exact⟨ha,by rw [ug];exact hl,vs,_,rv,ha⟩
   ·have z':=(uq hb).symm.trans z
    cases z'
  ·by_cases hb:b=a
   ·exact hb
   ·exact absurd (uq hb) z
theorem zcy {l:PySem.W.OpenLaw}{n k:Nat}{q:Program}{loose:Lh}{XP:(La)->Heap->Prop}{YP:World->Heap->Prop}{d:DefRec}{K:Params->Le}{CX:World->CXT}{sp:World->Sp}{x:Str}
  (hn:l.most=some n) (hn2:n<=sizeLine) (hdf:d.params.defaults=[]) (hr:Room k callerA)
  (hY:∀ (w:World) (h:Heap),YP w h->(K w.params).In h)
  (F:∀ (w:World) (mg:La) (fa:Addr) (h:Heap),(K w.params).In h->h.Ns mainGlobals mg->mg d.name=some (.ref fa) ->
   ∃ fd:FuncData,(∀ (s:Shared) (u:Value),BindsTo s fd ⟨[u],[]⟩ [(x,u)]) /\
    ∀ base:Heap,(K w.params).In base->base.Ns mainGlobals mg->FnOk l.prog w (K w.params) mg base (CX w) k fa fd [x] (sp w))
  (hsp:∀ (w:World) (H:Hp) (a:Addr) (ns:List Int),ns.length<=n->Only H->SqL (K w.params) H a (ns.map V.int)->sp w [.ref a] H (fun v _=>v=.bl true) fun _ _ _=>False)
  (hCX:∀ (w:World) (H:Hp) (s:Shared) (e:Value) (s':Shared),CX w [] H s (fun _ _ _=>False) e s'->False) :
  PySem.W.WalkO q loose XP YP l.row.toRowW d [] (fun f vs=>PySem.call f vs):=by
 refine Att.attach_call hn hdf fun w s₀ s₁ mg mb fa o pm cd doc a vs ns G Y ho hd hcd hmg hobj hints hlen hg=>?_
 have KX:=hY w _ Y
 obtain⟨fd,hb,hF⟩:=F w mg fa _ KX G.T.g hmg
 exact zar KX G.T.g G.T.b G.T.builtins G.T.nolimit hg hobj hints (uN hlen hn2) hr hF hb (fun H hO hS=>hsp w H a ns hlen hO hS) fun H e s'=>hCX w H s₁ e s'
noncomputable def q9 (s:Stmt):Arguments:=match s with
 | .FunctionDef _ a _ _ _ _ _ _ _ _=>a
 | _=>{ posonlyargs:=[],args:=[],vararg:=none,kwonlyargs:=[],kw_defaults:=[],kwarg:=none,defaults:=[] }
noncomputable def zf (s:Stmt):List Stmt:=match s with
 | .FunctionDef _ _ b _ _ _ _ _ _ _=>b
 | _=>[]
noncomputable def zb (s:Stmt):Scope:=match s with
 | .FunctionDef _ _ _ _ _ _ sc _ _ _=>sc
 | _=>{ kind:=.function,names:=[],isGenerator:=false,isCoroutine:=false }
noncomputable abbrev CX0:CXT:=fun _ _ _ _ _ _=>False
structure Fun (K:Le)(x qual:Str)(st:Stmt)(f:Addr)(fd:FuncData):Prop where
 ex:∃ (oc:Value) (od:Option Addr) (kV doc pm:Value) (an:Option Addr) (cdv ct:Value) (osl:Array (Option Value)),
  fd=PySem.W.fnOf x qual (q9 st) (zf st) (zb st) .none kV doc pm an cdv ct/\K.lookup f=some ⟨oc,od,.func fd,osl⟩/\PySem.W.codeIn K cdv qual=true
 kp:PySem.W.keepIn K (.ref f)=true
section
variable {P:Program} {w:World} {K:Le} {mg:La} {base:Heap}
theorem Fun.ok {x qual:Str}{st:Stmt}{f:Addr}{fd:FuncData}{N ps:Lh}{k:Nat}{sp:Sp}(F:Fun K x qual st f fd)(S:zi N ps (zb st))(len:∀ vs H Q E,sp vs H Q E->vs.length=ps.length)
  (hbody:∀ (cdv:Value) (A:Around) (outer:List Env) (s:Shared) (H:Hp) (vs:List V) (Q:VK) (E:XK),Room k (A.deeper (envOfC qual (zb st) s.heap.objs.size f cdv))->sp vs H Q E ->
   ∃ t,PSs (cxOf CX0 P w K mg base N qual (zb st) f cdv A outer s H E).nox (zf st) t/\t { nx:=fun _ H'=>Q .non H',rt:=Q } (start N vs) H):FnOk P w K mg base CX0 (k+1) f fd ps sp:=by
 obtain⟨oc,od,kV,doc,pm,an,cdv,ct,osl,rfl,lk,hcd⟩:=F.ex
 refine zah lk hcd S len fun A outer s H vs Q E hr hsp=>?_
 obtain⟨t,h,q⟩:=hbody cdv A outer s H vs Q E hr hsp
 exact⟨t,h.nox,q⟩
theorem Fun.binds {x qual:Str}{st:Stmt}{f:Addr}{fd:FuncData}{ps:Lh}(F:Fun K x qual st f fd)
  (h:∀ (kV doc pm:Value) (an:Option Addr) (cdv ct:Value) (us:Lf),us.length=ps.length->bindArgs (PySem.W.fnOf x qual (q9 st) (zf st) (zb st) .none kV doc pm an cdv ct) ⟨us,[]⟩=pure (ps.zip us)):Binds K fd ps []:=by
 obtain⟨oc,od,kV,doc,pm,an,cdv,ct,osl,rfl,lk,hcd⟩:=F.ex
 exact .all (h kV doc pm an cdv ct)
theorem kG {x qual:Str}{st:Stmt}{f:Addr}{oc:Value}{od an:Option Addr}{osl:Array (Option Value)}{kV doc pm cdv ct:Value}(l:K.lookup f=some ⟨oc,od,.func (PySem.W.fnOf x qual (q9 st) (zf st) (zb st) .none kV doc pm an cdv ct),osl⟩)
  (c:PySem.W.codeIn K cdv qual=true) (k:PySem.W.keepIn K (.ref f)=true):Fun K x qual st f (PySem.W.fnOf x qual (q9 st) (zf st) (zb st) .none kV doc pm an cdv ct):=⟨⟨oc,od,kV,doc,pm,an,cdv,ct,osl,rfl,l,c⟩,k⟩
end
section
variable {X:Cx}
theorem pv (i:Nat){x:Str}{pos:Pos}(hN:X.N[i]? = some x:=by rfl) (hv:Vis X.env.scope x:=by first | exact Or.inl rfl | exact Or.inr (Or.inl rfl) | exact Or.inr (Or.inr rfl)) (hd:(x == ("__debug__":Str))=false:=by decide)
  (hcd:(x == ("__classdict__":Str))=false:=by decide):PE X (.Name x pos) (tVar i):=zes hN hv hd hcd
end
def Same (H H':Hp):Prop:=∀ b o,H b=some o->H' b=some o
noncomputable def Its (x:Str):It:=⟨fun i _=>i<x.cps.size,fun i H v H'=>H' = H/\∃ c,x.cps[i]? = some c/\v=.str ⟨#[c]⟩,fun i _=>x.cps.size<=i⟩
section
variable {X:Cx} {tg:Expr}
theorem Zd {P:Program}{w:World}{K:Le}{tg:Expr}{x:Str}{t:Tok}{ty:String}{it:Addr}
  (hty:["enumerate","zip","dict_itemiterator","dict_reverseitemiterator","odict_iterator","itertools.zip_longest","itertools.pairwise"].contains ty=false)
  (W:∀ A':Around,A'.handled=none->Walks P w A' it [it] [it] x.cps.size (SignAt x) (fun i h=>h.IsStrIter it ty x t i))
  (hend:∀ (A':Around) (s:Shared) (i:Nat) (E:Value->Shared->Prop) (Q:Option Value->Shared->Prop),A'.handled=none->s.heap.IsStrIter it ty x t i->x.cps[i]? = none ->
   (∀ h',(∀ b o,b≠it->s.heap.get? b=some o->h'.get? b=some o)->Q none { s with heap:=h' })->wpAny (model P w) A' (pyNext (.ref it)) Q E s)
  (hself:∀ (A':Around) (s:Shared) (i:Nat) (E:Value->Shared->Prop) (Q:Value->Shared->Prop),s.heap.IsStrIter it ty x t i->Q (.ref it) s->wpAny (model P w) A' (pyIter (.ref it)) Q E s) :
  Turn P w K tg (Its x) [it] it (fun i h=>h.IsStrIter it ty x t i) where
 mem:=by simp
 obj:=fun i h st b hb=>by
  have e:b=it:=by simpa using hb
  subst e
  obtain⟨o,e,c,d⟩:=st
  exact⟨o,e,fun v z=>by rw [d] at z;cases z⟩
 keep:=fun i h h' st k=>let ⟨o,ho,r⟩:=st;⟨o,k it (by simp) o ho,r⟩
 item:=by
  intro X hP hw hK hc i pins s σ H E I hf st hg
  subst hP hw hK
  obtain⟨f0,f1,f2,f3,f4,f5⟩:=hf it (by simp)
  refine(W X.A (I.ok.hd hc)).item i s _ _ hg st fun v h' tk hv st' kk=>?_
  obtain⟨c,u,hcu,rfl⟩:=hv
  have I1:Inv X pins σ H { s with heap:=h',toks:=tk }:=I.turned (fun b o hb e=>kk b o (by simpa using hb) e) f0 f1 f3 f4 f5
  obtain⟨o,e,hcl,d⟩:=id st'
  exact⟨_,rfl,Jd (s:={ s with heap:=h',toks:=tk }) e hcl d hty ⟨.str ⟨#[c]⟩,H,I1,⟨u,rfl⟩,⟨rfl,c,hcu,rfl⟩,st',fun b hb=>(hf b hb).1⟩⟩
 done:=by
  intro X hP hw hK hc i pins s σ H E I hf st hg
  subst hP hw hK
  obtain⟨f0,f1,f2,f3,f4,f5⟩:=hf it (by simp)
  have hg':x.cps.size<=i:=hg
  exact hend X.A s i E _ (I.ok.hd hc) st (by simp [hg']) fun h' eb=>⟨rfl,I.turned (t':=s.toks) (fun b o hb e=>eb b o hb e) f0 f1 f3 f4 f5⟩
 self:=fun A i s Q E st h=>hself A s i E Q st h
end
theorem wD {env:Env}(y:Str):∀ (names:List (Str×NameKind)),
  (names.map fun(n,k)=>if (k == NameKind.free&&env.scope.kind == .function&&env.kindOf n == some .cell) then(n,NameKind.cell) else(n,k)).lookup y =
   (names.lookup y).map fun k=>if (k == NameKind.free&&env.scope.kind == .function&&env.kindOf y == some .cell) then NameKind.cell else k
 | []=>rfl
 | (n,k)::r=>by
  have ih:=wD y r (env:=env)
  rw [ur]
  by_cases hy:y=n
  ·subst hy
   show List.lookup y ((if (k == NameKind.free&&env.scope.kind == .function&&env.kindOf y == some .cell)=true then(y,NameKind.cell) else(y,k))::_)=_
   by_cases hc:(k == NameKind.free&&env.scope.kind == .function&&env.kindOf y == some .cell)=true
   ·rw [uA hc]
    simp only [uP,uQ,Ut,hc,UY]
   ·rw [uq hc]
    simp only [uP,uQ,Ut,hc,UP]
    rfl
  ·have hb:(y == n)=false:=by simpa using hy
   show List.lookup y ((if (k == NameKind.free&&env.scope.kind == .function&&env.kindOf n == some .cell)=true then(n,NameKind.cell) else(n,k))::_)=_
   by_cases hc:(k == NameKind.free&&env.scope.kind == .function&&env.kindOf n == some .cell)=true
   ·rw [uA hc]
    simp only [uP,hb]
    exact ih
   ·rw [uq hc]
    simp only [uP,hb]
    exact ih
theorem ym {env:Env}:∀ (names:List (Str×NameKind)) (cs:List (Str×Addr)),(∀ y∈names,y.2=.free->∃ c,env.cells.lookup y.1=some c)->(∀ y c,cs.lookup y=some c->env.cells.lookup y=some c) ->
  ∃ cl,(forIn (m:=Sem) names cs fun(x:Str×NameKind) (r:List (Str×Addr))=>(if (x.2 == .free)=true then(do let c ← cellOf env x.1;pure (ForInStep.yield ((x.1,c)::r))) else pure (ForInStep.yield r)))=pure cl /\
   (∀ y c,cl.lookup y=some c->env.cells.lookup y=some c)/\(∀ y∈names,y.2=.free->∃ c,cl.lookup y.1=some c)/\∀ y,(∃ c,cs.lookup y=some c)->∃ c,cl.lookup y=some c
 | [],cs,_,hcs=>⟨cs,rfl,hcs,(fun _ h=>nomatch h),(fun _ h=>h)⟩
 | (n,k)::r,cs,h,hcs=>by
  by_cases hk:k=.free
  ·subst hk
   obtain⟨c,hc⟩:=h (n,.free) ui rfl
   have hc:env.cells.lookup n=some c:=hc
   have hcs':∀ y c',((n,c)::cs).lookup y=some c'->env.cells.lookup y=some c':=fun y c' e=>by
    by_cases hy:y=n
    ·subst hy
     simp only [uP,uQ] at e
     cases e
     exact hc
    ·have hb:(y == n)=false:=by simpa using hy
     simp only [uP,hb] at e
     exact hcs y c' e
   obtain⟨cl,e1,e2,e3,e4⟩:=ym r ((n,c)::cs) (fun y hy=>h y (uk _ hy)) hcs'
   refine⟨cl,?_,e2,fun y hy hf=>?_,fun y hy=>e4 y ?_⟩
   ·rw [List.forIn_cons]
    simp only [uQ,UY,cellOf,hc]
    exact e1
   ·rcases uh.mp hy with rfl | hy
    ·exact e4 n ⟨c,by simp only [uP,uQ]⟩
    ·exact e3 y hy hf
   ·obtain⟨c',hc'⟩:=hy
    by_cases hy:y=n
    ·subst hy
     exact⟨c,by simp only [uP,uQ]⟩
    ·have hb:(y == n)=false:=by simpa using hy
     exact⟨c',by simp only [uP,hb];exact hc'⟩
  ·obtain⟨cl,e1,e2,e3,e4⟩:=ym r cs (fun y hy=>h y (uk _ hy)) hcs
   refine⟨cl,?_,e2,fun y hy hf=>?_,e4⟩
   ·have hb:(k == NameKind.free)=false:=by simpa using hk
    rw [List.forIn_cons]
    simp only [hb,gC,UP]
    exact e1
   ·rcases uh.mp hy with rfl | hy
    ·exact absurd hf hk
    ·exact e3 y hy hf
theorem Vb {env:Env}{scope:Scope}(h:∀ y∈scope.names,y.2=.free->∃ c,env.cells.lookup y.1=some c) :
  ∃ cl,closureFor scope env=pure cl/\(∀ y c,cl.lookup y=some c->env.cells.lookup y=some c)/\(∀ y∈scope.names,y.2=.free->∃ c,cl.lookup y.1=some c):=by
 obtain⟨cl,e1,e2,e3,_⟩:=ym scope.names [] h (fun y c e=>by simp at e)
 refine⟨cl,?_,e2,e3⟩
 have e:closureFor scope env=(forIn (m:=Sem) scope.names [] fun(x:Str×NameKind) (r:List (Str×Addr))=>(if (x.2 == .free)=true then(do let c ← cellOf env x.1;pure (ForInStep.yield ((x.1,c)::r))) else pure (ForInStep.yield r))) >>= fun cs=>pure cs:=rfl
 rw [e,e1]
 rfl
theorem WZ {prog:Program}{w:World}{A:Around}{R:Result->Shared->Prop}{s:Shared}{elt target iter:Expr}{ifs:Lg}{scope:Scope}{pos:Pos}{it acc:Value}{env:Env}(I:Nat->Shared->Prop)
  (turn:∀ n s,I n s->wpAny (model prog w) A (pyNext it) (fun r s₁=>match r with
   | none=>R (.ok .next) s₁
   | some v=>wpAny (model prog w) A (letOwnedTupleGo target it v) (fun _ s₁=>wpAny (model prog w) A (assign target env v) (fun _ s₂=>
     wpAny (model prog w) A (forIn ifs true fun c r=>if r=true then do let ok ← isTrue c env (eval c env);pure (ForInStep.yield ok) else pure (ForInStep.yield r)) (fun ok s₃=>
      if ok=true then wpAny (model prog w) A (eval elt env) (fun x s₄=>
       wpAny (model prog w) A (call (.builtin "list.append") [acc,x]) (fun _ s₅=>∃ m,m<n/\I m s₅) (fun _ _=>False) s₄) (fun _ _=>False) s₃
      else ∃ m,m<n/\I m s₃) (fun _ _=>False) s₂) (fun _ _=>False) s₁) (fun _ _=>False) s₁) (fun _ _=>False) s)
  (n:Nat) (h:I n s) :
  codeAny (model prog w) A (.compLoop (.ListComp elt [⟨target,iter,ifs,0⟩] scope pos) 0 it acc env) R s:=by
 refine codeAny_loop rfl I (fun n s hI=>?_) n h
 show wpAny _ A ((compTurn (.ListComp elt [⟨target,iter,ifs,0⟩] scope pos) 0 it acc env).onRaise (fun x=>do noteFrame x env;theTreesLotGoes x)) _ _ s
 refine wpAny_noted ?_
 rw [compTurn_list]
 refine wpAny_bind (wpAny_standAt (wpAny_bind (wpAny_mono (turn n s hI) (fun r s₁ h₁=>?_) fun _ _ h'=>h'.elim)))
 cases r with
 | none=>exact wpAny_pure h₁
 | some v=>
  refine wpAny_bind (wpAny_mono h₁ (fun _ s₁ h₁=>?_) fun _ _ h'=>h'.elim)
  refine wpAny_bind (wpAny_mono h₁ (fun _ s₂ h₂=>wpAny_bind (wpAny_mono h₂ (fun ok s₃ h₃=>?_) fun _ _ h'=>h'.elim)) fun _ _ h'=>h'.elim)
  cases ok with
  | false=>exact wpAny_pure ⟨rfl,h₃⟩
  | true=>
   exact wpAny_bind (wpAny_bind (wpAny_mono h₃ (fun x s₄ h₄=>wpAny_bind (wpAny_mono h₄ (fun _ s₅ h₅=>wpAny_pure (wpAny_pure ⟨rfl,h₅⟩)) fun _ _ h'=>h'.elim)) fun _ _ h'=>h'.elim))
noncomputable def blk (X:Cx)(x:Str)(scope:Scope)(cl:List (Str×Addr))(C:Addr)(s3:Shared)(H3:Hp)(fp:Ld):Cx:=
 { X with N:=x::X.N,s₀:=s3,H₀:=H3,env:=compEnvC scope cl C X.env,outer:=X.stack,ex:=fp,fn:=fun _=>false,pn:=[],xe:=fun _ _=>False }
def PTs (X:Cx)(ifs:Lg)(t:TT):Prop:=
 ∀ (pins:List (Addr×Obj)) (s:Shared) (σ:St) (H:Hp) (Q:Bool->Hp->Prop),Inv X pins σ H s->t σ H Q ->
  wpAny (model X.prog X.w) X.A (forIn ifs true fun c r=>if r=true then do let ok ← isTrue c X.env (eval c X.env);pure (ForInStep.yield ok) else pure (ForInStep.yield r)) (TP X pins σ Q) X.xe s
noncomputable def zha:TT:=fun _ H Q=>Q true H
theorem zcz {X:Cx}:PTs X [] zha:=fun _ _ _ H _ I h=>wpAny_tests_nil ⟨H,I,h⟩
theorem zcA {X:Cx}{c:Expr}{t:TT}(h:PT X c t):PTs X [c] t:=fun pins s σ H Q I hw=>wpAny_tests_one (h pins s σ H Q I hw)
section
variable {X:Cx} {elt iter:Expr} {x:Str} {px pos:Pos} {ifs:Lg} {scope:Scope} {wi:TI} {tt:TT} {te:TE}
end
noncomputable def S (l:Lc):Str:=⟨l.toArray⟩
theorem zas (l:Lc):(S l).cps.toList=l:=rfl
theorem jf (l:Lc):(S l).length=l.length:=by simp [S,Str.length]
theorem zat (l:Lc):(S l).cps.size=l.length:=by simp [S]
theorem zhb (l:Lc)(i:Nat):(S l).cps[i]? = l[i]?:=by simp [S]
theorem S_of (x:Str):S x.cps.toList=x:=by simp [S]
theorem Z0 {a b:Lc}:S a=S b↔a=b:=⟨fun h=>by have:=congrArg (fun x=>x.cps.toList) h;simpa [S] using this,fun h=>by rw [h]⟩
theorem S_app (a b:Lc):S a++S b=S (a++b):=by
 show Str.append (S a) (S b)=_
 simp [S,Str.append]
section
variable {X:Cx} {a b e:Expr} {ta tb te:TE} {pos:Pos}
theorem pe_S {x:Str}{l:Lc}{j pos}(h:x=S l):PE X (.Constant (.str x) j pos) (tC (.str (S l))):=by
 subst h;exact zeu
theorem zcB:OpR X (binaryOp .Add) (fun x y H Q=>∃ i j,x=.str (S i)/\y=.str (S j)/\i.length+j.length<=sizeLine/\Q (.str (S (i++j))) H):=by
 intro pins s σ H x y v u Q I rx ry h
 obtain⟨i,j,rfl,rfl,hz,q⟩:=h
 exact X0 pins s σ H _ _ v u Q I rx ry ⟨S i,S j,rfl,rfl,by rw [jf,jf];exact hz,by rw [S_app];exact q⟩
theorem zcC:OpR X (binaryOp .Mult) (rI IntMulOk fun i j=>.int (i * j)):=opI fun _ _ _ _ _ _ _ hc q=>mul_int q hc
noncomputable def zdO:R2:=fun x y H Q=>∃ l i c,x=.str (S l)/\y=.int i/\l.length<=sizeLine/\atI l i=some c/\Q (.str (S [c])) H
theorem ix_S:IxR X zdO:=by
 intro value slice pins s σ H x y v u Q I rx ry h hs
 obtain⟨l,i,c,rfl,rfl,hz,he,q⟩:=h
 exact zeT value slice pins s σ H _ _ v u Q I rx ry ⟨S l,i,c,rfl,rfl,by rw [jf];exact hz,he,q⟩ hs
theorem Y6:qF X (.builtin "len") (fun xs H Q=>∃ l,xs=[.str (S l)]/\l.length<=sizeLine/\Q (.int l.length) H):=by
 intro pins s σ H xs us Q I r h
 obtain⟨l,rfl,hz,q⟩:=h
 exact JR pins s σ H _ us Q I r ⟨S l,rfl,by rw [jf];exact hz,by rw [jf];exact q⟩
noncomputable def cutN (xs:Lc)(lo hi:Option Int):Lc:=(xs.drop (HT.sIx xs.length 0 lo)).take (HT.sIx xs.length xs.length hi - HT.sIx xs.length 0 lo)
end
section
variable {X:Cx} {a b e:Expr} {ta tb te:TE} {pos:Pos}
theorem zau (lo hi:Option Int)(n:Nat):Builtin.Str.strSliceIndices lo hi 1 n=(List.range (HT.sIx n n hi - HT.sIx n 0 lo)).map (HT.sIx n 0 lo + ·):=by
 have h1:(match lo with | none=>(0:Int) | some i=>max 0 (min (if i<0 then i+(n:Int) else i) (n:Int)))=((HT.sIx n 0 lo:Nat):Int):=by
  cases lo with
  | none=>simp [HT.sIx]
  | some i=>
   simp only [HT.sIx]
   by_cases h:i<0
   ·simp only [h,UY];lia
   ·simp only [h,UP];lia
 have h2:(match hi with | none=>(n:Int) | some i=>max 0 (min (if i<0 then i+(n:Int) else i) (n:Int)))=((HT.sIx n n hi:Nat):Int):=by
  cases hi with
  | none=>simp [HT.sIx]
  | some i=>
   simp only [HT.sIx]
   by_cases h:i<0
   ·simp only [h,UY];lia
   ·simp only [h,UP];lia
 rw [← sliceRange_one,← h1,← h2]
 cases lo<;>cases hi<;>rfl
theorem Y7 (n:Nat)(hi:Option Int):HT.sIx n n hi<=n:=HT.sIx_le n n (uf _) hi
theorem sl_S:SlR X (fun x lo hi H Q=>∃ l,x=.str (S l)/\l.length<=sizeLine/\Q (.str (S (cutN l lo hi))) H):=by
 intro pins s σ H x v vl vu lo hi sl Q I rx hs pl pu h
 obtain⟨l,rfl,hz,q⟩:=h
 obtain⟨t,rfl⟩:=rx
 refine⟨"str",_,F.slot_str_getitem.lookup,typeIs_str s _ t,?_⟩
 obtain⟨pl',el⟩:∃ p,vl=partValue p/\p.map (·.1)=lo:=by
  cases pl with
  | none=>exact⟨none,rfl,rfl⟩
  | int i t=>exact⟨some (i,t),rfl,rfl⟩
 obtain⟨pu',eu⟩:∃ p,vu=partValue p/\p.map (·.1)=hi:=by
  cases pu with
  | none=>exact⟨none,rfl,rfl⟩
  | int i t=>exact⟨some (i,t),rfl,rfl⟩
 have hsl:s.heap.IsSlice sl pl' pu' none:=by
  obtain⟨o,h1,h2,h3⟩:=hs
  exact⟨o,h1,h2,by rw [h3,el.1,eu.1];rfl⟩
 refine wpAny_getItem_str_slice hsl rfl ?_
 unfold sliceMade slicePicked
 refine post_val_or_made (fun _=>?_) fun t' k=>?_
 ·rw [el.2,eu.2,Option.map_none,U3,zau,jf]
  have e:((List.range (HT.sIx l.length l.length hi - HT.sIx l.length 0 lo)).map (HT.sIx l.length 0 lo + ·)).filterMap ((S l).cps[·]?)=cutN l lo hi:=by
   rw [pick_run];rfl
  rw [e]
  show(S (cutN l lo hi)).length<=sizeLine
  rw [jf]
  unfold cutN
  rw [Uc,u6]
  lia
 ·refine⟨.str _,H,I.tok _,⟨_,rfl⟩,?_⟩
  rw [el.2,eu.2,Option.map_none,U3,zau,jf]
  have e:((List.range (HT.sIx l.length l.length hi - HT.sIx l.length 0 lo)).map (HT.sIx l.length 0 lo + ·)).filterMap ((S l).cps[·]?)=cutN l lo hi:=by
   rw [pick_run];rfl
  rw [e]
  split
  ·rename_i hc
   have hc':HT.sIx l.length l.length hi - HT.sIx l.length 0 lo=l.length:=by
    simpa using hc
   have h2:=Y7 l.length hi
   have e2:cutN l lo hi=l:=by
    unfold cutN
    have h3:HT.sIx l.length 0 lo=0:=by
     by_cases hl:l.length=0
     ·have:=HT.sIx_le l.length 0 (uF _) lo;lia
     ·lia
    rw [hc',h3,gr,U4]
   rw [e2] at q
   exact q
  ·exact q
theorem Z1:∀ {ts:Lh} {us:Lf},Vals (ts.map V.str) us->StrsAre us ts
 | [],_,r=>by rw [Uy] at r;cases r;exact .nil
 | t::ts,_,r=>by
  rw [ur] at r
  cases r with
  | cons r1 r2=>
   obtain⟨k,e⟩:=r1
   subst e
   exact .cons t k (Z1 r2)
theorem zav:∀ ls:List (Lc),Str.join (S []) (ls.map S)=S ls.flatten
 | []=>rfl
 | [x]=>by simp [Str.join]
 | x::y::r=>by
  show S x++S []++Str.join (S []) ((y::r).map S)=_
  rw [zav (y::r),S_app,S_app,uw]
  rfl
noncomputable def rJoin (K:Le):V->List V->Hp->VK->Prop:=fun x vs H Q=>∃ (D:Addr) (ls:List (Lc)),x=.str (S [])/\vs=[.ref D]/\SqL K H D (ls.map fun l=>V.str (S l))/\ls.flatten.length<=16777216/\Q (.str (S ls.flatten)) H
theorem zaw:MtR X "str.join" (rJoin X.K):=by
 intro pins s σ H x xs v us Q I rx rs h
 obtain⟨D,ls,rfl,rfl,hq,hz,q⟩:=h
 obtain⟨t,rfl⟩:=rx
 obtain⟨u,rfl,ru⟩:=vals1 rs
 cases ru
 obtain⟨its,rv,p,_⟩:=I.list hq
 have rv':Vals ((ls.map S).map V.str) its:=by rw [Uz];exact rv
 refine join_list p.isList (by simpa using Z1 rv') ?_ fun t' k=>⟨.str (S ls.flatten),H,I.tok _,⟨t',?_⟩,q⟩
 ·have e:((ls.map S).map (·.length)).sum=ls.flatten.length:=by
   rw [Uz,List.length_flatten]
   congr 1
   try (apply u9;intro l _;exact jf l)
  have e2:(S []).length=0:=rfl
  rw [e,e2]
  lia
 ·show Value.str (Builtin.Str.glued (S []) (ls.map S)) t' = _
  rw [StrLaws.glued_eq_join,zav]
noncomputable def dg (n:Nat):Lc:=if n<10 then [48+n] else [48+n / 10,48+n % 10]
theorem JT:∀ d:Nat,d<10->(Nat.digitChar d).toNat=48+d:=by decide
theorem zeX {n:Nat}(h:n<100):(PySem.Str.ofString (toString ((n:Nat):Int)))=S (dg n):=by
 have e:=PySem.W.KIN.signs_num n
 have e2:(Nat.toDigits 10 n).map Char.toNat=dg n:=by
  unfold dg
  by_cases h1:n<10
  ·rw [U5 h1,uA h1,UG,JT n h1]
  ·have t:Nat.toDigits 10 (n / 10)++Nat.toDigits 10 (n % 10)=Nat.toDigits 10 (10 * (n / 10)+n % 10):=Nat.toDigits_append_toDigits (by decide) (by lia) (by lia)
   rw [Nat.div_add_mod] at t
   rw [← t,U5 (by lia:n / 10<10),U5 (by lia:n % 10<10),uq h1,uD,UG,UG,JT _ (by lia),JT _ (by lia)]
   rfl
 rw [← S_of (PySem.Str.ofString _),e,e2]
theorem Y8 {i:Int}(h0:0<=i)(h1:i<1000000):i.natAbs.log2<1920:=by
 have:i.natAbs<2 ^ 20:=by lia
 by_cases hz:i.natAbs=0
 ·rw [hz];decide
 ·have:=(Nat.log2_lt hz).mpr this
  lia
theorem Y9:qF X (.type "str") (fun xs H Q=>∃ n:Nat,xs=[.int n]/\n<100/\Q (.str (S (dg n))) H):=by
 intro pins s σ H xs us Q I r h
 obtain⟨n,rfl,hn,q⟩:=h
 refine JL pins s σ H _ us Q I r ⟨n,rfl,Y8 (by lia) (by lia),?_⟩
 have e:(↑(toString (n:Int)):Str)=S (dg n):=zeX hn
 rw [e]
 exact q
noncomputable def dg2 (n:Nat):Lc:=[48+n / 10,48+n % 10]
theorem zax {n:Nat}(h:n<100):Txt.zfill (S (dg n)) 2=S (dg2 n):=by
 have all:∀ n:Fin 100,Txt.zfill (S (dg n.val)) 2=S (dg2 n.val):=by decide +kernel
 exact all ⟨n,h⟩
noncomputable def zeY:V->List V->Hp->VK->Prop:=fun x vs H Q=>∃ n:Nat,x=.str (S (dg n))/\vs=[.int 2]/\n<100/\Q (.str (S (dg2 n))) H
theorem Ka:MtR X "str.zfill" zeY:=by
 intro pins s σ H x xs v us Q I rx rs h
 obtain⟨n,rfl,rfl,hn,q⟩:=h
 obtain⟨t,rfl⟩:=rx
 obtain⟨u,rfl,t',rfl⟩:=vals1 rs
 refine SC.zfill (by decide +kernel) fun t' k=>⟨.str (S (dg2 n)),H,I.tok _,⟨t',?_⟩,q⟩
 rw [zax hn]
noncomputable def W0 (c:Nat):Bool:=48<=c&&c<=57
theorem Kb:qF X (.type "int") (fun xs H Q=>∃ c d:Nat,xs=[.str (S [c,d])]/\W0 c=true/\W0 d=true/\Q (.int (((c - 48) * 10+(d - 48):Nat):Int)) H):=by
 intro pins s σ H xs us Q I r h
 obtain⟨c,d,rfl,hc,hd,q⟩:=h
 obtain⟨u,rfl,t,rfl⟩:=vals1 r
 unfold W0 at hc hd
 simp only [uI,decide_eq_true_eq] at hc hd
 have hn:PySem.intText? (S [c,d])=some (((c - 48) * 10+(d - 48):Nat):Int):=by
  rw [intText_digits (x:=S [c,d]) (fun z hz=>?_) (by simp [S]) (by rw [jf];show 2<=4300;decide)]
  ·rw [zas]
   simp [NumText.digitsVal]
  ·rw [zas] at hz
   simp at hz
   rcases hz with rfl | rfl
   ·exact hc
   ·exact hd
 exact PySem.W.KIN.call_text hn (by rw [jf];show 2<=640;decide) ⟨.int _,H,I.tok _,⟨_,rfl⟩,q⟩
end
structure OkF (P:Program)(w:World)(K:Le)(mg:La)(base:Heap)(k:Nat)(x:Str)(ps:Lh)(sp:Sp):Prop where
 ex:∃ (f:Addr) (fd:FuncData),PySem.W.keepIn K (.ref f)=true/\Binds K fd ps []/\(mg x=some (.ref f)/\∃ oc od osl,K.lookup f=some ⟨oc,od,.func fd,osl⟩)/\FnOk P w K mg base CX0 k f fd ps sp
structure Df (K:Le)(mg:La)(x:Str)(st:Stmt)(ps:Lh):Prop where
 ex:∃ (f:Addr) (fd:FuncData),Fun K x x st f fd/\Binds K fd ps []/\mg x=some (.ref f)
section
variable {P:Program} {w:World} {K:Le} {mg:La} {base:Heap}
theorem Df.ok {x:Str}{st:Stmt}{ps N:Lh}{k:Nat}{sp:Sp}(D:Df K mg x st ps)(Sc:zi N ps (zb st))(len:∀ vs H Q E,sp vs H Q E->vs.length=ps.length)
  (hbody:∀ (f:Addr) (cdv:Value) (A:Around) (outer:List Env) (s:Shared) (H:Hp) (vs:List V) (Q:VK) (E:XK),Room k (A.deeper (envOfC x (zb st) s.heap.objs.size f cdv))->sp vs H Q E ->
   ∃ t,PSs (cxOf CX0 P w K mg base N x (zb st) f cdv A outer s H E).nox (zf st) t/\t { nx:=fun _ H'=>Q .non H',rt:=Q } (start N vs) H):OkF P w K mg base (k+1) x ps sp:=by
 obtain⟨f,fd,F,b,m⟩:=D.ex
 refine⟨f,fd,F.kp,b,⟨m,?_⟩,F.ok Sc len (fun cdv A outer s H vs Q E hr h=>hbody f cdv A outer s H vs Q E hr h)⟩
 obtain⟨oc,od,kV,doc,pm,an,cdv,ct,osl,rfl,lk,hcd⟩:=F.ex
 exact⟨oc,od,osl,lk⟩
end
section
variable {P:Program} {w:World} {K:Le} {mg:La} {base:Heap}
theorem zhc {h:Heap}{x:Str}{st:Stmt}{ps:Lh}{f:Addr}{oc:Value}{od an:Option Addr}{osl:Array (Option Value)}{kV doc pm cdv ct:Value}(X:K.In h)(G:h.Ns mainGlobals mg)
  (b:∀ (kV doc pm:Value) (an:Option Addr) (cdv ct:Value) (us:Lf),us.length=ps.length->bindArgs (PySem.W.fnOf x x (q9 st) (zf st) (zb st) .none kV doc pm an cdv ct) ⟨us,[]⟩=pure (ps.zip us))
  (a:PySem.W.nsIn K mainGlobals x=some (some (.ref f))) (l:K.lookup f=some ⟨oc,od,.func (PySem.W.fnOf x x (q9 st) (zf st) (zb st) .none kV doc pm an cdv ct),osl⟩)
  (c:PySem.W.codeIn K cdv x=true) (k:PySem.W.keepIn K (.ref f)=true):Df K mg x st ps:=
 ⟨f,_,kG l c k,(kG l c k).binds b,Ua X G a⟩
theorem zeZ {st:Stmt}{x:Str}{k:Nat}{fa:Addr}{sp:Sp}(D:Df K mg "law" st [x])(hfa:mg "law" = some (.ref fa))
  (hb:∀ (kV doc pm:Value) (an:Option Addr) (cdv ct:Value) (s:Shared) (u:Value),BindsTo s (PySem.W.fnOf "law" "law" (q9 st) (zf st) (zb st) .none kV doc pm an cdv ct) ⟨[u],[]⟩ [(x,u)])
  (F:∀ base:Heap,OkF P w K mg base k "law" [x] sp) :
  ∃ fd:FuncData,(∀ (s:Shared) (v:Value),BindsTo s fd ⟨[v],[]⟩ [(x,v)])/\∀ base:Heap,K.In base->base.Ns mainGlobals mg->FnOk P w K mg base CX0 k fa fd [x] sp:=by
 obtain⟨f,fd,G,b,m⟩:=D.ex
 have e:f=fa:=by rw [hfa] at m;cases m;rfl
 subst e
 obtain⟨oc,od,kV,doc,pm,an,cdv,ct,osl,rfl,lk,hcd⟩:=G.ex
 refine⟨_,fun s v=>hb kV doc pm an cdv ct s v,fun base _ _=>?_⟩
 obtain⟨f',fd',_,_,⟨m',oc',od',osl',lk'⟩,ok⟩:=(F base).ex
 have e:f' = f:=by rw [hfa] at m';cases m';rfl
 subst e
 rw [lk] at lk'
 cases lk'
 exact ok
end
section
variable {X:Cx} {k j:Nat} {x:Str} {ps:Lh} {sp:Sp} {p pos:Pos} {e:Expr} {es:Lg} {t:TA}
theorem zdP {v:V}{pos:Pos}(h:∃ u,X.mg x=some u/\RelV v u)(hg:Gl X x:=by rfl) (hd:(x == ("__debug__":Str))=false:=by decide):PE X (.Name x pos) (tC v):=by
 obtain⟨u,m,r⟩:=h
 exact zch hg m r hd
theorem kH {v:V}{u:Value}{pos:Pos}(hm:X.mg x=none)(hv:bootBuiltins x=some u)(r:RelV v u)(hg:Gl X x:=by rfl) (hn:x≠"__name__":=by decide) (hd:(x == ("__debug__":Str))=false:=by decide):PE X (.Name x pos) (tC v):=
 zci hg hm hv r hn hd
theorem W2:qF X (.builtin "isinstance") (fun xs H Q=>∃ x n t b,xs=[x,.ty n]/\TyOf X.K H x t/\PySem.W.kitOne X.K t (.type n)=some b/\Q (.bl b) H):=by
 intro pins s σ H xs us Q I r h
 obtain⟨x,n,t,b,rfl,ty,e,q⟩:=h
 obtain⟨u,w',rfl,rx,ry⟩:=vals2 r
 cases ry
 exact Je I rx ty e fun tk=>⟨.bl b,H,I.tok _,rfl,q⟩
section
variable {K:Le} {o:Expr} {to:TE} {name:Str} {apos cpos:Pos} {T id:String} {r:V->List V->Hp->VK->Prop}
theorem xH (hK:X.K=K)(pa:PlainAttrs T)(slot:Slot T name id)(hty:typeOf (.builtin id)=pure (.type "method_descriptor"))(hm:MtR X id r)(ho:PE X o to)(ha:PA X (e::es) t)
  (hbase:attributeBase o name X.env (eval o X.env)=eval o X.env:=by rfl)
  (hfew:((backTo cpos (starEach (e::es) X.env)).all (fun x=>!x.1)&&(backToKw cpos (keywordEach [] X.env)).all (fun x=>x.1.isSome)
   && decide ((e::es).length+([]:List Keyword).length+(if ([]:List Keyword).isEmpty then 0 else 1)<30))=true:=by rfl)
  (hline:(apos.endLine == cpos.line)=true:=by rfl) (hs:starEach (e::es) X.env=(false,eval e X.env)::starEach es X.env:=by rfl) (hplain:(backTo cpos (starEach es X.env)).any (·.1)=false:=by rfl) :
  PE X (.Call (.Attribute o name apos) (e::es) [] cpos) (tBM K T r to t):=by
 subst hK
 exact zg9 pa slot hty hm ho ha hbase hfew hline hs hplain
theorem Kc (hK:X.K=K):MtR X "str.join" (rJoin K):=by subst hK;exact zaw
theorem zay (hK:X.K=K):IxR X (rIxL K):=by subst hK;exact zcw
theorem zcD (hK:X.K=K):IxR X (rIxT K):=by subst hK;exact zeS
noncomputable def zhd (K:Le):List V->Hp->VK->Prop:=fun xs H Q=>∃ p ys,xs=[.ref p]/\(SqL K H p ys\/SqT K H p ys)/\Q (.int ys.length) H
theorem Vc (hK:X.K=K):qF X (.builtin "len") (zhd K):=by subst hK;exact JQ
theorem zaz (hK:X.K=K):SlR X (rSlL K):=by subst hK;exact zcx
end
end
theorem ze0:bootBuiltins "len" = some (.builtin "len"):=by decide +kernel
theorem ze1:bootBuiltins "max" = some (.builtin "max"):=by decide +kernel
theorem ze2:bootBuiltins "min" = some (.builtin "min"):=by decide +kernel
theorem zaA:bootBuiltins "str" = some (.type "str"):=by decide +kernel
theorem zaB:bootBuiltins "int" = some (.type "int"):=by decide +kernel
theorem zcE:bootBuiltins "bool" = some (.type "bool"):=by decide +kernel
theorem xb:bootBuiltins "isinstance" = some (.builtin "isinstance"):=by decide +kernel
noncomputable def sg:Lc:=[32,33,34,35,36,38,39,40,41,42,43,44,45,46,47,48,49,50,51,52,53,54,55,56,57,58,59,60,61,62,63,64,65,66,67,68,69,70,71,72,73,74,75,76,77,78,79,80,81,82,83,84,85,86,87,88,89,90,91,92,93,94,95,96,97,98,99,100,101,102,103,104,105,106,107,108,109,110,111,112,113,114,115,116,117,118,119,120,121,122,123,124,125,126]
noncomputable def ix (c:Nat):Nat:=sg.idxOf c
theorem xq {H:Hp}{a:Addr}{o:HO}(h:H a=none):Same H (upd H a o):=fun b u e=>by rw [zP (jO e h)];exact e
theorem VR {i j:Int}(h:-(2 ^ 64)<j/\j<2 ^ 64):IntMulOk i j:=CMul.ok (.inr h)
noncomputable def st1 (sh:Lc)(c:Nat):Lc:=if c=92\/c∈sh then [92,c] else [c]
noncomputable def ws:Lc:=[97,98,99,100,101,102,103,104,105,106,107,108,109,110,111,112,113,114,115,116,117,118,119,120,121,122,48,49,50,51,52,53,54,55,56,57,45]
def Fly (h:Heap)(e T:Addr)(cls:Value)(d:Option Addr)(fl:Value):Prop:=
 ∃ sl vs oT ts,h.get? e=some ⟨cls,d,.fields vs,sl⟩/\vs[1]? = some (.ref T)/\T≠e/\h.get? T=some oT/\oT.data=.fields ts/\ts[3]? = some fl
structure Kp (ch fs:Ld)(h h':Heap):Prop where
 keep:∀ b o,b∉ch->b∉fs->h.get? b=some o->h'.get? b=some o
 slot:∀ b o,b∉ch->h.get? b=some o->∃ sl,h'.get? b=some { o with slots:=sl }
section
variable {M:Model} {A:Around} {E:Value->Shared->Prop} {s:Shared}
theorem Jm {base:Heap}{env:Env}{outer:List Env}{L e:Addr}{cls head:Value}{d:Option Addr}{vs:Array Value}{sl:Array (Option Value)}{nx:Bool}{Q:Unit->Shared->Prop}
  (hfr:A.frames=some (env::outer)) (hl:s.heap.FunFrames base (env::outer)) (hf:env.frame=some L) (he:s.heap.get? e=some ⟨cls,d,.fields vs,sl⟩) (hv:1<vs.size)
  (k:∀ h' T,s.heap.objs.size<=T->Fly h' e T cls d (rawInt L)->Kp [e] (frs (env::outer)) s.heap h'->Q () { s with heap:=h' }) :
  wpAny M A (do let a ← frameOf env;let pl ← entryPlaceOf L nx;let b ← EntryCells.newEntry head a .none (rawInt L) .none pl;setField (.ref e) 1 b) Q E s:=by
 have ne:e∉(env::outer).filterMap (·.frame):=fun hm=>by
  obtain⟨_,o,ho,hn⟩:=hl.mem hm
  rw [he] at ho
  cases ho
  exact hn vs rfl
 refine wpAny_bind (wpAny_frameOf_fun hfr hl hf fun g hg=>wpAny_bind (wpAny_entryPlaceOf fun pl hpl=>?_))
 have e1:g.get? e=some ⟨cls,d,.fields vs,sl⟩:=(hg.2.1 e ne).trans he
 unfold EntryCells.newEntry newFields
 refine wpAny_bind (wpAny_newObj_type ?_ (hpl.sizeOk5 _ _ _ _ _))
 generalize hT:({ cls:=.type "traceback",dict:=none,data:=.fields ([head,.ref L,.none,rawInt L,.none]++(if pl.isEmpty then List.replicate 6 Value.none else pl)).toArray }:Obj)=tb
 have e2:=Heap.get?_push_of_some (h:=g) tb e1
 have tn:g.objs.size≠e:=gE (Heap.lt_size e1)
 refine wpAny_setField e2 rfl hv (k _ g.objs.size ?_ ?_ ?_)
 ·rw [hg.1];exact uf _
 ·refine⟨sl,_,tb,([head,.ref L,.none,rawInt L,.none]++(if pl.isEmpty then List.replicate 6 Value.none else pl)).toArray,Heap.get?_update_self _ e2 (by rfl),by simp [hv],tn,?_,by rw [← hT],by simp⟩
  rw [Heap.get?_update_other _ _ (Ne.symm tn)]
  exact Heap.get?_push_size g (by rw [← hT];rfl)
 ·refine⟨fun b o hb hfs q=>?_,fun b o hb q=>?_⟩
  ·have hbe:b≠e:=fun z=>hb (by simp [z])
   rw [Heap.get?_update_other _ _ (Ne.symm hbe)]
   exact Heap.get?_push_of_some _ ((hg.2.1 b hfs).trans q)
  ·have hbe:b≠e:=fun z=>hb (by simp [z])
   obtain⟨sl',q'⟩:=hg.2.2 b o q
   refine⟨sl',?_⟩
   rw [Heap.get?_update_other _ _ (Ne.symm hbe)]
   exact Heap.get?_push_of_some _ q'
theorem Vd {base:Heap}{env:Env}{outer:List Env}{L e:Addr}{cls:Value}{d:Option Addr}{vs:Array Value}{sl:Array (Option Value)}{Q:Unit->Shared->Prop}
  (hfr:A.frames=some (env::outer)) (hl:s.heap.FunFrames base (env::outer)) (hf:env.frame=some L) (he:s.heap.get? e=some ⟨cls,d,.fields vs,sl⟩) (hv:vs[1]? = some .none)
  (k:∀ h' T,s.heap.objs.size<=T->Fly h' e T cls d (rawInt L)->Kp [e] (frs (env::outer)) s.heap h'->Q () { s with heap:=h' }):wpAny M A (noteFrame (.ref e) env) Q E s:=by
 unfold noteFrame
 simp only [hf]
 refine wpAny_bind (wpAny_field he rfl hv ?_)
 rw [uq (by decide)]
 exact Jm hfr hl hf he (Ud.mp hv).1 k
theorem Ke {base:Heap}{env:Env}{outer:List Env}{L e T:Addr}{cls:Value}{d:Option Addr}{Q:Unit->Shared->Prop}
  (hfr:A.frames=some (env::outer)) (hl:s.heap.FunFrames base (env::outer)) (hf:env.frame=some L) (F:Fly s.heap e T cls d .none)
  (k:∀ h' T',s.heap.objs.size<=T'->Fly h' e T' cls d (rawInt L)->Kp [T,e] (frs (env::outer)) s.heap h'->Q () { s with heap:=h' }):wpAny M A (noteFrame (.ref e) env) Q E s:=by
 obtain⟨sl,vs,oT,ts,he,hv,tn,hT,hd,h3⟩:=F
 unfold noteFrame
 simp only [hf]
 refine wpAny_bind (wpAny_field he rfl hv ?_)
 rw [uA (show(Value.ref T != Value.none)=true by simp)]
 refine wpAny_bind (wpAny_field hT hd h3 ?_)
 rw [uq (show ¬ (Value.none == rawInt L)=true by simp [rawInt])]
 refine wpAny_bind (wpAny_setField hT hd (Ud.mp h3).1 ?_)
 have oth:∀ b,b≠T->(s.heap.update T (Obj.mapFields (·.setIfInBounds 3 Value.none))).get? b=s.heap.get? b:=fun b hb=>Heap.get?_update_other _ _ (Ne.symm hb)
 have nT:∀ b o,s.heap.get? b=some o->(∀ ws,o.data≠.fields ws)->b≠T:=fun b o q hn z=>by
  rw [z,hT] at q
  cases q
  exact hn ts hd
 have hsz:(s.heap.update T (Obj.mapFields (·.setIfInBounds 3 Value.none))).objs.size=s.heap.objs.size:=(Heap.SameBut.update s.heap T _).1
 refine Jm (base:=base) hfr (hl.of_keeps fun b o q hn=>⟨o,(oth b (nT b o q hn)).trans q,rfl⟩) hf ((oth e (Ne.symm tn)).trans he) (Ud.mp hv).1 fun h' T' g1 g2 g3=>?_
 refine k h' T' (by rw [← hsz];exact g1) g2 ⟨fun b o hb hfs q=>?_,fun b o hb q=>?_⟩
 ·exact g3.keep b o (fun z=>hb (uk _ z)) hfs ((oth b fun z=>hb (by simp [z])).trans q)
 ·exact g3.slot b o (fun z=>hb (uk _ z)) ((oth b fun z=>hb (by simp [z])).trans q)
theorem Z2 {e T:Addr}{cls fl:Value}{d:Option Addr}{Q:Unit->Shared->Prop}(F:Fly s.heap e T cls d fl)(k:∀ h',Fly h' e T cls d .none->Kp [T] [] s.heap h'->h'.objs.size=s.heap.objs.size->Q () { s with heap:=h' }):wpAny M A (setFlight (.ref e) none) Q E s:=by
 obtain⟨sl,vs,oT,ts,he,hv,tn,hT,hd,h3⟩:=F
 have h3':=(Ud.mp h3).1
 unfold setFlight
 refine wpAny_bind (wpAny_field he rfl hv ?_)
 rw [uA (show(Value.ref T != Value.none)=true by simp)]
 have oth:∀ b,b≠T->(s.heap.update T (Obj.mapFields (·.setIfInBounds 3 Value.none))).get? b=s.heap.get? b:=fun b hb=>Heap.get?_update_other _ _ (Ne.symm hb)
 refine wpAny_setField hT hd h3' (k _ ⟨sl,vs,_,_,(oth e (Ne.symm tn)).trans he,hv,tn,Heap.get?_update_self _ hT (Obj.isFreed_of_fields (Obj.data_mapFields hd _)),Obj.data_mapFields hd _,by simp [h3']⟩ ?_ (Heap.SameBut.update s.heap T _).1)
 exact⟨fun b o hb _ q=>(oth b fun z=>hb (by simp [z])).trans q,fun b o hb q=>⟨o.slots,(oth b fun z=>hb (by simp [z])).trans q⟩⟩
theorem W3 {base:Heap}{env:Env}{outer:List Env}{L e:Addr}{cls:Value}{d:Option Addr}{vs:Array Value}{sl:Array (Option Value)}{Q:Unit->Shared->Prop}
  (hfr:A.frames=some (env::outer)) (hl:s.heap.FunFrames base (env::outer)) (hf:env.frame=some L) (he:s.heap.get? e=some ⟨cls,d,.fields vs,sl⟩) (hv:vs[1]? = some .none)
  (k:∀ h' T,s.heap.objs.size<=T->Fly h' e T cls d .none->Kp [e] (frs (env::outer)) s.heap h'->Q () { s with heap:=h' }):wpAny M A (leaving env (.ref e)) Q E s:=by
 unfold leaving
 refine wpAny_bind (Vd hfr hl hf he hv fun h1 T g1 g2 g3=>Z2 (s:={ s with heap:=h1 }) g2 fun h2 f1 f2 f3=>k h2 T g1 f1 ⟨fun b o hb hfs q=>?_,fun b o hb q=>?_⟩)
 all_goals
  have hbT:b≠T:=fun z=>absurd (Heap.lt_size q) (by rw [z];exact Nat.not_lt.mpr g1)
 ·exact f2.keep b o (by simpa using hbT) (by simp) (g3.keep b o hb hfs q)
 ·obtain⟨sl',q'⟩:=g3.slot b o hb q
  obtain⟨sl2,q2⟩:=f2.slot b _ (by simpa using hbT) q'
  exact⟨sl2,q2⟩
theorem Ve {base:Heap}{env:Env}{outer:List Env}{L e T:Addr}{cls:Value}{d:Option Addr}{Q:Unit->Shared->Prop}
  (hfr:A.frames=some (env::outer)) (hl:s.heap.FunFrames base (env::outer)) (hf:env.frame=some L) (F:Fly s.heap e T cls d .none)
  (k:∀ h' T',s.heap.objs.size<=T'->Fly h' e T' cls d .none->Kp [T,e] (frs (env::outer)) s.heap h'->Q () { s with heap:=h' }):wpAny M A (leaving env (.ref e)) Q E s:=by
 unfold leaving
 refine wpAny_bind (Ke hfr hl hf F fun h1 T' g1 g2 g3=>Z2 (s:={ s with heap:=h1 }) g2 fun h2 f1 f2 f3=>k h2 T' g1 f1 ⟨fun b o hb hfs q=>?_,fun b o hb q=>?_⟩)
 all_goals
  have hbT:b≠T':=fun z=>absurd (Heap.lt_size q) (by rw [z];exact Nat.not_lt.mpr g1)
 ·exact f2.keep b o (by simpa using hbT) (by simp) (g3.keep b o hb hfs q)
 ·obtain⟨sl',q'⟩:=g3.slot b o hb q
  obtain⟨sl2,q2⟩:=f2.slot b _ (by simpa using hbT) q'
  exact⟨sl2,q2⟩
end
end L2
namespace L2
open PySem PySem.Spec PySem.Calls PyProof.Rows PySem.W
noncomputable abbrev vBM:Lf:=[.type "ValueError",.type "Exception",.type "BaseException",.type "object"]
noncomputable def ze3 (K:Frag)(C:Addr):Bool:=match K.lookup C with
 | none=>false
 | some o=>o.cls == .type "type"&&match o.data with
  | .cls c=>(match c.mro,o.slots.toList with | .ref B::m,[_,_,_,_,some (.builtin n),_]=>B == C&&n == "ValueError.__new__"&&!c.hasDel&&tailIn K vBM m&&nsOkIn K c.ns | _,_=>false)
  | _=>false
section
variable {prog:Program} {w:World} {A:Around} {E:Value->Shared->Prop} {K:Frag} {C:Addr}
end
end L2
namespace L2
open PySem PySem.Spec PySem.Calls PyProof.Rows PySem.W Builtin Builtin.ObjectAttr
section
variable {prog:Program} {w:World} {A:Around} {E:Value->Shared->Prop} {K:Frag} {C x:Addr} {s:Shared}
end
structure XCl (K:Frag)(C:Addr):Prop where
 sh:ze3 K C=true
 hd:hasDictIn K C=true
 ga:findIn K (.ref C) "__getattribute__" = some (some (.builtin "BaseException.__getattribute__"))
 gt:findIn K (.ref C) "__getattr__" = some none
 sa:findIn K (.ref C) "__setattr__" = some (some (.builtin "object.__setattr__"))
 ca:findIn K (.ref C) "__class__" = some (some (.builtin "object.__class__"))
 cg:specialIn K (.builtin "object.__class__") "__get__" = some (some (.builtin "getset_descriptor.__get__"))
 ct:takesIn K (.builtin "object.__class__")=some true
section
variable {prog:Program} {w:World} {A:Around} {E:Value->Shared->Prop} {K:Frag} {C x:Addr} {s:Shared} {ox:Obj} {od:Option Obj} {name:Str} {tk:Tok} {fill expr:Bool}
end
end L2
namespace L2
open PySem PySem.Spec PyProof.Rows
noncomputable abbrev XS:=Value->Option Addr->St->Hp->Prop
def Nw (h:Heap)(e:Addr)(c:Value)(d:Option Addr):Prop:=∃ sl vs,h.get? e=some ⟨c,d,.fields vs,sl⟩/\vs[1]? = some .none
def Fl (X:Cx)(E:XS)(e:Value)(s':Shared):Prop:=∃ (ea:Addr) (c:Value) (d:Option Addr) (H':Hp) (pins:List (Addr×Obj)) (σ:St),e=.ref ea/\Inv X pins σ H' s'/\X.s₀.heap.objs.size<=ea/\H' ea=none/\(∀ q∈X.pn,q.1≠ea) /\
 (Nw s'.heap ea c d\/∃ T,Fly s'.heap ea T c d .none/\X.s₀.heap.objs.size<=T/\H' T=none/\∀ q∈X.pn,q.1≠T)/\E c d σ H'
def Thr (X:Cx)(E:XS):Prop:=∀ e s',Fl X E e s'->X.xe e s'
noncomputable def CXE (P:Program)(w:World):CXT:=fun outer H s E e s'=>∃ (ea T:Addr) (c:Value) (d:Option Addr) (H':Hp),e=.ref ea/\s.heap.objs.size<=ea/\s.heap.objs.size<=T/\Fly s'.heap ea T c d .none/\H' ea=none/\H' T=none /\
 s'.os=s.os/\AllBare s'.gens/\Un (frs outer) [] H H' s.heap s'.heap/\HOk P w H' s'.heap/\E c d H'
section
variable {X:Cx} {pins:List (Addr×Obj)} {σ:St} {H:Hp} {s s':Shared}
theorem Un.kp {fs fs' ch:Ld}{H H':Hp}{h h1 h2:Heap}(u:Un fs [] H H' h h1)(k:Kp ch fs' h1 h2)(hc:∀ b∈ch,h.objs.size<=b)(hf:∀ b∈fs',b∈fs\/h.objs.size<=b):Un fs [] H H' h h2:=by
 have nc:∀ b o,h.get? b=some o->b∉ch:=fun b o q z=>absurd (uE (Heap.lt_size q) (hc b z)) (u4 _)
 refine⟨fun b o q n hb _=>?_,fun b o q n hb _=>?_,u.free,fun b o q _=>?_,u.tups,u.frzs,u.tbls⟩
 ·refine k.keep b o (nc b o q) (fun z=>?_) (u.keep b o q n hb (by simp))
  rcases hf b z with z | z
  ·exact hb z
  ·exact absurd (uE (Heap.lt_size q) z) (u4 _)
 ·obtain⟨sl,e1⟩:=u.slot b o q n hb (by simp)
  obtain⟨sl',e2⟩:=k.slot b _ (nc b o q) e1
  exact⟨sl',e2⟩
 ·obtain⟨o',e1⟩:=u.there b o q (by simp)
  obtain⟨sl',e2⟩:=k.slot b _ (nc b o q) e1
  exact⟨_,e2⟩
theorem HOk.kp {P:Program}{w:World}{fs ch:Ld}{h1 h2:Heap}(x:HOk P w H h1)(k:Kp ch fs h1 h2)(hc:∀ b∈ch,H b=none)(hf:∀ b∈fs,H b=none):HOk P w H h2:=fun a o q=>
 (x a o q).stay (fun b u hb z=>by
  have t:∃ v,H b=some v:=by
   rcases hb with rfl | hb
   ·exact⟨o,q⟩
   ·exact⟨_,hb⟩
  obtain⟨v,t⟩:=t
  exact k.keep b u (fun y=>by rw [hc b y] at t;cases t) (fun y=>by rw [hf b y] at t;cases t) z) (fun _ z=>z) fun _ _ z=>z
theorem Kf {P:Program}{w:World}{K:Le}{mg:La}{base:Heap}{N:Lh}{qual:Str}{scope:Scope}{f:Addr}{cd:Value}{A:Around}{outer:List Env}{s:Shared}{H:Hp}{E:XK} :
  Thr (cxOf (CXE P w) P w K mg base N qual scope f cd A outer s H E) (fun c d _ H'=>E c d H'):=by
 intro e s' hF
 obtain⟨ea,c,d,H',pins,σ,rfl,I,hea,hHe,_,hv,hE⟩:=hF
 have hst:(cxOf (CXE P w) P w K mg base N qual scope f cd A outer s H E).stack=(cxOf (CXE P w) P w K mg base N qual scope f cd A outer s H E).env::outer:=rfl
 have hfr:=I.ok.frames
 have hl:=I.stack
 have hsub:=I.stkSub
 have hfree:=I.stkFree
 rw [hst] at hfr hl hsub hfree
 have fin:∀ (h':Heap) (T:Addr) (ch:Ld),s'.heap.objs.size<=T->Fly h' ea T c d .none->Kp ch (frs ((cxOf (CXE P w) P w K mg base N qual scope f cd A outer s H E).env::outer)) s'.heap h'->(∀ b∈ch,s.heap.objs.size<=b/\H' b=none) ->
   CXE P w outer H s E (.ref ea) { s' with heap:=h' }:=fun h' T ch g1 g2 g3 g4=>by
  refine⟨ea,T,c,d,H',rfl,hea,uN I.sz g1,g2,hHe,I.hok.fresh g1,I.os,I.bare,?_,I.hok.kp g3 (fun b hb=>(g4 b hb).2) hfree,hE⟩
  refine Un.kp (fs:=frs outer) I.base g3 (fun b hb=>(g4 b hb).1) fun b hb=>?_
  rcases uh.mp (hsub b hb) with z | z
  ·rw [z];exact .inr I.ok.above
  ·exact .inl z
 rcases hv with⟨sl,vs,he,h1⟩ | ⟨T0,hF,hT,hHT,_⟩
 ·exact W3 hfr hl rfl he h1 fun h' T g1 g2 g3=>fin h' T [ea] g1 g2 g3 fun b hb=>by
   obtain rfl:b=ea:=by simpa using hb
   exact⟨hea,hHe⟩
 ·exact Ve hfr hl rfl hF fun h' T g1 g2 g3=>fin h' T [T0,ea] g1 g2 g3 fun b hb=>by
   rcases uh.mp hb with z | z
   ·subst z;exact⟨hT,hHT⟩
   ·obtain rfl:b=ea:=by simpa using z
    exact⟨hea,hHe⟩
theorem VS {E:XS}{e:Value}(I:Inv X pins σ H s)(h:CXE X.prog X.w X.stack H s (fun c d H'=>E c d σ H') e s'):Fl X E e s':=by
 obtain⟨ea,T,c,d,H',rfl,h1,h2,hF,n1,n2,ho,hg,hu,hk,hE⟩:=h
 have np:∀ a,s.heap.objs.size<=a->∀ q∈X.pn,q.1≠a:=fun a z q hq y=>by
  have:=(I.pin q (uS _ hq)).1
  exact absurd (uE (Heap.lt_size this) (y ▸ z)) (u4 _)
 exact⟨ea,c,d,H',pins,σ,rfl,I.call' ho hu hk hg (fun b z=>absurd z (by simp)),uN I.sz h1,n1,np ea h1,.inr ⟨T,hF,uN I.sz h2,n2,np T h2⟩,hE⟩
end
structure OkX (P:Program)(w:World)(K:Le)(mg:La)(base:Heap)(k:Nat)(x:Str)(ps:Lh)(sp:Sp):Prop where
 ex:∃ (f:Addr) (fd:FuncData),PySem.W.keepIn K (.ref f)=true/\Binds K fd ps []/\mg x=some (.ref f)/\FnOk P w K mg base (CXE P w) k f fd ps sp
section
variable {P:Program} {w:World} {K:Le} {mg:La} {base:Heap}
theorem Df.okX {x:Str}{st:Stmt}{ps N:Lh}{k:Nat}{sp:Sp}(D:Df K mg x st ps)(Sc:zi N ps (zb st))(len:∀ vs H Q E,sp vs H Q E->vs.length=ps.length)
  (hbody:∀ (f:Addr) (cdv:Value) (A:Around) (outer:List Env) (s:Shared) (H:Hp) (vs:List V) (Q:VK) (E:XK),Room k (A.deeper (envOfC x (zb st) s.heap.objs.size f cdv))->sp vs H Q E ->
   ∃ t,PSs (cxOf (CXE P w) P w K mg base N x (zb st) f cdv A outer s H E) (zf st) t/\t { nx:=fun _ H'=>Q .non H',rt:=Q } (start N vs) H):OkX P w K mg base (k+1) x ps sp:=by
 obtain⟨f,fd,F,b,m⟩:=D.ex
 refine⟨f,fd,F.kp,b,m,?_⟩
 obtain⟨oc,od,kV,doc,pm,an,cdv,ct,osl,rfl,lk,hcd⟩:=F.ex
 exact zah lk hcd Sc len fun A outer s H vs Q E hr h=>hbody f cdv A outer s H vs Q E hr h
end
section
variable {X:Cx} {k j:Nat} {x:Str} {ps:Lh} {sp:Sp} {p pos:Pos} {e:Expr} {es:Lg} {t:TA} {E:XS}
noncomputable def Z3 (sp:Sp)(E:XS)(t:TA):TE:=fun σ H Q=>t σ H fun vs H1=>sp vs H1 Q fun c d H'=>E c d σ H'
theorem ZH {f:Addr}{fd:FuncData}{pins:List (Addr×Obj)}{σ:St}{H:Hp}{s:Shared}{Q:VK}{us:Lf}{vs:List V}(F:FnOk X.prog X.w X.K X.mg X.base (CXE X.prog X.w) k f fd ps sp)(hr:Room k X.A)(hb:Binds X.K fd ps [])(hx:Thr X E)
  (I:Inv X pins σ H s) (r:Vals vs us) (h:sp vs H Q fun c d H'=>E c d σ H'):wpAny (model X.prog X.w) X.A (call (.ref f) us) (EP X pins σ Q) X.xe s:=by
 have hl:(us++[]).length=ps.length:=by rw [uw,← r.length];exact F.len _ _ _ _ h
 have hb':=hb s us I.kIn hl
 rw [uw] at hb'
 refine wpAny_call (codeAny_mono (F.run X.A X.stack s H ⟨us,[]⟩ us vs Q (fun c d H'=>E c d σ H') hr I.env0 hb' r h) fun r s' hq=>?_)
 rcases r with e | (u | _ | _ | _)
 ·exact hx e s' (VS I hq)
 all_goals first | exact I.after hq | exact False.elim hq
theorem zaC (hx:Thr X E)(F:OkX X.prog X.w X.K X.mg X.base k x ps sp)(hr:Room j X.A)(hk:k<=j)(ha:PA X (e::es) t)(hg:Gl X x:=by rfl) (hdb:(x == ("__debug__":Str))=false:=by decide)
  (he:starEach (e::es) X.env=(false,eval e X.env)::starEach es X.env:=by rfl) (hpl:(backTo pos (starEach es X.env)).any (·.1)=false:=by rfl):PE X (.Call (.Name x p) (e::es) [] pos) (Z3 sp E t):=by
 intro pins s σ H Q I h
 obtain⟨f,fd,kp,b,m,G⟩:=F.ex
 refine wpAny_Call_Name_kw (yL I hg m ?_ hdb)
 refine gD (h₀:=X.base) I.ok.mod.kin kp (thn (ha pos pins s σ H _ I h) fun us s1 ⟨vs,H1,I1,r,q⟩=>⟨I1.kIn,?_⟩) he hpl
 exact ZH G (hr.mono hk) b hx I1 r q
end
end L2
namespace L2
open PySem PySem.Spec PyProof.Rows PySem.W
section
variable {P:Program} {w:World} {H:Hp} {h:Heap} {C d a:Addr}
end
section
variable {X:Cx} {C B:Addr} {b self name:Str} {e a1:Expr} {es:Lg} {te:TE} {t:TA} {np p1 apos cpos pos pos':Pos} {i:Nat}
end
section
variable {X:Cx} {E:XS} {C:Addr} {x f:Str} {pay:V->Prop} {e:Expr} {es:Lg} {t:TA} {np cpos pos:Pos} {j:Nat}
end
section
variable {X:Cx} {pins:List (Addr×Obj)} {σ:St} {H:Hp} {s:Shared}
end
def ze4 (H:Hp)(a C:Addr)(d:Option Addr):Prop:=∃ o,H a=some (.frz o (.own a))/\o.cls=.ref C/\o.dict=d/\∃ vs,o.data=.fields vs
section
variable {X:Cx} {Dc:Addr} {x n:Str} {i:Nat} {tb:XS->TS} {th:TS} {body suite:List Stmt} {b₀:Stmt} {np hpos pos:Pos}
end
structure Got (K:Frag)(H:Hp)(a C:Addr)(fs:List (Str×V)):Prop where
 cl:XCl K C
 ex:∃ d,ze4 H a C (some d)/\H d=some (.xd fs)
section
variable {X:Cx} {pins:List (Addr×Obj)} {σ:St} {H:Hp} {s:Shared} {a C:Addr} {fs:List (Str×V)}
end
section
variable {X:Cx}
end
section
variable {X:Cx} {k j:Nat} {x:Str} {ps:Lh} {sp:Sp} {p pos:Pos} {e:Expr} {es:Lg} {t:TA} {a:Addr}
end
end L2
namespace L2
open PySem PySem.Spec PySem.Calls PyProof.Rows PySem.W
section
variable {X:Cx}
end
end L2
namespace L2
open PySem PySem.W
end L2
namespace L2
open PySem PySem.Spec PySem.Calls PyProof.Rows PySem.W
section
variable {X:Cx} {pins:List (Addr×Obj)} {σ:St} {H:Hp} {s:Shared} {h':Heap}
theorem Inv.turned2 {t':Nat}{e it:Addr}(I:Inv X pins σ H s)(k:∀ b o,b≠e->b≠it->s.heap.get? b=some o->h'.get? b=some o)(fe:FpOk X pins H e)(fi:FpOk X pins H it) :
  Inv X pins σ H { s with heap:=h',toks:=t' }:=by
 obtain⟨e0,e1,_,e3,e4,e5⟩:=fe
 obtain⟨i0,i1,_,i3,i4,i5⟩:=fi
 have hk:∀ b o,b∉[e,it]->s.heap.get? b=some o->h'.get? b=some o:=fun b o hb q=>k b o (fun z=>hb (by simp [z])) (fun z=>hb (by simp [z])) q
 have nn:∀ b u,H b=some u->b∉[e,it]:=fun b u q z=>by
  rcases uh.mp z with z | z
  ·rw [z,e0] at q;cases q
  ·rw [uj.mp z,i0] at q;cases q
 refine I.step (g':=s.gens) (d':=s.drawn) (ch:=[e,it]) ?_ (fun b o _ _ hc q _=>hk b o hc q) (fun b o _ _ hc q _=>⟨o.slots,hk b o hc q⟩) (fun _ _ _ _ n=>n) (fun b o hc q=>⟨o,hk b o hc q⟩)
  (fun _ _ q=>q) (fun _ _ _ q=>q) (fun b ps q=>⟨#[],by rw [q];simp⟩) ?_ ?_ I.bare
 ·intro b hb
  rcases uh.mp hb with z | z
  ·rw [z];exact⟨e3,e1,e4,e5⟩
  ·rw [uj.mp z];exact⟨i3,i1,i4,i5⟩
 ·intro m hm
  obtain⟨o,es,ep,ho,r⟩:=hm
  exact⟨o,es,ep,k _ o (Ne.symm e1) (Ne.symm i1) ho,r⟩
 ·intro b u q
  refine(I.hok b u q).stay (fun c v hc z=>hk c v ?_ z) (fun _ z=>z) fun _ _ z=>z
  rcases hc with z' | z'
  ·rw [z'];exact nn b u q
  ·exact nn c _ z'
end
noncomputable def Ite (go:Nat->Hp->Prop)(yv:Nat->Hp->V->Prop)(stop:Nat->Hp->Prop):It:=⟨go,fun i H x H'=>∃ p v,H p=none/\yv i H v/\x=.ref p/\H' = upd H p (.tup [.int i,v]),stop⟩
theorem Jn {P:Program}{w:World}{K:Le}{elts:Lg}{ek:Nat}{epos:Pos}{e it:Addr}{go:Nat->Hp->Prop}{yv:Nat->Hp->V->Prop}{stop:Nat->Hp->Prop}{tn:Nat->Heap->Prop}(hne:e≠it)
  (hobj:∀ i h,tn i h->∃ o,h.get? it=some o/\∀ v,o.data≠.cell v)
  (hkeep:∀ i h h',tn i h->(∀ o,h.get? it=some o->h'.get? it=some o)->tn i h')
  (hitem:∀ (X:Cx),X.prog=P->X.w=w->X.K=K->X.calm=true->∀ (i:Nat) (pins:List (Addr×Obj)) (s:Shared) (σ:St) (H:Hp),Inv X pins σ H s->tn i s.heap->go i H->(∃ old,IsEnum s.heap e it i old) ->
   ∃ fp n Pd St,Draws P w X.A.in1 it fp n Pd St/\St i s.heap/\i<n/\e∉fp/\(∀ h,St (i+1) h->tn (i+1) h)/\∀ x,Pd i x->∃ v,RelV v x/\yv i H v)
  (hdone:∀ (X:Cx),X.prog=P->X.w=w->X.K=K->X.calm=true->∀ (i:Nat) (pins:List (Addr×Obj)) (s:Shared) (σ:St) (H:Hp),Inv X pins σ H s->tn i s.heap->stop i H ->
   ∃ fp n Pd St,Draws P w X.A.in1 it fp n Pd St/\St n s.heap) :
  Turn P w K (.Tuple elts ek epos) (Ite go yv stop) [e,it] e (fun i h=>(∃ old,IsEnum h e it i old)/\tn i h) where
 mem:=by simp
 obj:=fun i h st b hb=>by
  rcases uh.mp hb with z | z
  ·obtain⟨⟨old,q⟩,_⟩:=st
   rw [z]
   exact⟨_,q,fun v z=>nomatch z⟩
  ·rw [uj.mp z]
   exact hobj i h st.2
 keep:=fun i h h' st k=>by
  obtain⟨⟨old,q⟩,st⟩:=st
  exact⟨⟨old,k e (by simp) _ q⟩,hkeep i h h' st (k it (by simp))⟩
 item:=by
  intro X hP hw hK hc i pins s σ H E I hf st hg
  obtain⟨⟨old,q⟩,st⟩:=st
  obtain⟨fp,n,Pd,St,D,hs,hlt,hef,hst,hv⟩:=hitem X hP hw hK hc i pins s σ H I st hg ⟨old,q⟩
  refine wpAny_pyNext_enum_itemD D q hs hlt hne hef fun x h1 tk hx ho hs1 hT hsz hk=>⟨_,rfl,?_⟩
  obtain⟨v,rv,yv'⟩:=hv x hx
  have helt:e<s.heap.objs.size:=Heap.lt_size q
  refine wpAny_letOwnedTupleGo_enum ho fun h2 he2 hs2=>?_
  have hTe:s.heap.objs.size≠e:=gE helt
  have hT2:h2.get? s.heap.objs.size=some { cls:=.type "tuple",data:=.seq #[.int i tk,x] }:=(hs2.2 _ hTe).trans hT
  have fe:=hf e (by simp)
  have fi:=hf it (by simp)
  have fresh:H s.heap.objs.size=none:=I.hok.fresh (uf _)
  have hit:s.heap.objs.size≠it:=by
   obtain⟨o,z⟩:=D.live _ _ hs
   exact gE (Heap.lt_size z)
  have I0:=I.laid (t':=s.toks) (a:=s.heap.objs.size) (o:=.tup [.int i,v]) (h':=s.heap.push { cls:=.type "tuple",data:=.seq #[.int i tk,x] }) (fun b o z=>Heap.get?_push_of_some _ z) (uf _) (by
   refine⟨by show 2<=sizeLine;decide,[.int i tk,x],.cons ⟨tk,rfl⟩ (.cons rv .nil),?_⟩
   exact⟨_,Heap.get?_push_size _ rfl,rfl,_,rfl⟩)
  have fe0:FpOk X pins (upd H s.heap.objs.size (.tup [.int i,v])) e:=⟨by rw [zP (Ne.symm hTe)];exact fe.1,fe.2⟩
  have fi0:FpOk X pins (upd H s.heap.objs.size (.tup [.int i,v])) it:=⟨by rw [zP (Ne.symm hit)];exact fi.1,fi.2⟩
  have I2:=I0.turned2 (h':=h2) (t':=tk+1) (e:=e) (it:=it) (fun b o hbe hbi z=>by
   by_cases hb:b=s.heap.objs.size
   ·rw [hb] at z ⊢
    have z':some ({ cls:=.type "tuple",data:=.seq #[.int i tk,x] }:Obj)=some o:=(Heap.get?_push_size _ rfl).symm.trans z
    rw [hT2];exact z'
   ·have z':s.heap.get? b=some o:=by
     have z2:=z
     rw [Heap.get?_push_ne _ _ _ hb] at z2
     exact z2
    exact(hs2.2 b hbe).trans (hk b o hbe hbi z')) fe0 fi0
  refine⟨.ref s.heap.objs.size,upd H s.heap.objs.size (.tup [.int i,v]),I2,rfl,⟨_,v,fresh,yv',rfl,rfl⟩,⟨⟨_,he2⟩,?_⟩,fun b hb=>?_⟩
  ·refine hkeep _ _ _ (hst h1 hs1) fun o z=>(hs2.2 it (Ne.symm hne)).trans z
  ·rcases uh.mp hb with z | z
   ·rw [z];exact fe0.1
   ·rw [uj.mp z];exact fi0.1
 done:=by
  intro X hP hw hK hc i pins s σ H E I hf st hg
  obtain⟨⟨old,q⟩,st⟩:=st
  obtain⟨fp,n,Pd,St,D,hs⟩:=hdone X hP hw hK hc i pins s σ H I st hg
  have fi:=hf it (by simp)
  refine wpAny_pyNext_enum_endD D q hs fun h1 hx=>⟨rfl,I.turned (t':=s.toks) (fun b o hb z=>hx b o hb z) fi.1 fi.2.1 fi.2.2.2.1 fi.2.2.2.2.1 fi.2.2.2.2.2⟩
 self:=fun A i s Q E st h=>by
  obtain⟨⟨old,q⟩,_⟩:=st
  exact wpAny_pyIter_enum q h
section
variable {X:Cx}
noncomputable def goS (x:Str):Nat->Hp->Prop:=fun i _=>i<x.cps.size
noncomputable def yvS (x:Str):Nat->Hp->V->Prop:=fun i _ v=>∃ c,x.cps[i]? = some c/\v=.str ⟨#[c]⟩
noncomputable def stS (x:Str):Nat->Hp->Prop:=fun i _=>x.cps.size<=i
theorem Vf {P:Program}{w:World}{K:Le}{elts:Lg}{ek:Nat}{epos:Pos}{e it:Addr}(hne:e≠it)(x:Str)(t:Tok) :
  Turn P w K (.Tuple elts ek epos) (Ite (goS x) (yvS x) (stS x)) [e,it] e (fun i h=>(∃ old,IsEnum h e it i old)/\(h.IsStrIter it (strIterType x) x t i/\i<=x.cps.size)):=by
 have dr:∀ A:Around,A.handled=none->Draws P w A it [it] x.cps.size (fun i v=>∃ c u,x.cps[i]? = some c/\v=.str ⟨#[c]⟩ u) (fun i h=>h.IsStrIter it (strIterType x) x t i):=fun A hA=>by
  unfold strIterType
  cases ha:x.cps.all (· < 128)
  ·exact Draws.strWide hA it x t
  ·exact Draws.strAscii hA it x t
 refine Jn hne ?_ ?_ ?_ ?_
 ·intro i h st
  obtain⟨o,ho,_,hd⟩:=st.1
  exact⟨o,ho,fun v z=>by rw [hd] at z;cases z⟩
 ·intro i h h' st k
  obtain⟨⟨o,ho,r⟩,hl⟩:=st
  exact⟨⟨o,k o ho,r⟩,hl⟩
 ·intro X hP hw hK hc i pins s σ H I st hg he
  refine⟨[it],_,_,_,dr X.A.in1 (I.ok.hd hc),st.1,hg,by simp [hne],fun h z=>⟨z,hg⟩,fun v hv=>?_⟩
  obtain⟨c,u,hcu,rfl⟩:=hv
  exact⟨.str ⟨#[c]⟩,⟨u,rfl⟩,c,hcu,rfl⟩
 ·intro X hP hw hK hc i pins s σ H I st hg
  have hi:i=x.cps.size:=Nat.le_antisymm st.2 hg
  subst hi
  exact⟨[it],_,_,_,dr X.A.in1 (I.ok.hd hc),st.1⟩
noncomputable def ze5 (ta:TA):TI:=fun σ H R=>ta σ H fun vs H1=>∃ z,vs=[.str z]/\R (Ite (goS z) (yvS z) (stS z)) H1
theorem zaD {a:Expr}{ta:TA}{p pos:Pos}{elts:Lg}{ek:Nat}{epos:Pos}(hg:Gl X "enumerate")(hm:X.mg "enumerate" = none)(ha:PA X [a] ta)(hs:starEach [a] X.env=[(false,eval a X.env)]:=by rfl) :
  PI X (.Tuple elts ek epos) (.Call (.Name "enumerate" p) [a] [] pos) (ze5 ta):=by
 intro pins s σ H R I h
 refine Call_ (xa I hg hm boot_enumerate (PyProof.Rows.callWith_type1 (thn (ha pos pins s σ H _ I h) fun us s1 ⟨vs,H1,I1,r1,q1⟩=>?_) hs rfl))
 obtain⟨z,e,q⟩:=q1
 subst e
 obtain⟨u,rfl,t,rfl⟩:=r1.one
 refine call_enumerate_str fun h' he hit hsz hk=>wpAny_pyIter_enum he ?_
 have hlt:s1.heap.objs.size<=s1.heap.objs.size+1:=UH _
 refine⟨s1.heap.objs.size+1,[s1.heap.objs.size+1,s1.heap.objs.size],_,_,H1,rfl,I1.kept (t':=s1.toks) hk,Vf (Nat.succ_ne_self _) z t,⟨⟨_,he⟩,hit,uF _⟩,fun b hb=>?_,q⟩
 have hb':s1.heap.objs.size<=b:=by
  rcases uh.mp hb with z | z
  ·rw [z];exact hlt
  ·rw [uj.mp z];exact uf _
 exact I1.fpOk hb' (I1.hok.fresh hb')
end
section
variable {P:Program} {w:World} {K:Le} {mg:La} {base:Heap}
end
section
variable {X:Cx} {k j:Nat} {x:Str} {ps:Lh} {sp:Sp} {p pos:Pos} {e:Expr} {es:Lg} {t:TA}
end
end L2
namespace L2
open PySem PySem.Spec PyProof.Rows
section
variable {X:Cx} {elt iter:Expr} {x x2:Str} {px py pt pos:Pos} {kt:Nat} {ifs:Lg} {scope:Scope} {wi:TI} {tt:TT} {te:TE}
end
end L2
namespace L2
open PySem PySem.Spec PySem.Calls PyProof.Rows PySem.W
noncomputable def goL (K:Frag)(l:Addr):Nat->Hp->Prop:=fun i H=>∃ xs x,SqL K H l xs/\xs[i]? = some x
noncomputable def yvL (K:Frag)(l:Addr):Nat->Hp->V->Prop:=fun i H v=>∀ xs,SqL K H l xs->xs[i]? = some v
noncomputable def stL0 (K:Frag)(l:Addr):Nat->Hp->Prop:=fun i H=>∃ xs,SqL K H l xs/\xs.length=i
theorem Vg {P:Program}{w:World}{K:Frag}{elts:Lg}{ek:Nat}{epos:Pos}{e it:Addr}(hne:e≠it)(l:Addr) :
  Turn P w K (.Tuple elts ek epos) (Ite (goL K l) (yvL K l) (stL0 K l)) [e,it] e (fun i h=>(∃ old,IsEnum h e it i old)/\h.IsListIter it l i):=by
 refine Jn hne ?_ ?_ ?_ ?_
 ·intro i h st
  obtain⟨o,ho,_,hd⟩:=st
  exact⟨o,ho,fun v z=>by rw [hd] at z;cases z⟩
 ·intro i h h' st k
  exact st.at fun o z=>k o z
 ·intro X hP hw hK hc i pins s σ H I st hg he
  subst hP hw hK
  obtain⟨xs,x,hq,hx⟩:=hg
  obtain⟨its,rv,p,hz⟩:=I.list hq
  obtain⟨u,hu,ru⟩:=rv.get hx
  obtain⟨ol,hol,hcl,nl,hdl⟩:=id p.isList
  have hli:l≠it:=fun z=>by
   obtain⟨o,ho,hc',hd⟩:=st
   rw [z] at hol
   rw [hol] at ho
   cases ho
   rw [hcl] at hc'
   exact absurd (Value.type.inj hc') (by decide)
  have hle:l≠e:=fun z=>by
   obtain⟨old,q⟩:=he
   rw [z] at hol
   have q':=hol.symm.trans q
   cases q'
   exact absurd (Value.type.inj hcl) (by decide)
  refine⟨[it,l],_,_,_,Draws.list (A:=X.A.in1) (I.ok.hd hc) it l hli its.toArray,⟨st,p.isList⟩,?_,?_,fun h z=>z.1,fun v hv=>?_⟩
  ·have:=(uM.mp hu).1
   simpa using this
  ·intro z
   rcases uh.mp z with z | z
   ·exact hne z
   ·exact hle (uj.mp z).symm
  ·have hv':its[i]? = some v:=by simpa using hv
   rw [hu] at hv'
   cases hv'
   exact⟨x,ru,fun ys hy=>by rw [I.list_inj hy hq];exact hx⟩
 ·intro X hP hw hK hc i pins s σ H I st hg
  subst hP hw hK
  obtain⟨xs,hq,hx⟩:=hg
  obtain⟨its,rv,p,hz⟩:=I.list hq
  obtain⟨ol,hol,hcl,nl,hdl⟩:=id p.isList
  have hli:l≠it:=fun z=>by
   obtain⟨o,ho,hc',hd⟩:=st
   rw [z] at hol
   rw [hol] at ho
   cases ho
   rw [hcl] at hc'
   exact absurd (Value.type.inj hc') (by decide)
  have e1:its.toArray.size=i:=by rw [ue,← rv.length];exact hx
  exact⟨[it,l],_,_,_,Draws.list (A:=X.A.in1) (I.ok.hd hc) it l hli its.toArray,by rw [e1];exact⟨st,p.isList⟩⟩
section
variable {X:Cx}
noncomputable def ze6 (K:Frag)(ta:TA):TI:=fun σ H R=>ta σ H fun vs H1=>∃ l xs,vs=[.ref l]/\SqL K H1 l xs/\R (Ite (goL K l) (yvL K l) (stL0 K l)) H1
theorem zaE {a:Expr}{ta:TA}{p pos:Pos}{elts:Lg}{ek:Nat}{epos:Pos}{K:Frag}(hK:X.K=K)(hg:Gl X "enumerate")(hm:X.mg "enumerate" = none)(ha:PA X [a] ta)(hs:starEach [a] X.env=[(false,eval a X.env)]:=by rfl) :
  PI X (.Tuple elts ek epos) (.Call (.Name "enumerate" p) [a] [] pos) (ze6 K ta):=by
 subst hK
 intro pins s σ H R I h
 refine Call_ (xa I hg hm boot_enumerate (PyProof.Rows.callWith_type1 (thn (ha pos pins s σ H _ I h) fun us s1 ⟨vs,H1,I1,r1,q1⟩=>?_) hs rfl))
 obtain⟨l,xs,e,hq,q⟩:=q1
 subst e
 obtain⟨u,rfl,ru⟩:=r1.one
 cases ru
 obtain⟨its,rv,pl,hz⟩:=I1.list hq
 refine call_enumerate_list pl.isList fun h' he hit hsz hk=>wpAny_pyIter_enum he ?_
 have hlt:s1.heap.objs.size<=s1.heap.objs.size+1:=UH _
 refine⟨s1.heap.objs.size+1,[s1.heap.objs.size+1,s1.heap.objs.size],_,_,H1,rfl,I1.kept (t':=s1.toks) hk,Vg (Nat.succ_ne_self _) l,⟨⟨_,he⟩,hit⟩,fun b hb=>?_,q⟩
 have hb':s1.heap.objs.size<=b:=by
  rcases uh.mp hb with z | z
  ·rw [z];exact hlt
  ·rw [uj.mp z];exact uf _
 exact I1.fpOk hb' (I1.hok.fresh hb')
end
theorem VT:bootBuiltins "list" = some (.type "list"):=by decide +kernel
section
variable {X:Cx}
noncomputable def ze7:List V->Hp->VK->Prop:=fun xs H Q=>∃ l,xs=[.str (S l)]/\l.length<=1000000/\∀ p,H p=none->Q (.ref p) (upd H p (.lst (l.map fun c=>.str (S [c]))))
theorem Z4:∀ (l:Lc) (us:Lf),us.length=l.length->(∀ (j:Nat) v,us[j]? = some v->∃ (c:Nat) (u:Tok),l[j]? = some c/\v=Value.str ⟨#[c]⟩ u)->Vals (l.map fun c=>V.str (S [c])) us
 | [],us,h,_=>by
  have:us=[]:=Ga.mp h
  subst this
  exact .nil
 | c::l,[],h,_=>by simp at h
 | c::l,v::us,h,hp=>by
  refine .cons ?_ (Z4 l us (by simpa using h) fun j w hj=>?_)
  ·obtain⟨d,u,e1,e2⟩:=hp 0 v rfl
   simp at e1
   subst e1
   exact⟨u,e2⟩
  ·obtain⟨d,u,e1,e2⟩:=hp (j+1) w (by simpa using hj)
   exact⟨d,u,by simpa using e1,e2⟩
theorem Vh (hc:X.calm=true):qF X (.type "list") ze7:=by
 intro pins s σ H xs us Q I r h
 obtain⟨l,rfl,hl,q⟩:=h
 obtain⟨u,rfl,t,rfl⟩:=vals1 r
 refine call_list_str (I.ok.hd hc) (S l) t (fun h' tk acc c' kp e ia=>?_) (by rw [zat,sizeLine_eq];lia)
 obtain⟨i1,i2⟩:=ia
 rw [zat] at i1
 have hv:Vals (l.map fun c=>V.str (S [c])) acc.toList:=Z4 l acc.toList (by simpa using i1) fun j v hj=>by
  obtain⟨c,u,e1,e2⟩:=i2 j v (by simpa using hj)
  rw [zhb] at e1
  exact⟨c,u,e1,e2⟩
 refine⟨.ref s.heap.objs.size,_,I.laid (t':=tk) kp (uf _) (show zR X.prog X.w _ h' _ (.lst (l.map fun c=>V.str (S [c]))) from⟨by rw [ug,sizeLine_eq];lia,acc.toList,c',hv,by simpa using e⟩),rfl,q _ (I.hok.fresh (uf _))⟩
theorem zcF {K:Frag}(hK:X.K=K):OpR X (compareOp .In) (rIn K false):=by subst hK;exact Y2
theorem Vi {K:Frag}(hK:X.K=K):OpR X (compareOp .NotIn) (rIn K true):=by subst hK;exact JP
theorem Inv.big' {pins:List (Addr×Obj)}{σ:L2.St}{H:Hp}{s:Shared}(I:Inv X pins σ H s):sysModules<s.heap.objs.size:=by
 have h:mainGlobals<s.heap.objs.size:=(I.mod.glob.keeps I.bk).lt
 exact Nat.lt_trans (by decide) h
noncomputable def tD0:TE:=fun _ H Q=>∀ p,H p=none->Q (.ref p) (upd H p (.dK []))
theorem zhe {pos:Pos}:PE X (.Dict [] [] pos) tD0:=fun pins s σ H Q I h=>
 wpAny_Dict_empty ⟨.ref s.heap.objs.size,_,I.laid (a:=s.heap.objs.size) (o:=.dK []) (t':=s.toks) (fun _ _ q=>Heap.get?_push_of_some _ q) (uf _) ⟨uF _,uZ.mpr (Ne.symm (uX I.big')),[],.nil,Heap.DictOf.new s.heap⟩,rfl,h _ (I.hok.fresh (uf _))⟩
end
inductive Dat where
 | fl (v:V)
 | tp (xs:List Dat)
 | ls (xs:List Dat)
mutual
noncomputable def IsDt (H:Hp):Dat->V->Prop
 | .fl x,v=>v=x/\zF x=true
 | .tp ds,v=>∃ a vs,v=.ref a/\H a=some (.tup vs)/\IsDs H ds vs
 | .ls ds,v=>∃ a vs,v=.ref a/\H a=some (.lst vs)/\IsDs H ds vs
noncomputable def IsDs (H:Hp):List Dat->List V->Prop
 | [],vs=>vs=[]
 | d::ds,vs=>∃ v r,vs=v::r/\IsDt H d v/\IsDs H ds r
end
mutual
noncomputable def eqD:Dat->Dat->Bool
 | .fl x,.fl y=>eqV x y
 | .tp xs,.tp ys=>eqDs xs ys
 | .ls xs,.ls ys=>eqDs xs ys
 | .fl _,.tp _=>false
 | .fl _,.ls _=>false
 | .tp _,.fl _=>false
 | .tp _,.ls _=>false
 | .ls _,.fl _=>false
 | .ls _,.tp _=>false
noncomputable def eqDs:List Dat->List Dat->Bool
 | [],[]=>true
 | x::xs,y::ys=>eqD x y&&eqDs xs ys
 | [],_::_=>false
 | _::_,[]=>false
end
mutual
noncomputable def depD:Dat->Nat
 | .fl _=>0
 | .tp xs=>yP xs+1
 | .ls xs=>yP xs+1
noncomputable def yP:List Dat->Nat
 | []=>0
 | d::ds=>max (depD d) (yP ds)
end
mutual
theorem IsDt.mono {H H':Hp}(g:Same H H'):∀ {d:Dat} {v:V},IsDt H d v->IsDt H' d v
 | .fl x,v,h=>by simp only [IsDt] at h ⊢;exact h
 | .tp ds,v,h=>by
  simp only [IsDt] at h ⊢
  obtain⟨a,vs,e,h1,h2⟩:=h
  exact⟨a,vs,e,g _ _ h1,IsDs.mono g h2⟩
 | .ls ds,v,h=>by
  simp only [IsDt] at h ⊢
  obtain⟨a,vs,e,h1,h2⟩:=h
  exact⟨a,vs,e,g _ _ h1,IsDs.mono g h2⟩
theorem IsDs.mono {H H':Hp}(g:Same H H'):∀ {ds:List Dat} {vs:List V},IsDs H ds vs->IsDs H' ds vs
 | [],vs,h=>by simp only [IsDs] at h ⊢;exact h
 | d::ds,vs,h=>by
  simp only [IsDs] at h ⊢
  obtain⟨v,r,e,h1,h2⟩:=h
  exact⟨v,r,e,IsDt.mono g h1,IsDs.mono g h2⟩
end
theorem IsDs.len {H:Hp}:∀ {ds:List Dat} {vs:List V},IsDs H ds vs->ds.length=vs.length
 | [],vs,h=>by simp only [IsDs] at h;subst h;rfl
 | d::ds,vs,h=>by
  simp only [IsDs] at h
  obtain⟨v,r,e,h1,h2⟩:=h
  rw [e,ua,ua,IsDs.len h2]
theorem W4 {v:V}(h:zF v=true):eqV v v=true:=by
 cases v<;>simp [eqV,zF] at h ⊢
mutual
theorem Z5 {H:Hp}:∀ {d e:Dat} {v:V},IsDt H d v->IsDt H e v->eqD d e=true
 | .fl x,.fl y,v,h,k=>by
  simp only [IsDt] at h k
  obtain⟨rfl,f⟩:=h
  obtain⟨rfl,_⟩:=k
  simp only [eqD]
  exact W4 f
 | .tp xs,.tp ys,v,h,k=>by
  simp only [IsDt] at h k
  obtain⟨a,vs,rfl,h1,h2⟩:=h
  obtain⟨b,us,e,k1,k2⟩:=k
  cases e
  rw [h1] at k1
  cases k1
  simp only [eqD]
  exact kI h2 k2
 | .ls xs,.ls ys,v,h,k=>by
  simp only [IsDt] at h k
  obtain⟨a,vs,rfl,h1,h2⟩:=h
  obtain⟨b,us,e,k1,k2⟩:=k
  cases e
  rw [h1] at k1
  cases k1
  simp only [eqD]
  exact kI h2 k2
 | .fl x,.tp ys,v,h,k=>by
  simp only [IsDt] at h k
  obtain⟨rfl,f⟩:=h
  obtain⟨b,us,rfl,k1,k2⟩:=k
  simp [zF] at f
 | .fl x,.ls ys,v,h,k=>by
  simp only [IsDt] at h k
  obtain⟨rfl,f⟩:=h
  obtain⟨b,us,rfl,k1,k2⟩:=k
  simp [zF] at f
 | .tp xs,.fl y,v,h,k=>by
  simp only [IsDt] at h k
  obtain⟨rfl,f⟩:=k
  obtain⟨b,us,rfl,k1,k2⟩:=h
  simp [zF] at f
 | .ls xs,.fl y,v,h,k=>by
  simp only [IsDt] at h k
  obtain⟨rfl,f⟩:=k
  obtain⟨b,us,rfl,k1,k2⟩:=h
  simp [zF] at f
 | .tp xs,.ls ys,v,h,k=>by
  simp only [IsDt] at h k
  obtain⟨a,vs,rfl,h1,h2⟩:=h
  obtain⟨b,us,e,k1,k2⟩:=k
  cases e
  rw [h1] at k1
  cases k1
 | .ls xs,.tp ys,v,h,k=>by
  simp only [IsDt] at h k
  obtain⟨a,vs,rfl,h1,h2⟩:=h
  obtain⟨b,us,e,k1,k2⟩:=k
  cases e
  rw [h1] at k1
  cases k1
theorem kI {H:Hp}:∀ {ds es:List Dat} {vs:List V},IsDs H ds vs->IsDs H es vs->eqDs ds es=true
 | [],[],_,_,_=>rfl
 | d::ds,e::es,vs,h,k=>by
  simp only [IsDs] at h k
  obtain⟨v,r,rfl,h1,h2⟩:=h
  obtain⟨v',r',e',k1,k2⟩:=k
  cases e'
  simp only [eqDs,uI]
  exact⟨Z5 h1 k1,kI h2 k2⟩
 | [],e::es,vs,h,k=>by
  simp only [IsDs] at h k
  subst h
  obtain⟨v',r',e',k1,k2⟩:=k
  cases e'
 | d::ds,[],vs,h,k=>by
  simp only [IsDs] at h k
  subst k
  obtain⟨v',r',e',k1,k2⟩:=h
  cases e'
end
mutual
noncomputable def j0:Dat->Bool
 | .fl v=>zF v
 | .tp xs=>xI xs
 | .ls xs=>xI xs
noncomputable def xI:List Dat->Bool
 | []=>true
 | d::ds=>j0 d&&xI ds
end
mutual
theorem W5:∀ {d:Dat},j0 d=true->eqD d d=true
 | .fl v,h=>by simp only [eqD];exact W4 h
 | .tp xs,h=>by simp only [eqD];simp only [j0] at h;exact kJ h
 | .ls xs,h=>by simp only [eqD];simp only [j0] at h;exact kJ h
theorem kJ:∀ {ds:List Dat},xI ds=true->eqDs ds ds=true
 | [],_=>rfl
 | d::ds,h=>by
  simp only [xI,uI] at h
  simp only [eqDs,uI]
  exact⟨W5 h.1,kJ h.2⟩
end
theorem vg:∀ {ds es:List Dat},ds.length≠es.length->eqDs ds es=false
 | [],[],h=>absurd rfl h
 | d::ds,e::es,h=>by
  simp only [eqDs]
  rw [vg (ds:=ds) (es:=es) (by simpa using h),gU]
 | [],_::_,_=>rfl
 | _::_,[],_=>rfl
noncomputable def dGet (ds:List Dat)(j:Nat):Dat:=ds.getD j (.fl .non)
theorem vh:∀ {ds es:List Dat},ds.length=es.length->(List.range ds.length).all (fun j=>eqD (dGet ds j) (dGet es j))=eqDs ds es
 | [],[],_=>rfl
 | d::ds,e::es,h=>by
  rw [ua,List.range_succ_eq_map,Uv,List.all_map]
  simp only [eqDs]
  have:=vh (ds:=ds) (es:=es) (by simpa using h)
  rw [← this]
  rfl
 | [],_::_,h=>by simp at h
 | _::_,[],h=>by simp at h
theorem Z6 {ds es:List Dat}{n m:Nat}(hn:n=ds.length)(hm:m=es.length):((List.range (min n m)).all (fun j=>eqD (dGet ds j) (dGet es j))&&n == m)=eqDs ds es:=by
 subst hn hm
 by_cases h:ds.length=es.length
 ·rw [← h,Nat.min_self,uQ,Bool.and_true]
  exact vh h
 ·rw [vg h,uZ.mpr h,gU]
section
variable {X:Cx} {pins:List (Addr×Obj)} {σ:L2.St} {H:Hp} {s:Shared}
theorem jA (I:Inv X pins σ H s){a:Addr}{vs:List V}(h:H a=some (.tup vs)):∃ its:Lf,Vals vs its/\s.heap.IsTuple a its.toArray:=by
 obtain⟨its,r,p,_⟩:=I.tuple (SqT.of h)
 exact⟨its,r,p⟩
theorem ju (I:Inv X pins σ H s){a:Addr}{vs:List V}(h:H a=some (.lst vs)):∃ its:Lf,Vals vs its/\s.heap.IsList a its.toArray:=by
 obtain⟨its,r,p,_⟩:=I.list (SqL.of h)
 exact⟨its,r,p.isList⟩
mutual
theorem ze8 (I:Inv X pins σ H s):∀ (d e:Dat) (A:Around) (x y:V) (u w:Value),A.units+depD d<cLine->IsDt H d x->IsDt H e y->RelV x u->RelV y w->SeqAt.EqAt A s u w (eqD d e)
 | .fl x,.fl y,A,x',y',u,w,hu,h,k,ru,rw'=>by
  simp only [IsDt] at h k
  obtain⟨rfl,f⟩:=h
  obtain⟨rfl,g⟩:=k
  simp only [eqD]
  exact zaj ru rw' f g
 | .tp ds,.tp es,A,x,y,u,w,hu,h,k,ru,rw'=>by
  have hh:=h
  have kk:=k
  simp only [IsDt] at h k
  obtain⟨a,vs,rfl,h1,h2⟩:=h
  obtain⟨b,us,rfl,k1,k2⟩:=k
  cases ru
  cases rw'
  by_cases hab:a=b
  ·subst hab
   rw [Z5 hh kk]
   exact SeqAt.EqAt.same _
  obtain⟨i1,r1,p1⟩:=jA I h1
  obtain⟨i2,r2,p2⟩:=jA I k1
  simp only [depD] at hu
  refine SeqAt.EqAt.of_refs hab ?_
  have:=SeqAt.RcAt.tuples (A:=A) (e:=fun j=>eqD (dGet ds j) (dGet es j)) p1 p2 (by lia) (xJ I ds es A.in1 vs us i1 i2 (by show A.units+1+_<_;lia) h2 k2 r1 r2)
  rw [Z6 (by rw [ue,← r1.length,h2.len]) (by rw [ue,← r2.length,k2.len])] at this
  simp only [eqD]
  exact this
 | .ls ds,.ls es,A,x,y,u,w,hu,h,k,ru,rw'=>by
  have hh:=h
  have kk:=k
  simp only [IsDt] at h k
  obtain⟨a,vs,rfl,h1,h2⟩:=h
  obtain⟨b,us,rfl,k1,k2⟩:=k
  cases ru
  cases rw'
  by_cases hab:a=b
  ·subst hab
   rw [Z5 hh kk]
   exact SeqAt.EqAt.same _
  obtain⟨i1,r1,p1⟩:=ju I h1
  obtain⟨i2,r2,p2⟩:=ju I k1
  have l1:=r1.length
  have l2:=r2.length
  have l3:=h2.len
  have l4:=k2.len
  simp only [depD] at hu
  refine SeqAt.EqAt.of_refs hab ?_
  simp only [eqD]
  by_cases hl:ds.length=es.length
  ·have:=SeqAt.RcAt.lists (A:=A) (e:=fun j=>eqD (dGet ds j) (dGet es j)) p1 p2 (by simp;lia) (by lia) (xJ I ds es A.in1 vs us i1 i2 (by show A.units+1+_<_;lia) h2 k2 r1 r2)
   rw [ue,← l1,← l3,vh hl] at this
   exact this
  ·rw [vg hl]
   exact SeqAt.RcAt.lists_lengths p1 p2 (by simp;lia) (by lia)
 | .fl x,.tp es,A,x',y,u,w,hu,h,k,ru,rw'=>by
  simp only [IsDt] at h k
  obtain⟨rfl,f⟩:=h
  obtain⟨b,us,rfl,k1,k2⟩:=k
  cases rw'
  obtain⟨i2,r2,p2⟩:=jA I k1
  simp only [eqD]
  have hu:A.units<cLine:=by lia
  cases x' with
  | non=>cases ru;exact SeqAt.EqAt.none_tuple p2 hu
  | bl z=>cases ru;exact SeqAt.EqAt.bool_tuple z p2 hu
  | int z=>obtain⟨t,rfl⟩:=ru;exact SeqAt.EqAt.int_tuple z t p2 hu
  | str z=>obtain⟨t,rfl⟩:=ru;exact SeqAt.EqAt.str_tuple z t p2 hu
  | byt z=>simp [zF] at f
  | flt z=>simp [zF] at f
  | ref z=>simp [zF] at f
  | ty z=>simp [zF] at f
 | .fl x,.ls es,A,x',y,u,w,hu,h,k,ru,rw'=>by
  simp only [IsDt] at h k
  obtain⟨rfl,f⟩:=h
  obtain⟨b,us,rfl,k1,k2⟩:=k
  cases rw'
  obtain⟨i2,r2,p2⟩:=ju I k1
  simp only [eqD]
  have hu:A.units<cLine:=by lia
  cases x' with
  | non=>cases ru;exact SeqAt.EqAt.none_list p2 hu
  | bl z=>cases ru;exact SeqAt.EqAt.bool_list z p2 hu
  | int z=>obtain⟨t,rfl⟩:=ru;exact SeqAt.EqAt.int_list z t p2 hu
  | str z=>obtain⟨t,rfl⟩:=ru;exact SeqAt.EqAt.str_list z t p2 hu
  | byt z=>simp [zF] at f
  | flt z=>simp [zF] at f
  | ref z=>simp [zF] at f
  | ty z=>simp [zF] at f
 | .tp ds,.fl y,A,x,y',u,w,hu,h,k,ru,rw'=>by
  simp only [IsDt] at h k
  obtain⟨rfl,f⟩:=k
  obtain⟨b,us,rfl,k1,k2⟩:=h
  cases ru
  obtain⟨i2,r2,p2⟩:=jA I k1
  simp only [eqD]
  have hu:A.units<cLine:=by lia
  cases y' with
  | non=>cases rw';exact SeqAt.EqAt.tuple_none p2 hu
  | bl z=>cases rw';exact SeqAt.EqAt.tuple_bool z p2 hu
  | int z=>obtain⟨t,rfl⟩:=rw';exact SeqAt.EqAt.tuple_int z t p2 hu
  | str z=>obtain⟨t,rfl⟩:=rw';exact SeqAt.EqAt.tuple_str z t p2 hu
  | byt z=>simp [zF] at f
  | flt z=>simp [zF] at f
  | ref z=>simp [zF] at f
  | ty z=>simp [zF] at f
 | .ls ds,.fl y,A,x,y',u,w,hu,h,k,ru,rw'=>by
  simp only [IsDt] at h k
  obtain⟨rfl,f⟩:=k
  obtain⟨b,us,rfl,k1,k2⟩:=h
  cases ru
  obtain⟨i2,r2,p2⟩:=ju I k1
  simp only [eqD]
  have hu:A.units<cLine:=by lia
  cases y' with
  | non=>cases rw';exact SeqAt.EqAt.list_none p2 hu
  | bl z=>cases rw';exact SeqAt.EqAt.list_bool z p2 hu
  | int z=>obtain⟨t,rfl⟩:=rw';exact SeqAt.EqAt.list_int z t p2 hu
  | str z=>obtain⟨t,rfl⟩:=rw';exact SeqAt.EqAt.list_str z t p2 hu
  | byt z=>simp [zF] at f
  | flt z=>simp [zF] at f
  | ref z=>simp [zF] at f
  | ty z=>simp [zF] at f
 | .tp ds,.ls es,A,x,y,u,w,hu,h,k,ru,rw'=>by
  simp only [IsDt] at h k
  obtain⟨a,vs,rfl,h1,h2⟩:=h
  obtain⟨b,us,rfl,k1,k2⟩:=k
  cases ru
  cases rw'
  obtain⟨i1,r1,p1⟩:=jA I h1
  obtain⟨i2,r2,p2⟩:=ju I k1
  simp only [eqD]
  exact SeqAt.EqAt.tuple_list p1 p2 (by lia)
 | .ls ds,.tp es,A,x,y,u,w,hu,h,k,ru,rw'=>by
  simp only [IsDt] at h k
  obtain⟨a,vs,rfl,h1,h2⟩:=h
  obtain⟨b,us,rfl,k1,k2⟩:=k
  cases ru
  cases rw'
  obtain⟨i1,r1,p1⟩:=ju I h1
  obtain⟨i2,r2,p2⟩:=jA I k1
  simp only [eqD]
  exact SeqAt.EqAt.list_tuple p1 p2 (by lia)
theorem xJ (I:Inv X pins σ H s):∀ (ds es:List Dat) (A:Around) (xs ys:List V) (us ws:Lf),A.units+yP ds<cLine->IsDs H ds xs->IsDs H es ys->Vals xs us->Vals ys ws ->
  ∀ j (h1:j<us.toArray.size) (h2:j<ws.toArray.size),SeqAt.EqAt A s us.toArray[j] ws.toArray[j] (eqD (dGet ds j) (dGet es j))
 | [],es,A,xs,ys,us,ws,hu,h,k,ru,rw',j,h1,h2=>by
  simp only [IsDs] at h
  subst h
  have:=ru.length
  rw [ue] at h1
  simp at this
  lia
 | d::ds,[],A,xs,ys,us,ws,hu,h,k,ru,rw',j,h1,h2=>by
  simp only [IsDs] at k
  subst k
  have:=rw'.length
  rw [ue] at h2
  simp at this
  lia
 | d::ds,e::es,A,xs,ys,us,ws,hu,h,k,ru,rw',j,h1,h2=>by
  simp only [IsDs] at h k
  obtain⟨v,r,rfl,a1,a2⟩:=h
  obtain⟨v',r',rfl,b1,b2⟩:=k
  simp only [yP] at hu
  cases ru with
  | cons q1 q2=>
   cases rw' with
   | cons q3 q4=>
    cases j with
    | zero=>exact ze8 I d e A _ _ _ _ (by omega) a1 b1 q1 q3
    | succ j=>
     have:=xJ I ds es A _ _ _ _ (by lia) a2 b2 q2 q4 j (by simpa using h1) (by simpa using h2)
     simpa [dGet] using this
end
end
section
variable {X:Cx}
noncomputable def rEqD:R2:=fun x y H Q=>∃ d e a b,x=.ref a/\y=.ref b/\IsDt H d (.ref a)/\IsDt H e (.ref b)/\depD d<=50/\Q (.bl (eqD d e)) H
noncomputable def rNeD:R2:=fun x y H Q=>∃ d e a b,x=.ref a/\y=.ref b/\IsDt H d (.ref a)/\IsDt H e (.ref b)/\depD d<=50/\Q (.bl (!eqD d e)) H
theorem ze9 (hu:X.A.units+64<cLine):OpR X (compareOp .Eq) rEqD:=by
 intro pins s σ H x y v u Q I rx ry h
 obtain⟨d,e,a,b,rfl,rfl,h,k,hd,q⟩:=h
 cases rx
 cases ry
 match d,e,h,k,hd,q with
 | .tp ds,.tp es,h,k,hd,q=>
  simp only [IsDt] at h k
  obtain⟨_,vs,e1,h1,h2⟩:=h
  obtain⟨_,us,e2,k1,k2⟩:=k
  cases e1
  cases e2
  obtain⟨i1,r1,p1⟩:=jA I h1
  obtain⟨i2,r2,p2⟩:=jA I k1
  simp only [depD] at hd
  refine SeqAt.eq_tupleAt (e:=fun j=>eqD (dGet ds j) (dGet es j)) p1 p2 (by lia) (xJ I ds es X.A.in1 vs us i1 i2 (by show X.A.units+1+_<_;lia) h2 k2 r1 r2) ⟨.bl _,H,I,rfl,?_⟩
  rw [Z6 (by rw [ue,← r1.length,h2.len]) (by rw [ue,← r2.length,k2.len])]
  exact q
 | .ls ds,.ls es,h,k,hd,q=>
  simp only [IsDt] at h k
  obtain⟨_,vs,e1,h1,h2⟩:=h
  obtain⟨_,us,e2,k1,k2⟩:=k
  cases e1
  cases e2
  obtain⟨i1,r1,p1⟩:=ju I h1
  obtain⟨i2,r2,p2⟩:=ju I k1
  have l1:=r1.length
  have l2:=r2.length
  have l3:=h2.len
  have l4:=k2.len
  simp only [depD] at hd
  by_cases hl:ds.length=es.length
  ·refine SeqAt.eq_listAt (e:=fun j=>eqD (dGet ds j) (dGet es j)) p1 p2 (by simp;lia) (by lia) (xJ I ds es X.A.in1 vs us i1 i2 (by show X.A.units+1+_<_;lia) h2 k2 r1 r2) ⟨.bl _,H,I,rfl,?_⟩
   rw [ue,← l1,← l3,vh hl]
   exact q
  ·refine SeqAt.eq_list_lengthsAt p1 p2 (by simp;lia) (by lia) ⟨.bl _,H,I,rfl,?_⟩
   simp only [eqD] at q
   rw [vg hl] at q
   exact q
 | .tp ds,.ls es,h,k,hd,q=>
  simp only [IsDt] at h k
  obtain⟨_,vs,e1,h1,h2⟩:=h
  obtain⟨_,us,e2,k1,k2⟩:=k
  cases e1
  cases e2
  obtain⟨i1,r1,p1⟩:=jA I h1
  obtain⟨i2,r2,p2⟩:=ju I k1
  exact SeqAt.RcAt.tuple_list p1 p2 (by lia) _ _ _ _ ⟨.bl _,H,I,rfl,q⟩
 | .ls ds,.tp es,h,k,hd,q=>
  simp only [IsDt] at h k
  obtain⟨_,vs,e1,h1,h2⟩:=h
  obtain⟨_,us,e2,k1,k2⟩:=k
  cases e1
  cases e2
  obtain⟨i1,r1,p1⟩:=ju I h1
  obtain⟨i2,r2,p2⟩:=jA I k1
  exact SeqAt.RcAt.list_tuple p1 p2 (by lia) _ _ _ _ ⟨.bl _,H,I,rfl,q⟩
 | .fl x,e,h,k,hd,q=>simp only [IsDt] at h;obtain⟨rfl,f⟩:=h;simp [zF] at f
 | .tp ds,.fl x,h,k,hd,q=>simp only [IsDt] at k;obtain⟨rfl,f⟩:=k;simp [zF] at f
 | .ls ds,.fl x,h,k,hd,q=>simp only [IsDt] at k;obtain⟨rfl,f⟩:=k;simp [zF] at f
theorem zfa (hu:X.A.units+64<cLine):OpR X (compareOp .NotEq) rNeD:=by
 intro pins s σ H x y v u Q I rx ry h
 obtain⟨d,e,a,b,rfl,rfl,h,k,hd,q⟩:=h
 cases rx
 cases ry
 match d,e,h,k,hd,q with
 | .tp ds,.tp es,h,k,hd,q=>
  simp only [IsDt] at h k
  obtain⟨_,vs,e1,h1,h2⟩:=h
  obtain⟨_,us,e2,k1,k2⟩:=k
  cases e1
  cases e2
  obtain⟨i1,r1,p1⟩:=jA I h1
  obtain⟨i2,r2,p2⟩:=jA I k1
  simp only [depD] at hd
  refine SeqAt.RcNeAt.tuples (e:=fun j=>eqD (dGet ds j) (dGet es j)) p1 p2 (by lia) (xJ I ds es X.A.in1 vs us i1 i2 (by show X.A.units+1+_<_;lia) h2 k2 r1 r2) _ _ _ _ ⟨.bl _,H,I,rfl,?_⟩
  rw [Z6 (by rw [ue,← r1.length,h2.len]) (by rw [ue,← r2.length,k2.len])]
  exact q
 | .ls ds,.ls es,h,k,hd,q=>
  simp only [IsDt] at h k
  obtain⟨_,vs,e1,h1,h2⟩:=h
  obtain⟨_,us,e2,k1,k2⟩:=k
  cases e1
  cases e2
  obtain⟨i1,r1,p1⟩:=ju I h1
  obtain⟨i2,r2,p2⟩:=ju I k1
  have l1:=r1.length
  have l2:=r2.length
  have l3:=h2.len
  have l4:=k2.len
  simp only [depD] at hd
  by_cases hl:ds.length=es.length
  ·refine SeqAt.RcNeAt.lists (e:=fun j=>eqD (dGet ds j) (dGet es j)) p1 p2 (by simp;lia) (by lia) (xJ I ds es X.A.in1 vs us i1 i2 (by show X.A.units+1+_<_;lia) h2 k2 r1 r2) _ _ _ _ ⟨.bl _,H,I,rfl,?_⟩
   rw [ue,← l1,← l3,vh hl]
   exact q
  ·refine SeqAt.RcNeAt.lists_lengths p1 p2 (by simp;lia) (by lia) _ _ _ _ ⟨.bl _,H,I,rfl,?_⟩
   simp only [eqD] at q
   rw [vg hl] at q
   exact q
 | .tp ds,.ls es,h,k,hd,q=>
  simp only [IsDt] at h k
  obtain⟨_,vs,e1,h1,h2⟩:=h
  obtain⟨_,us,e2,k1,k2⟩:=k
  cases e1
  cases e2
  obtain⟨i1,r1,p1⟩:=jA I h1
  obtain⟨i2,r2,p2⟩:=ju I k1
  exact SeqAt.RcNeAt.tuple_list p1 p2 (by lia) _ _ _ _ ⟨.bl _,H,I,rfl,q⟩
 | .ls ds,.tp es,h,k,hd,q=>
  simp only [IsDt] at h k
  obtain⟨_,vs,e1,h1,h2⟩:=h
  obtain⟨_,us,e2,k1,k2⟩:=k
  cases e1
  cases e2
  obtain⟨i1,r1,p1⟩:=ju I h1
  obtain⟨i2,r2,p2⟩:=jA I k1
  exact SeqAt.RcNeAt.list_tuple p1 p2 (by lia) _ _ _ _ ⟨.bl _,H,I,rfl,q⟩
 | .fl x,e,h,k,hd,q=>simp only [IsDt] at h;obtain⟨rfl,f⟩:=h;simp [zF] at f
 | .tp ds,.fl x,h,k,hd,q=>simp only [IsDt] at k;obtain⟨rfl,f⟩:=k;simp [zF] at f
 | .ls ds,.fl x,h,k,hd,q=>simp only [IsDt] at k;obtain⟨rfl,f⟩:=k;simp [zF] at f
end
noncomputable abbrev Tx:=Lc
noncomputable def tx (x:Tx):V:=.str (S x)
noncomputable abbrev lt:Tx:=[97,98,99,100,101,102,103,104,105,106,107,108,109,110,111,112,113,114,115,116,117,118,119,120,121,122]
end L2
namespace L2
open PySem PySem.Spec PyProof.Rows
section
variable {κ:Type} [DecidableEq κ]
noncomputable def valV (kvs:List (κ×V))(k:κ):Option V:=(kvs.find? fun kv=>decide (kv.1=k)).map (·.2)
noncomputable def putK (kvs:List (κ×V))(k:κ)(v:V):List (κ×V):=
 if (kvs.any fun kv=>decide (kv.1=k))=true then kvs.map (fun kv=>if kv.1=k then(kv.1,v) else kv) else kvs++[(k,v)]
theorem vi {p:κ×V}{r:List (κ×V)}{k:κ}(e:p.1=k):valV (p::r) k=some p.2:=by simp [valV,Uu,e]
theorem xr {p:κ×V}{r:List (κ×V)}{k:κ}(e:¬ p.1=k):valV (p::r) k=valV r k:=by simp [valV,Uu,e]
theorem W6 (k:κ):∀ kvs:List (κ×V),(kvs.any fun kv=>decide (kv.1=k))=(valV kvs k).isSome
 | []=>rfl
 | p::r=>by
  rw [Um]
  by_cases e:p.1=k
  ·simp only [vi e,uT e,Bool.true_or,Option.isSome_some]
  ·rw [xr e,uo e,U0];exact W6 k r
theorem vj (kvs:List (κ×V))(k:κ)(v:V):(putK kvs k v).length<=kvs.length+1:=by
 unfold putK
 split
 ·rw [ug];lia
 ·rw [ub,ua,ud];lia
theorem RelO.isSome_eq {o:Option V}{u:Option Value}(r:RelO o u):o.isSome=u.isSome:=by
 cases o with
 | none=>cases u with
  | none=>rfl
  | some _=>exact(show False from r).elim
 | some _=>cases u with
  | none=>exact(show False from r).elim
  | some _=>rfl
theorem RelO.getD {o:Option V}{u:Option Value}{d:V}{d':Value}(r:RelO o u)(rd:RelV d d'):RelV (o.getD d) (u.getD d'):=by
 cases o with
 | none=>cases u with
  | none=>exact rd
  | some _=>exact(show False from r).elim
 | some _=>cases u with
  | none=>exact(show False from r).elim
  | some _=>exact r
theorem KV.val {kvs:List (κ×V)}{vs:List (κ×Value)}(r:KV kvs vs)(k:κ):RelO (valV kvs k) (valueAt vs k):=by
 unfold KV at r
 induction r with
 | nil=>exact True.intro
 | @cons p q ps qs h t ih=>
  obtain⟨h1,h2⟩:=h
  by_cases e:p.1=k
  ·have e':q.1=k:=h1.symm.trans e
   have b:valueAt (q::qs) k=some q.2:=by simp [valueAt,Uu,e']
   rw [vi e,b];exact h2
  ·have e':¬ q.1=k:=fun z=>e (h1.trans z)
   have b:valueAt (q::qs) k=valueAt qs k:=by simp [valueAt,Uu,e']
   rw [xr e,b];exact ih
theorem KV.any {kvs:List (κ×V)}{vs:List (κ×Value)}(r:KV kvs vs)(k:κ):(kvs.any fun kv=>decide (kv.1=k))=vs.any fun kv=>decide (kv.1=k):=by
 unfold KV at r
 induction r with
 | nil=>rfl
 | cons h t ih=>rw [Um,Um,ih,h.1]
theorem KV.repl {kvs:List (κ×V)}{vs:List (κ×Value)}(r:KV kvs vs)(k:κ){y:V}{u:Value}(ry:RelV y u) :
  KV (kvs.map fun kv=>if kv.1=k then(kv.1,y) else kv) (vs.map fun kv=>if kv.1=k then(kv.1,u) else kv):=by
 unfold KV at r ⊢
 induction r with
 | nil=>exact .nil
 | @cons p q ps qs h t ih=>
  rw [ur,ur]
  refine .cons ?_ ih
  obtain⟨h1,h2⟩:=h
  by_cases e:p.1=k
  ·rw [uA e,uA (h1.symm.trans e)];exact⟨h1,ry⟩
  ·rw [uq e,uq (fun z=>e (h1.trans z))];exact⟨h1,h2⟩
theorem KV.put {kvs:List (κ×V)}{vs:List (κ×Value)}(r:KV kvs vs)(k:κ){y:V}{u:Value}(ry:RelV y u):KV (putK kvs k y) (stored vs k u):=by
 unfold putK stored
 rw [r.any k]
 by_cases e:(vs.any fun kv=>decide (kv.1=k))=true
 ·rw [uA e,uA e];exact r.repl k ry
 ·rw [uq e,uq e];exact Paired.snoc r ⟨rfl,ry⟩
theorem KV.length {kvs:List (κ×V)}{vs:List (κ×Value)}(r:KV kvs vs):kvs.length=vs.length:=Paired.length r
end
theorem Ze {P:Program}{w:World}{k:Key}{u:Value}(r:RelV (kV k) u):(zJ P w).is k u=true:=by
 cases k with
 | inl i=>obtain⟨t,e⟩:=(show ∃ t,u=Value.int i t from r);subst e;exact WM P w i t
 | inr x=>obtain⟨t,e⟩:=(show ∃ t,u=Value.str x t from r);subst e;exact WN P w x t
theorem Jo {P:Program}{w:World}:∀ {ks:List Key} {us:Lf},Vals (ks.map kV) us->ItemsAre (zJ P w) ks us
 | [],_,r=>by rw [Uy] at r;cases r;exact .nil
 | k::ks,_,r=>by
  rw [ur] at r
  cases r with
  | cons h t=>exact .cons (Ze h) (Jo t)
noncomputable abbrev KT (H:Hp):List (List Key×V)->List (List Key×Addr×Value)->Prop:=Paired fun p q=>p.1=q.1/\H q.2.1=some (.tup (p.1.map kV))/\RelV p.2 q.2.2
theorem KT.val {H:Hp}{kvs:List (List Key×V)}{xs:List (List Key×Addr×Value)}(r:KT H kvs xs)(k:List Key):RelO (valV kvs k) ((atKey xs k).map (·.2)):=by
 induction r with
 | nil=>exact True.intro
 | @cons p q ps qs h t ih=>
  obtain⟨h1,_,h2⟩:=h
  by_cases e:p.1=k
  ·have e':q.1=k:=h1.symm.trans e
   have b:atKey (q::qs) k=some q.2:=by simp [atKey,Uu,e']
   rw [vi e,b];exact h2
  ·have e':¬ q.1=k:=fun z=>e (h1.trans z)
   have b:atKey (q::qs) k=atKey qs k:=by simp [atKey,Uu,e']
   rw [xr e,b];exact ih
theorem KT.repl {H:Hp}{kvs:List (List Key×V)}{xs:List (List Key×Addr×Value)}(r:KT H kvs xs)(k:List Key){y:V}{u:Value}(ry:RelV y u) :
  KT H (kvs.map fun kv=>if kv.1=k then(kv.1,y) else kv) (xs.map (putAt k u)):=by
 induction r with
 | nil=>exact .nil
 | @cons p q ps qs h t ih=>
  rw [ur,ur]
  refine .cons ?_ ih
  obtain⟨h1,h2,h3⟩:=h
  unfold putAt
  by_cases e:p.1=k
  ·rw [uA e,uA (h1.symm.trans e)];exact⟨h1,h2,ry⟩
  ·rw [uq e,uq (fun z=>e (h1.trans z))];exact⟨h1,h2,h3⟩
theorem KT.put {H:Hp}{kvs:List (List Key×V)}{xs:List (List Key×Addr×Value)}(r:KT H kvs xs)(k:List Key){b:Addr}{y:V}{u:Value}(hb:H b=some (.tup (k.map kV)))(ry:RelV y u) :
  KT H (putK kvs k y) (storedH xs k b u):=by
 have e:(kvs.any fun kv=>decide (kv.1=k))=(atKey xs k).isSome:=by
  rw [W6,(r.val k).isSome_eq,gF]
 unfold putK storedH
 rw [e]
 by_cases q:(atKey xs k).isSome=true
 ·rw [uA q,uA q];exact r.repl k ry
 ·rw [uq q,uq q];exact Paired.snoc r ⟨rfl,hb,ry⟩
theorem KT.keeps {H H':Hp}{kvs:List (List Key×V)}{xs:List (List Key×Addr×Value)}(r:KT H kvs xs)(ht:∀ b ys,H b=some (.tup ys)->H' b=some (.tup ys)):KT H' kvs xs:=
 Paired.mapP r fun _ _ z=>⟨z.1,ht _ _ z.2.1,z.2.2⟩
section
variable {P:Program} {w:World} {H:Hp} {h:Heap} {a:Addr}
theorem zdQ {u:HO}(ok:HOk P w H h)(e:Rd H a u):zR P w H h a u:=e.ok ok
theorem Z7 {kvs:List (Key×V)}(ok:HOk P w H h)(e:Rd H a (.dK kvs)):kvs.length<=sizeLine/\(a == sysModules)=false/\∃ vs,KV kvs vs/\h.DictOf (zJ P w) a vs:=
 show zR P w H h a (.dK kvs) from zdQ ok e
theorem zdR {kvs:List (Key×V)}(ok:HOk P w H h)(e:H a=some (.dK kvs)):kvs.length<=sizeLine/\(a == sysModules)=false/\∃ vs,KV kvs vs/\h.DictOf (zJ P w) a vs:=Z7 ok (.inl e)
theorem kK {ks:List Key}(ok:HOk P w H h)(e:H a=some (.tup (ks.map kV))):(tupleKind (zJ P w)).is h ks a:=by
 obtain⟨_,its,r,o,h1,h2,n,h3⟩:=(show zR P w H h a (.tup (ks.map kV)) from ok a _ e)
 exact⟨o,its.toArray,n,h1,h2,h3,by simpa using Jo r⟩
theorem Z8 {kvs:List (List Key×V)}(ok:HOk P w H h)(e:Rd H a (.dT kvs)):kvs.length<=sizeLine/\(a == sysModules)=false /\
  ∃ xs,KT H kvs xs/\h.DictOfH (tupleKind (zJ P w)) a xs:=by
 obtain⟨z,y,xs,r,o,es,ep,h1,h2,h3,h4,h5⟩:=(show zR P w H h a (.dT kvs) from zdQ ok e)
 refine⟨z,y,xs,r,o,es,ep,h1,h2,h3,h4,fun x hx=>?_,h5⟩
 have all:∀ {l:List (List Key×V)} {m:List (List Key×Addr×Value)},KT H l m->∀ x∈m,(tupleKind (zJ P w)).is h x.1 x.2.1:=by
  intro l m q
  induction q with
  | nil=>intro x hx;exact nomatch hx
  | @cons p q ps qs hq t ih=>
   intro x hx
   rcases uh.mp hx with e | hx
   ·subst e
    exact kK ok (by rw [← hq.1];exact hq.2.1)
   ·exact ih x hx
 exact all r x hx
theorem zhf {kvs:List (List Key×V)}(ok:HOk P w H h)(e:H a=some (.dT kvs)):kvs.length<=sizeLine/\(a == sysModules)=false /\
  ∃ xs,KT H kvs xs/\h.DictOfH (tupleKind (zJ P w)) a xs:=Z8 ok (.inl e)
end
def DGet (H:Hp)(a:Addr)(y:V)(r:Option V):Prop:=
 (∃ kvs k,Rd H a (.dK kvs)/\y=kV k/\r=valV kvs k)\/∃ kvs k b,Rd H a (.dT kvs)/\y=.ref b/\H b=some (.tup (k.map kV))/\r=valV kvs k
def DPut (H:Hp)(a:Addr)(y v:V)(H':Hp):Prop:=
 (∃ kvs k,H a=some (.dK kvs)/\y=kV k/\kvs.length<sizeLine/\H' = upd H a (.dK (putK kvs k v))) \/
 ∃ kvs k b,H a=some (.dT kvs)/\y=.ref b/\H b=some (.tup (k.map kV))/\kvs.length<sizeLine/\H' = upd H a (.dT (putK kvs k v))
theorem DGet.k {H:Hp}{a:Addr}{kvs:List (Key×V)}{k:Key}(e:H a=some (.dK kvs)):DGet H a (kV k) (valV kvs k):=.inl ⟨kvs,k,.inl e,rfl,rfl⟩
section
variable {X:Cx} {pins:List (Addr×Obj)} {σ:St} {H:Hp} {s:Shared} {a:Addr} {y v:V} {u r:Value} {o:Option V} {A:Around} {E:Value->Shared->Prop}
theorem Inv.big (I:Inv X pins σ H s):sysModules<s.heap.objs.size:=by
 have h:mainGlobals<s.heap.objs.size:=(I.mod.glob.keeps I.bk).lt
 exact Nat.lt_trans (by decide) h
theorem Kg {Q:Value->Shared->Prop}(hu:A.units+1<cLine)(I:Inv X pins σ H s)(g:DGet H a y (some v))(ry:RelV y u)(h:∀ w' s',Inv X pins σ H s'->RelV v w'->Q w' s') :
  wpAny (model X.prog X.w) A (getItem (.ref a) u) Q E s:=by
 rcases g with⟨kvs,k,e,ey,l⟩ | ⟨kvs,k,b,e,ey,eb,l⟩
 ·subst ey
  obtain⟨z,hd,vs,rel,dd⟩:=Z7 I.hok e
  obtain⟨w',hw,rw'⟩:=RelO.some_of (v:=v) (o:=valueAt vs k) (by rw [l];exact rel.val k)
  exact wpAny_getItem_of (Ze ry) dd.mapOf hw (h w' _ (I.tok _) rw')
 ·subst ey
  cases (show u=Value.ref b from ry)
  obtain⟨z,hd,xs,rel,dd⟩:=Z8 I.hok e
  obtain⟨w',hw,rw'⟩:=RelO.some_of (v:=v) (o:=(atKey xs k).map (·.2)) (by rw [l];exact rel.val k)
  obtain⟨p,hp,hp2⟩:=uu.mp hw
  refine wpAny_getItem_heap (tupleKind_room_in1 hu) (kK I.hok eb) dd hp ?_
  rw [hp2]
  exact h w' _ (I.tok _) rw'
theorem d_in {Q:Value->Shared->Prop}(hu:A.units+1<cLine)(I:Inv X pins σ H s)(g:DGet H a y o)(ry:RelV y u)(h:∀ s',Inv X pins σ H s'->Q (.bool o.isSome) s') :
  wpAny (model X.prog X.w) A (compareOp .In u (.ref a)) Q E s:=by
 rcases g with⟨kvs,k,e,ey,l⟩ | ⟨kvs,k,b,e,ey,eb,l⟩
 ·subst ey
  obtain⟨z,hd,vs,rel,dd⟩:=Z7 I.hok e
  refine wpAny_in_of (Ze ry) hd dd.mapOf ?_
  rw [← (rel.val k).isSome_eq,← l]
  exact h _ (I.tok _)
 ·subst ey
  cases (show u=Value.ref b from ry)
  obtain⟨z,hd,xs,rel,dd⟩:=Z8 I.hok e
  refine wpAny_in_heap (tupleKind_room_in1 hu) (kK I.hok eb) hd dd ?_
  have q:=(rel.val k).isSome_eq
  rw [gF] at q
  rw [← q,← l]
  exact h _ (I.tok _)
theorem zcG {Q:Value->Shared->Prop}(hu:A.units+1<cLine)(I:Inv X pins σ H s)(g:DGet H a y o)(ry:RelV y u)(h:∀ s',Inv X pins σ H s'->Q (.bool (!o.isSome)) s') :
  wpAny (model X.prog X.w) A (compareOp .NotIn u (.ref a)) Q E s:=by
 rcases g with⟨kvs,k,e,ey,l⟩ | ⟨kvs,k,b,e,ey,eb,l⟩
 ·subst ey
  obtain⟨z,hd,vs,rel,dd⟩:=Z7 I.hok e
  refine wpAny_notIn_of (Ze ry) hd dd.mapOf ?_
  rw [← (rel.val k).isSome_eq,← l]
  exact h _ (I.tok _)
 ·subst ey
  cases (show u=Value.ref b from ry)
  obtain⟨z,hd,xs,rel,dd⟩:=Z8 I.hok e
  refine wpAny_notIn_heap (tupleKind_room_in1 hu) (kK I.hok eb) hd dd ?_
  have q:=(rel.val k).isSome_eq
  rw [gF] at q
  rw [← q,← l]
  exact h _ (I.tok _)
theorem JU {h':Heap}{t':Nat}{ob:HO}(I:Inv X pins σ H s)(mu:Mut (H a))(hs:Heap.SameBut a s.heap h')(he:∃ q,h'.get? a=some q)(new:zR X.prog X.w (upd H a ob) h' a ob) :
  Inv X pins σ (upd H a ob) { s with heap:=h',toks:=t' }:=
 I.write (x:=a) (e:=a) mu (.inl rfl) (fun b q hb z=>(hs.2 b hb).trans z) he new
theorem zaF {P:Program}{w:World}{H':Hp}{h':Heap}{kvs:List (Key×V)}{vs:List (Key×Value)}(z:kvs.length<=sizeLine)(hd:(a == sysModules)=false)(rel:KV kvs vs)(dd:h'.DictOf (zJ P w) a vs) :
  zR P w H' h' a (.dK kvs):=⟨z,hd,vs,rel,dd⟩
theorem Kh {H':Hp}{Q:Unit->Shared->Prop}(hu:A.units+1<cLine)(I:Inv X pins σ H s)(g:DPut H a y v H')(ry:RelV y u)(rv:RelV v r)(h:∀ s',Inv X pins σ H' s'->Q () s') :
  wpAny (model X.prog X.w) A (setItem (.ref a) u r) Q E s:=by
 rcases g with⟨kvs,k,e,ey,l,eH⟩ | ⟨kvs,k,b,e,ey,eb,l,eH⟩
 ·subst ey eH
  obtain⟨z,hd,vs,rel,dd⟩:=zdR I.hok e
  have hz:vs.length<=sizeLine:=by rw [← rel.length];exact z
  have hl:(putK kvs k v).length<=sizeLine:=by have:=vj kvs k v;lia
  refine wpAny_setItem_pairs (hsz:=hz) (Ze ry) dd fun h' dd' hs=>h _ ?_
  have he:∃ q,h'.get? a=some q:=let ⟨q,_,_,hq,_⟩:=dd';⟨q,hq⟩
  exact JU I (by rw [e];exact True.intro) hs he (zaF hl hd (rel.put k rv) dd')
 ·subst ey eH
  cases (show u=Value.ref b from ry)
  obtain⟨z,hd,xs,rel,dd⟩:=zhf I.hok e
  have hz:xs.length<=sizeLine:=by rw [← Paired.length rel];exact z
  have hl:(putK kvs k v).length<=sizeLine:=by have:=vj kvs k v;lia
  refine wpAny_setItem_heap (hsz:=hz) (tupleKind_room_in1 hu) (kK I.hok eb) dd fun h' dd' hs=>h _ ?_
  obtain⟨q,es,ep,hq,h2,h3,h4,_,h5⟩:=dd'
  refine JU I (by rw [e];exact True.intro) hs ⟨q,hq⟩ ⟨hl,hd,_,(rel.put k eb rv).keeps fun c ys ec=>?_,q,es,ep,hq,h2,h3,h4,h5⟩
  rw [zP (zgS ec e (fun z=>nomatch z))]
  exact ec
end
section
variable {X:Cx} {pins:List (Addr×Obj)} {σ:St} {H:Hp} {s:Shared} {a:Addr} {kvs:List (Key×V)} {k:Key} {u:Value} {A:Around} {E:Value->Shared->Prop}
end
theorem W7 {X:Cx}{pins:List (Addr×Obj)}{σ:St}{H:Hp}{s:Shared}{a:Addr}{y:V}{o:Option V}(I:Inv X pins σ H s)(g:DGet H a y o):s.TypeIs (.ref a) "dict":=by
 rcases g with⟨kvs,k,e,_,_⟩ | ⟨kvs,k,b,e,_,_,_⟩
 ·obtain⟨_,_,vs,_,dd⟩:=Z7 I.hok e
  exact dd.typeIs
 ·obtain⟨_,_,xs,_,dd⟩:=Z8 I.hok e
  exact dd.typeIs
section
variable {X:Cx} {o i e value:Expr} {pos pos' tpos:Pos} {td ty tv:TE}
end
theorem zaG {P:Program}{w:World}{H:Hp}(h:Heap)(hb:sysModules<h.objs.size):zR P w H (h.push { cls:=.type "dict",data:=.dict #[] }) h.objs.size (.dK []):=
 ⟨uF _,uZ.mpr (Ne.symm (uX hb)),[],.nil,Heap.DictOf.new h⟩
section
variable {X:Cx} {pos:Pos}
end
noncomputable def JV:List (TE×TE)->St->Hp->(List (V×V)->Hp->Prop)->Prop
 | [],_,H,Q=>Q [] H
 | (tk,tv)::r,σ,H,Q=>tk σ H fun x H1=>tv σ H1 fun y H2=>JV r σ H2 fun ps H3=>Q ((x,y)::ps) H3
noncomputable abbrev VV:List (V×V)->List (Value×Value)->Prop:=Paired fun p q=>RelV p.1 q.1/\RelV p.2 q.2
def PPs (X:Cx)(pos:Pos)(keys:List (Option Expr))(values:Lg)(trs:List (TE×TE)):Prop:=
 ∀ (pins:List (Addr×Obj)) (s:Shared) (σ:St) (H:Hp) (Q:List (V×V)->Hp->Prop),Inv X pins σ H s->JV trs σ H Q ->
  wpAny (model X.prog X.w) X.A (evalPairs (pairTrees keys values X.env pos)) (fun vs s'=>∃ ps H',Inv X pins σ H' s'/\VV ps vs/\Q ps H') X.xe s
theorem zcH {X:Cx}{pos:Pos}:PPs X pos [] [] []:=fun pins s σ H Q I h=>pairTrees_nil_walk ⟨[],H,I,.nil,h⟩
theorem zaH {X:Cx}{pos:Pos}{k v:Expr}{ks:List (Option Expr)}{vs:Lg}{tk tv:TE}{trs:List (TE×TE)}(hk:PE X k tk)(hv:PE X v tv)(hr:PPs X pos ks vs trs) :
  PPs X pos (some k::ks) (v::vs) ((tk,tv)::trs):=fun pins s σ H Q I h=>
 pairTrees_cons_walk (thn (hk pins s σ H _ I h) fun u s1 ⟨x,H1,I1,rx,q1⟩=>thn (hv pins s1 σ H1 _ I1 q1) fun w2 s2 ⟨y,H2,I2,ry,q2⟩=>
  thn (hr pins s2 σ H2 _ I2 q2) fun ws s3 ⟨ps,H3,I3,rel,q3⟩=>⟨(x,y)::ps,H3,I3,.cons ⟨rx,ry⟩ rel,q3⟩)
noncomputable def yn (kvs more:List (Key×V)):List (Key×V):=more.foldl (fun acc kv=>putK acc kv.1 kv.2) kvs
theorem KV.merge:∀ {more:List (Key×V)} {rs:List (Key×Value)} {kvs:List (Key×V)} {vs:List (Key×Value)},KV more rs->KV kvs vs->KV (yn kvs more) (merged vs rs):=by
 intro more rs kvs vs r
 unfold KV at r
 induction r generalizing kvs vs with
 | nil=>intro q;exact q
 | @cons p q ps qs h t ih=>
  intro r0
  have e:KV (putK kvs p.1 p.2) (stored vs q.1 q.2):=by
   have:=r0.put p.1 h.2
   rw [← h.1];exact this
  exact ih e
theorem yc:∀ (more kvs:List (Key×V)),(yn kvs more).length<=kvs.length+more.length
 | [],kvs=>by show kvs.length<=kvs.length+0;omega
 | p::r,kvs=>by
  have h1:=yc r (putK kvs p.1 p.2)
  have h2:=vj kvs p.1 p.2
  show(yn (putK kvs p.1 p.2) r).length<=_
  rw [ua];lia
theorem Z9 {P:Program}{w:World}:∀ {kvs:List (Key×V)} {ws:List (Value×Value)},VV (kvs.map fun kv=>(kV kv.1,kv.2)) ws->∃ rs,Carries (zJ P w) ws rs/\KV kvs rs
 | [],_,r=>by rw [Uy] at r;cases r;exact⟨[],True.intro,.nil⟩
 | p::kvs,_,r=>by
  rw [ur] at r
  cases r with
  | @cons a b as bs h t=>
   obtain⟨rs,c,q⟩:=Z9 (P:=P) (w:=w) t
   obtain⟨b1,b2⟩:=b
   exact⟨(p.1,b2)::rs,⟨Ze h.1,rfl,c⟩,.cons ⟨rfl,h.2⟩ q⟩
noncomputable def zdS (trs:List (TE×TE)):TE:=fun σ H Q=>∀ p,H p=none->JV trs σ (upd H p (.dK [])) fun ps H2=>H2 p=some (.dK [])/\∃ kvs:List (Key×V),ps=kvs.map (fun kv=>(kV kv.1,kv.2))/\kvs.length<=15/\Q (.ref p) (upd H2 p (.dK (yn [] kvs)))
theorem zcI {X:Cx}{pos:Pos}{keys:List (Option Expr)}{values:Lg}{trs:List (TE×TE)}(h:PPs X pos keys values trs)(hall:keys.all (·.isSome)=true)(hl:keys.length=values.length)(h0:keys≠[])
  (h15:keys.length<=15):PE X (.Dict keys values pos) (zdS trs):=by
 intro pins s σ H Q I q
 have hn:=I.hok.fresh (uf s.heap.objs.size)
 have I1:=I.laid (a:=s.heap.objs.size) (o:=.dK []) (h':=s.heap.push { cls:=.type "dict",data:=.dict #[] }) (t':=s.toks) (fun _ _ q=>Heap.get?_push_of_some _ q) (uf _) (zaG s.heap I.big)
 refine wpAny_Dict_walk (knd:=zJ X.prog X.w) hall hl h0 h15 (thn (h pins _ σ _ _ I1 (q _ hn)) fun ws s2 ⟨ps,H2,I2,rel,e,kvs,ep,lk,q2⟩=>?_)
 subst ep
 obtain⟨rs,c,rk⟩:=Z9 (P:=X.prog) (w:=X.w) rel
 obtain⟨z,hd,vs0,r0,dd⟩:=zdR I2.hok e
 cases r0
 refine⟨rs,c,dd,fun h' dd' hs=>⟨.ref s.heap.objs.size,_,?_,rfl,q2⟩⟩
 have hz:(yn [] kvs).length<=sizeLine:=by
  have h1:=yc kvs []
  rw [ud] at h1
  rw [sizeLine_eq];lia
 have he:∃ q,h'.get? s.heap.objs.size=some q:=let ⟨q,_,_,hq,_⟩:=dd';⟨q,hq⟩
 exact JU I2 (by rw [e];exact True.intro) hs he (zaF hz hd (rk.merge .nil) dd')
structure M1 (X:Cx)(o:Expr)(m:Str)(apos:Pos)(e:Expr)(cpos:Pos):Prop where
 base:attributeBase o m X.env (eval o X.env)=eval o X.env
 few:((backTo cpos (starEach [e] X.env)).all (fun x=>!x.1)&&(backToKw cpos (keywordEach [] X.env)).all (fun x=>x.1.isSome)
  && decide (([e]:Lg).length+([]:List Keyword).length+(if ([]:List Keyword).isEmpty then 0 else 1)<30))=true
 line:(apos.endLine == cpos.line)=true
 trees:backTo cpos (starEach [e] X.env)=[(false,eval e X.env)]
structure M2 (X:Cx)(o:Expr)(m:Str)(apos:Pos)(e f:Expr)(cpos:Pos):Prop where
 base:attributeBase o m X.env (eval o X.env)=eval o X.env
 few:((backTo cpos (starEach [e,f] X.env)).all (fun x=>!x.1)&&(backToKw cpos (keywordEach [] X.env)).all (fun x=>x.1.isSome)
  && decide (([e,f]:Lg).length+([]:List Keyword).length+(if ([]:List Keyword).isEmpty then 0 else 1)<30))=true
 line:(apos.endLine == cpos.line)=true
 trees:backTo cpos (starEach [e,f] X.env)=[(false,eval e X.env),(false,eval f X.env)]
def IsD (H:Hp)(a:Addr):Prop:=(∃ kvs,Rd H a (.dK kvs))\/∃ kvs,Rd H a (.dT kvs)
theorem zfb {X:Cx}{pins:List (Addr×Obj)}{σ:St}{H:Hp}{s:Shared}{a:Addr}(I:Inv X pins σ H s)(d:IsD H a) :
  s.TypeIs (.ref a) "dict"/\(∀ b,Value.ref a=.ref b->∃ ob,s.heap.get? b=some ob/\ob.dict=none)/\(a == sysModules)=false:=by
 rcases d with⟨kvs,e⟩ | ⟨kvs,e⟩
 ·obtain⟨_,hd,vs,_,dd⟩:=Z7 I.hok e
  refine⟨dd.typeIs,fun b q=>?_,hd⟩
  cases q
  obtain⟨ob,_,_,h1,h2,_⟩:=dd
  exact⟨ob,h1,h2.2.1⟩
 ·obtain⟨_,hd,xs,_,dd⟩:=Z8 I.hok e
  refine⟨dd.typeIs,fun b q=>?_,hd⟩
  cases q
  obtain⟨ob,_,_,h1,h2,_⟩:=dd
  exact⟨ob,h1,h2.2.1⟩
section
variable {X:Cx} {pins:List (Addr×Obj)} {σ:St} {H:Hp} {s:Shared} {a:Addr} {y d:V} {u r:Value} {o:Option V} {A:Around} {E:Value->Shared->Prop}
theorem zfc {Q:Value->Shared->Prop}(hu:A.units+1<cLine)(I:Inv X pins σ H s)(g:DGet H a y o)(ry:RelV y u)(rd:RelV d r)(h:∀ w' s',Inv X pins σ H s'->RelV (o.getD d) w'->Q w' s') :
  wpAny (model X.prog X.w) A (call (.builtin "dict.get") [.ref a,u,r]) Q E s:=by
 rcases g with⟨kvs,k,e,ey,l⟩ | ⟨kvs,k,b,e,ey,eb,l⟩
 ·subst ey
  obtain⟨z,hd,vs,rel,dd⟩:=Z7 I.hok e
  refine call_meetsIn Uw dd.typeIs gg (U6 _ _ _) (meets_dict_get_default (zJ X.prog X.w) a (Ze ry) hd r) ⟨_,dd.mapOf,h _ _ (I.tok _) ?_⟩
  rw [l]
  exact(rel.val k).getD rd
 ·subst ey
  cases (show u=Value.ref b from ry)
  obtain⟨z,hd,xs,rel,dd⟩:=Z8 I.hok e
  refine call_meetsIn Uw dd.typeIs gg (U6 _ _ _) (meetsH_dict_get_default (tupleKind (zJ X.prog X.w)) a b hd r) ⟨tupleKind_room_in1 hu,k,xs,kK I.hok eb,dd,h _ _ (I.tok _) ?_⟩
  rw [l]
  exact(rel.val k).getD rd
end
noncomputable def zaI (td ty tx:TE):TE:=fun σ H Q=>td σ H fun x H1=>∃ a,x=.ref a/\IsD H1 a/\ty σ H1 fun y H2=>tx σ H2 fun z H3=>∃ o,DGet H3 a y o/\Q (o.getD z) H3
section
variable {X:Cx} {o e f:Expr} {apos cpos:Pos} {td ty tx:TE}
theorem zaJ (hu:X.A.units+1<cLine)(ho:PE X o td)(he:PE X e ty)(hf:PE X f tx)(m:M2 X o "get" apos e f cpos):PE X (.Call (.Attribute o "get" apos) [e,f] [] cpos) (zaI td ty tx):=by
 intro pins s σ H Q I h
 refine wpAny_Call_method m.base m.few m.line Gb Uw PySem.F.type_dict_get (thn (ho pins s σ H _ I h) fun u s1 ⟨x,H1,I1,rx,a,ex,d,q1⟩=>?_)
 subst ex
 obtain rfl:u=Value.ref a:=rx
 obtain⟨t1,t2,_⟩:=zfb I1 d
 refine⟨t1,t2,?_⟩
 rw [m.trees]
 refine Calls.callWith_builtin rfl (Calls.evalArgs_plain (Calls.spliced_cons (thn (he pins s1 σ H1 _ I1 q1) fun iv s2 ⟨y,H2,I2,ry,q2⟩=>
  Calls.spliced_cons (thn (hf pins s2 σ H2 _ I2 q2) fun fv s3 ⟨z,H3,I3,rz,ov,g,q3⟩=>Calls.spliced_nil ?_))))
 exact zfc hu I3 g ry rz fun w' s4 I4 rw'=>⟨_,H3,I4,rw',q3⟩
end
section
variable {X:Cx} {pins:List (Addr×Obj)} {σ:St} {H:Hp} {s:Shared} {a:Addr} {kvs:List (Key×V)} {A:Around} {E:Value->Shared->Prop}
end
section
variable {X:Cx} {pins:List (Addr×Obj)} {σ:St} {H:Hp} {s:Shared} {a:Addr} {y:V} {u:Value} {A:Around} {E:Value->Shared->Prop}
end
end L2
namespace L2
open PySem PySem.Spec PySem.Calls PyProof.Rows PySem.W
theorem Qa:bootBuiltins "tuple" = some (.type "tuple"):=by decide +kernel
section
variable {X:Cx} {k j:Nat} {x:Str} {p pos:Pos} {e:Expr} {es:Lg} {tf:TE} {t:TA}
end
inductive EntK (w:World):List DictEntry->List (Key×V)->Prop
 | nil:EntK w [] []
 | cons {e:DictEntry} {k:Key} {v:V} {es:List DictEntry} {kvs:List (Key×V)}:e.hash=keyH w k->ZW k e.key=true->RelV v e.val->EntK w es kvs->EntK w (e::es) ((k,v)::kvs)
theorem EntK.keys {P:Program}{w:World}{es:List DictEntry}{kvs:List (Key×V)}(h:EntK w es kvs):∀ e∈es,∃ k,(zJ P w).is k e.key=true/\e.hash=(zJ P w).hash k:=by
 induction h with
 | nil=>intro e he;cases he
 | cons h1 h2 h3 h4 ih=>
  intro e he
  rcases uh.mp he with rfl | he
  ·exact⟨_,h2,h1⟩
  ·exact ih e he
theorem EntK.pairs {P:Program}{w:World}{es:List DictEntry}{kvs:List (Key×V)}(h:EntK w es kvs):∃ vs:List (Key×Value),PySem.Pairs (zJ P w) es vs/\KV kvs vs/\vs.map (·.1)=kvs.map (·.1):=by
 induction h with
 | nil=>exact⟨[],.nil,.nil,rfl⟩
 | @cons e k v es kvs h1 h2 h3 h4 ih=>
  obtain⟨vs,i1,i2,i3⟩:=ih
  exact⟨(k,e.val)::vs,.cons h2 rfl i1,.cons ⟨rfl,h3⟩ i2,by rw [ur,ur,i3]⟩
def VU (w:World)(K:Frag)(a:Addr)(kvs:List (Key×V)):Prop:=(a == sysModules)=false/\∃ o es ep,K.lookup a=some o/\o.ExactDict/\o.data=.dict es ep/\EntK w es.toList kvs/\(kvs.map (·.1)).Nodup
section
variable {X:Cx} {pins:List (Addr×Obj)} {σ:L2.St} {H:Hp} {s:Shared} {a:Addr} {kvs:List (Key×V)}
theorem VU.at (I:Inv X pins σ H s)(h:VU X.w X.K a kvs):(a == sysModules)=false/\∃ vs,KV kvs vs/\s.heap.DictOf (zJ X.prog X.w) a vs:=by
 obtain⟨h0,o,es,ep,h1,h2,h3,h4,h5⟩:=h
 obtain⟨vs,i1,i2,i3⟩:=h4.pairs (P:=X.prog)
 exact⟨h0,vs,i2,o,es,ep,I.kIn a o h1,h2,h3,fun e he=>h4.keys (P:=X.prog) e (by simpa using he),i1,by rw [i3];exact h5⟩
end
section
variable {X:Cx} {x:Str} {p apos cpos:Pos} {e f:Expr} {ty tx':TE} {kvs:List (Key×V)}
end
section
variable {X:Cx} {a:Expr} {ta:TE}
noncomputable def zdT (K:Frag)(ta:TE):TT:=fun σ H Q=>ta σ H fun x H'=>∃ k,TruV K x H' k/\Q k H'
theorem Ki {K:Frag}(hK:X.K=K)(ha:PE X a ta)(he:∀ whole,isTrue a X.env whole=(do let v ← whole;standAt a.pos;holding [v] (truthy v)):=by intro _;rfl):PT X a (zdT K ta):=by
 subst hK
 exact zad ha he
end
section
variable {X:Cx}
noncomputable def rIsA (K:Frag)(n:String):List V->Hp->VK->Prop:=fun xs H Q=>∃ x t b,xs=[x,.ty n]/\TyOf K H x t/\PySem.W.kitOne K t (.type n)=some b/\Q (.bl b) H
theorem Kj {K:Frag}{n:String}(hK:X.K=K):qF X (.builtin "isinstance") (rIsA K n):=by
 subst hK
 intro pins s σ H xs us Q I r h
 obtain⟨x,t,b,rfl,ty,e,q⟩:=h
 exact W2 pins s σ H _ us Q I r ⟨x,n,t,b,rfl,ty,e,q⟩
noncomputable def zcJ:V->List V->Hp->VK->Prop:=fun x vs H Q=>∃ l y,x=.str (S l)/\vs=[.str (S y)]/\Q (.bl (y.isPrefixOf l)) H
theorem zaK (l y:Lc):Txt.startswith (S l) (S y)=y.isPrefixOf l:=by
 unfold Txt.startswith Builtin.Str.subAt
 rw [jf,jf]
 by_cases h:y.length<=l.length
 ·have h1:decide (0+y.length<=l.length)=true:=by simpa using h
  rw [h1,UN]
  have e:(S l).cps.extract 0 (0+y.length)=(l.take y.length).toArray:=by
   simp [S]
  rw [e]
  rw [UD,gc,gW,List.prefix_iff_eq_take]
  constructor
  ·intro z
   have:=congrArg Array.toList z
   simp [S] at this
   exact this.symm
  ·intro z
   rw [← z]
   rfl
 ·have h1:decide (0+y.length<=l.length)=false:=by simpa using h
  rw [h1,gq]
  symm
  rw [← Bool.not_eq_true,gW]
  intro z
  exact h z.length_le
theorem Qb:MtR X "str.startswith" zcJ:=by
 intro pins s σ H x xs v us Q I rx rs h
 obtain⟨l,y,rfl,rfl,q⟩:=h
 obtain⟨t,rfl⟩:=rx
 obtain⟨u,rfl,t',rfl⟩:=vals1 rs
 refine SC.startswith ⟨.bl _,H,I,rfl,?_⟩
 rw [zaK]
 exact q
end
section
variable {X:Cx} {pins:List (Addr×Obj)} {σ:L2.St} {H:Hp} {s:Shared} {h':Heap}
theorem Inv.turnedN {t':Nat}{fp:Ld}(I:Inv X pins σ H s)(k:∀ b o,b∉fp->s.heap.get? b=some o->h'.get? b=some o)(hf:∀ b∈fp,FpOk X pins H b) :
  Inv X pins σ H { s with heap:=h',toks:=t' }:=by
 have nn:∀ b u,H b=some u->b∉fp:=fun b u q z=>by
  rw [(hf b z).1] at q;cases q
 refine I.step (g':=s.gens) (d':=s.drawn) (ch:=fp) ?_ (fun b o _ _ hc q _=>k b o hc q) (fun b o _ _ hc q _=>⟨o.slots,k b o hc q⟩) (fun _ _ _ _ n=>n) (fun b o hc q=>⟨o,k b o hc q⟩)
  (fun _ _ q=>q) (fun _ _ _ q=>q) (fun b ps q=>⟨#[],by rw [q];simp⟩) ?_ ?_ I.bare
 ·intro b hb
  obtain⟨e0,e1,_,e3,e4,e5⟩:=hf b hb
  exact⟨e3,e1,e4,e5⟩
 ·intro m hm
  obtain⟨o,es,ep,ho,r⟩:=hm
  exact⟨o,es,ep,k _ o (fun z=>(hf _ z).2.1 rfl) ho,r⟩
 ·intro b u q
  refine(I.hok b u q).stay (fun c v hc z=>k c v ?_ z) (fun _ z=>z) fun _ _ z=>z
  rcases hc with z' | z'
  ·rw [z'];exact nn b u q
  ·exact nn c _ z'
end
noncomputable def Itz (K:Frag)(l1 l2:Addr):It:=⟨fun i H=>∃ xs ys x y,SqL K H l1 xs/\SqL K H l2 ys/\xs[i]? = some x/\ys[i]? = some y,
 fun i H v H'=>∃ p x y,H p=none/\(∀ xs,SqL K H l1 xs->xs[i]? = some x)/\(∀ ys,SqL K H l2 ys->ys[i]? = some y)/\v=.ref p/\H' = upd H p (.tup [x,y]),
 fun i H=>∃ xs ys,SqL K H l1 xs/\SqL K H l2 ys/\(xs.length<=i\/ys.length<=i)⟩
noncomputable def ZipT (z TI TO i1 i2 l1 l2:Addr):Nat->Heap->Prop:=fun i h=>IsZip h z TI TO .none/\IsPair h TI (.ref i1) (.ref i2)/\(∃ a b,IsPair h TO a b)/\h.IsListIter i1 l1 i/\h.IsListIter i2 l2 i
theorem zaL {P:Program}{w:World}{K:Frag}{elts:Lg}{ek:Nat}{epos:Pos}{z TI TO i1 i2 l1 l2:Addr}(D:ZipApart z TI TO i1 i2 l1 l2) :
  Turn P w K (.Tuple elts ek epos) (Itz K l1 l2) [z,TI,TO,i1,i2] z (ZipT z TI TO i1 i2 l1 l2) where
 mem:=by simp
 obj:=fun i h st b hb=>by
  obtain⟨q1,q2,⟨a,b',q3⟩,⟨o4,q4,c4,d4⟩,o5,q5,c5,d5⟩:=st
  simp only [uh,u7,UQ] at hb
  rcases hb with rfl | rfl | rfl | rfl | rfl
  ·exact⟨_,q1,fun v z=>nomatch z⟩
  ·exact⟨_,q2,fun v z=>nomatch z⟩
  ·exact⟨_,q3,fun v z=>nomatch z⟩
  ·exact⟨_,q4,fun v z=>by rw [d4] at z;cases z⟩
  ·exact⟨_,q5,fun v z=>by rw [d5] at z;cases z⟩
 keep:=fun i h h' st k=>by
  obtain⟨q1,q2,⟨a,b',q3⟩,q4,q5⟩:=st
  exact⟨k z (by simp) _ q1,k TI (by simp) _ q2,⟨a,b',k TO (by simp) _ q3⟩,q4.at fun o e=>k i1 (by simp) o e,q5.at fun o e=>k i2 (by simp) o e⟩
 item:=by
  intro X hP hw hK hc i pins s σ H E I hf st hg
  subst hP hw hK
  obtain⟨q1,q2,⟨a,b',q3⟩,q4,q5⟩:=st
  obtain⟨xs,ys,x,y,hx,hy,ex,ey⟩:=hg
  obtain⟨its1,r1,p1,_⟩:=I.list hx
  obtain⟨its2,r2,p2,_⟩:=I.list hy
  obtain⟨u1,e1,ru1⟩:=r1.get ex
  obtain⟨u2,e2,ru2⟩:=r2.get ey
  refine wpAny_pyNext_zip_item D q1 q2 q3 q4 q5 p1.isList p2.isList (x:=u1) (y:=u2) (by simpa using e1) (by simpa using e2) fun h1 a1 a2 a3 a4 a5 a6 a7=>⟨_,rfl,?_⟩
  refine wpAny_letOwnedTupleGo_zip a1 fun h2 hz2 hs2=>?_
  have fresh:H s.heap.objs.size=none:=I.hok.fresh (uf _)
  have ne:∀ b∈[z,TI,TO,i1,i2],b≠s.heap.objs.size:=fun b hb=>by
   obtain⟨_,q⟩:∃ o,s.heap.get? b=some o:=by
    obtain⟨o4,q4',c4,d4⟩:=q4
    obtain⟨o5,q5',c5,d5⟩:=q5
    simp only [uh,u7,UQ] at hb
    rcases hb with rfl | rfl | rfl | rfl | rfl
    ·exact⟨_,q1⟩
    ·exact⟨_,q2⟩
    ·exact⟨_,q3⟩
    ·exact⟨_,q4'⟩
    ·exact⟨_,q5'⟩
   exact uX (Heap.lt_size q)
  have nz:s.heap.objs.size≠z:=Ne.symm (ne z (by simp))
  have hT2:h2.get? s.heap.objs.size=some { cls:=.type "tuple",data:=.seq #[u1,u2] }:=(hs2.2 _ nz).trans a5
  have I0:=I.laid (t':=s.toks) (a:=s.heap.objs.size) (o:=.tup [x,y]) (h':=s.heap.push { cls:=.type "tuple",data:=.seq #[u1,u2] }) (fun b o z=>Heap.get?_push_of_some _ z) (uf _) (by
   refine⟨by show 2<=sizeLine;decide,[u1,u2],.cons ru1 (.cons ru2 .nil),?_⟩
   exact⟨_,Heap.get?_push_size _ rfl,rfl,_,rfl⟩)
  have hf0:∀ b∈[z,TI,TO,i1,i2],FpOk X pins (upd H s.heap.objs.size (.tup [x,y])) b:=fun b hb=>⟨by rw [zP (ne b hb)];exact(hf b hb).1,(hf b hb).2⟩
  have I2:=I0.turnedN (h':=h2) (t':=s.toks) (fp:=[z,TI,TO,i1,i2]) (fun b o hb q=>by
   simp only [uh,u7,UQ,not_or] at hb
   obtain⟨b1,b2,b3,b4,b5⟩:=hb
   by_cases hbs:b=s.heap.objs.size
   ·rw [hbs] at q ⊢
    have z':some ({ cls:=.type "tuple",data:=.seq #[u1,u2] }:Obj)=some o:=(Heap.get?_push_size _ rfl).symm.trans q
    rw [hT2];exact z'
   ·have z':s.heap.get? b=some o:=by
     have z2:=q
     rw [Heap.get?_push_ne _ _ _ hbs] at z2
     exact z2
    exact(hs2.2 b b1).trans (a7 b o b1 b3 b4 b5 z')) hf0
  refine⟨.ref s.heap.objs.size,upd H s.heap.objs.size (.tup [x,y]),I2,rfl,⟨_,x,y,fresh,fun xs' hx'=>by rw [I.list_inj hx' hx];exact ex,fun ys' hy'=>by rw [I.list_inj hy' hy];exact ey,rfl,rfl⟩,?_,fun b hb=>(hf0 b hb).1⟩
  refine⟨hz2,(hs2.2 TI D.TIz).trans (a7 _ _ D.TIz D.TITO D.TIi1 D.TIi2 q2),⟨_,_,(hs2.2 TO D.TOz).trans a2⟩,a3.at fun o e=>(hs2.2 i1 D.i1z).trans e,a4.at fun o e=>(hs2.2 i2 D.i2z).trans e⟩
 done:=by
  intro X hP hw hK hc i pins s σ H E I hf st hg
  subst hP hw hK
  obtain⟨q1,q2,⟨a,b',q3⟩,q4,q5⟩:=st
  obtain⟨xs,ys,hx,hy,hl⟩:=hg
  obtain⟨its1,r1,p1,_⟩:=I.list hx
  obtain⟨its2,r2,p2,_⟩:=I.list hy
  have l1:=r1.length
  have l2:=r2.length
  refine wpAny_pyNext_zip_end (I.ok.hd hc) D q1 q2 q3 q4 q5 p1.isList p2.isList (by
   rcases hl with hl | hl
   ·exact .inl (by simp;lia)
   ·exact .inr (by simp;lia)) fun h1 hk=>⟨rfl,?_⟩
  exact I.turnedN (h':=h1) (t':=s.toks) (fp:=[z,TI,TO,i1,i2]) (fun b o hb q=>by
   simp only [uh,u7,UQ,not_or] at hb
   obtain⟨b1,b2,b3,b4,b5⟩:=hb
   exact hk b o b1 b3 b4 b5 q) hf
 self:=fun A i s Q E st h=>wpAny_pyIter_zip st.1 h
section
variable {X:Cx}
noncomputable def iZip (K:Frag)(ta:TA):TI:=fun σ H R=>ta σ H fun vs H1=>∃ l1 l2,vs=[.ref l1,.ref l2]/\(∃ xs,SqL K H1 l1 xs)/\(∃ ys,SqL K H1 l2 ys)/\R (Itz K l1 l2) H1
theorem zfd:bootBuiltins "zip" = some (.type "zip"):=by decide +kernel
theorem zcK {K:Frag}(hK:X.K=K){a b:Expr}{ta:TA}{p pos:Pos}{elts:Lg}{ek:Nat}{epos:Pos}(hg:Gl X "zip")(hm:X.mg "zip" = none)(ha:PA X [a,b] ta)(hs:starEach [a,b] X.env=[(false,eval a X.env),(false,eval b X.env)]:=by rfl) (hs2:starEach [b] X.env=[(false,eval b X.env)]:=by rfl) :
  PI X (.Tuple elts ek epos) (.Call (.Name "zip" p) [a,b] [] pos) (iZip K ta):=by
 subst hK
 intro pins s σ H R I h
 refine Call_ (xa I hg hm zfd (PyProof.Rows.callWith_type1 (thn (ha pos pins s σ H _ I h) fun us s1 ⟨vs,H1,I1,r1,q1⟩=>?_) (by rw [hs,hs2]) (by rw [hs2];rfl)))
 obtain⟨l1,l2,e,⟨xs,hx⟩,⟨ys,hy⟩,q⟩:=q1
 subst e
 obtain⟨u1,u2,rfl,r1,r2⟩:=vals2 r1
 cases r1
 cases r2
 obtain⟨its1,v1,p1,_⟩:=I1.list hx
 obtain⟨its2,v2,p2,_⟩:=I1.list hy
 have a1:l1<s1.heap.objs.size:=by obtain⟨_,e,_⟩:=p1.isList;exact Heap.lt_size e
 have a2:l2<s1.heap.objs.size:=by obtain⟨_,e,_⟩:=p2.isList;exact Heap.lt_size e
 refine call_zip_2 p1.isList p2.isList fun h' hz hTI hTO hi1 hi2 hsz hk=>wpAny_pyIter_zip hz ?_
 refine⟨_,_,_,_,H1,rfl,I1.kept (t':=s1.toks) hk,zaL (zipApart_new a1 a2),⟨hz,hTI,⟨_,_,hTO⟩,hi1,hi2⟩,fun b hb=>?_,q⟩
 have hbs:s1.heap.objs.size<=b:=by
  simp only [uh,u7,UQ] at hb
  rcases hb with rfl | rfl | rfl | rfl | rfl<;>lia
 exact I1.fpOk hbs (I1.hok.fresh hbs)
end
section
variable {X:Cx}
end
section
variable {X:Cx} {K:Frag} {o:Expr} {to:TE} {name:Str} {apos cpos:Pos} {T id:String} {r:V->List V->Hp->VK->Prop}
theorem VW (hK:X.K=K)(pa:PlainAttrs T)(slot:Slot T name id)(hty:typeOf (.builtin id)=pure (.type "method_descriptor"))(hm:MtR X id r)(ho:PE X o to)
  (hbase:attributeBase o name X.env (eval o X.env)=eval o X.env:=by rfl) (hline:(apos.endLine == cpos.line)=true:=by rfl):PE X (.Call (.Attribute o name apos) [] [] cpos) (tBM0 K T r to):=by
 subst hK
 exact zeU pa slot hty hm ho hbase hline
end
end L2
namespace HT
open PySem PySem.Spec PySem.Calls PyProof.Rows PySem.W
section
variable {prog:Program} {w:World} {A:Around} {E:Value->Shared->Prop} {s:Shared}
theorem vV {t sl:Addr}{items:Array Value}{vl vu:Value}{lo hi:Option Int}{Q:Value->Shared->Prop}(ht:IsTup s.heap t items)(hs:s.heap.IsSliceOf sl vl vu .none)(pl:IsPart vl lo)(pu:IsPart vu hi)
  (hw:sIx items.size 0 lo=0/\sIx items.size items.size hi=items.size) (h:Q (.ref t) s):wpAny (model prog w) A (getItem (.ref t) (.ref sl)) Q E s:=by
 obtain⟨os,hos,hcs,hds⟩:=id hs
 have hTs:s.TypeIs (.ref sl) "slice":=⟨os,hos,hcs⟩
 unfold getItem
 try with_reducible refine wpAny_holding ?_
 first | refine wpAny_bind (wpAny_pure ?_) | skip
 refine wpAny_bind (wpAny_sequenceKey ht.typeIs (by decide) ?_)
 refine wpAny_bind (wpAny_callSpecial?_slot (name:=Str.ofString "__getitem__") ht.typeIs PyProof.Rows.slot_tuple_getitem
  (wpAny_call_entry PyProof.Rows.slot_tuple_getitem ht.typeIs entry_tuple_getitem ?_ (args_tuple_getitem _ _)))
 show wpAny _ _ (Builtin.Tuple.tupleItemsOf (.ref t) >>= _) _ _ s
 refine wpAny_bind (tupleItemsOf_ ht ?_)
 refine wpAny_bind (wpAny_typeOf hTs ?_)
 rw [uA (by decide)]
 refine wpAny_bind (xp hs pl pu ?_)
 have hyes:(((sIx items.size 0 lo:Nat):Int) == 0&&(1:Int) == 1&&(sIx items.size items.size hi - sIx items.size 0 lo) == items.size)=true:=by
  rw [hw.1,hw.2]
  simp
 show wpAny _ _ (if (((sIx items.size 0 lo:Nat):Int) == 0&&(1:Int) == 1&&(sIx items.size items.size hi - sIx items.size 0 lo) == items.size)=true then _ else _) _ _ s
 rw [uA hyes]
 unfold Builtin.Tuple.tupleIsExact
 refine wpAny_bind (wpAny_bind (wpAny_typeOf ht.typeIs (wpAny_pure ?_)))
 rw [uA (by decide)]
 exact wpAny_bind (wpAny_rule (wpAny_pure ⟨_,rfl,wpAny_pure h⟩))
end
end HT
namespace L2
open PySem PySem.Spec PySem.Calls PyProof.Rows PySem.W
section
variable {X:Cx}
end
structure QE (X:Cx)(e:Expr)(t:TE):Prop where
 h:PE X e t
section
set_option autoImplicit true
set_option relaxedAutoImplicit true
theorem qv {X:Cx}(i:Nat){x:Str}{pos:Pos}(hN:X.N[i]? = some x:=by rfl) (hv:Vis X.env.scope x:=by first | exact Or.inl rfl | exact Or.inr (Or.inl rfl) | exact Or.inr (Or.inr rfl)) (hd:(x == ("__debug__":Str))=false:=by decide)
  (hcd:(x == ("__classdict__":Str))=false:=by decide):QE X (.Name x pos) (tVar i):=⟨pv (i:=i) (hN:=hN) (hv:=hv) (hd:=hd) (hcd:=hcd)⟩
end
set_option autoImplicit false
section
variable {X:Cx} {pins:List (Addr×Obj)} {σ:St} {H:Hp} {s:Shared} {a b:Addr} {kvs more:List (Key×V)} {A:Around} {E:Value->Shared->Prop}
end
section
variable {X:Cx} {o e:Expr} {apos cpos:Pos} {td ty:TE}
end
end L2
namespace L2
open PySem PySem.Spec PyProof.Rows
section
variable {X:Cx} {tg:Expr}
end
section
variable {X:Cx} {elt iter:Expr} {x:Str} {px pos:Pos} {ifs:Lg} {scope:Scope} {wi:TI} {tt:TT} {te:TE}
end
section
variable {X:Cx}
noncomputable def rIsB:R2:=fun x y H Q=>∃ c,y=.bl c/\((∃ b,x=.bl b/\Q (.bl (b == c)) H))
noncomputable def zcL:R2:=fun x y H Q=>∃ c,y=.bl c/\((∃ b,x=.bl b/\Q (.bl (!(b == c))) H))
theorem Jp (b c:Bool):isSame (.bool b) (.bool c)=pure (b == c):=by cases b<;>cases c<;>rfl
theorem zfe:OpR X (compareOp .Is) rIsB:=by
 intro pins s σ H x y v u Q I rx ry h
 obtain⟨c,rfl,b,rfl,q⟩:=h
 cases rx
 cases ry
 show wpAny _ _ (do let r ← isSame (.bool b) (.bool c);pure (Value.bool r)) _ _ s
 rw [Jp]
 exact wpAny_bind (wpAny_pure (wpAny_pure (fin_bl I q rfl)))
theorem Kk:OpR X (compareOp .IsNot) zcL:=by
 intro pins s σ H x y v u Q I rx ry h
 obtain⟨c,rfl,b,rfl,q⟩:=h
 cases rx
 cases ry
 show wpAny _ _ (do let r ← isSame (.bool b) (.bool c);pure (Value.bool !r)) _ _ s
 rw [Jp]
 exact wpAny_bind (wpAny_pure (wpAny_pure (fin_bl I q rfl)))
noncomputable def zhg:List V->Hp->VK->Prop:=fun xs H Q=>∃ (p:Addr) (bs:List Bool),xs=[.ref p]/\H p=some (.lst (bs.map V.bl))/\Q (.bl (bs.all id)) H
theorem VX:∀ {bs:List Bool} {us:Lf},Vals (bs.map V.bl) us->us=bs.map Value.bool
 | [],_,h=>by cases h;rfl
 | b::bs,_,h=>by
  cases h with
  | cons a r=>
   cases a
   rw [VX r]
   rfl
theorem Kl (hc:X.calm=true):qF X (.builtin "all") zhg:=by
 intro pins s σ H xs us Q I r h
 obtain⟨p,bs,rfl,hp,q⟩:=h
 obtain⟨u,rfl,hu⟩:=vals1 r
 cases hu
 obtain⟨its,rv,hl⟩:=ju I hp
 have e:=VX rv
 subst e
 have hlt:p<s.heap.objs.size:=by
  obtain⟨o,ho,_⟩:=hl
  exact Heap.lt_size ho
 refine call_all_walk (wpAny_pyIter_list hl ?_)
 refine⟨s.heap.objs.size,_,_,_,_,_,fun i=>bs.getD i false,rfl,Walks.list (A:=X.A.in1) (I.ok.hd hc) _ p (uX hlt) (bs.map Value.bool).toArray,⟨⟨_,Heap.get?_push_size _ rfl,rfl,rfl⟩,?_⟩,?_,fun h' tk kp=>?_⟩
 ·obtain⟨o,ho,h1⟩:=hl
  exact⟨o,Heap.get?_push_of_some _ ho,h1⟩
 ·intro i v s' R E' hv hR
  have hv:(bs.map Value.bool)[i]? = some v:=by simpa using hv
  rw [uv] at hv
  cases hb:bs[i]? with
  | none=>rw [hb] at hv;cases hv
  | some b=>
   rw [hb] at hv
   cases hv
   have hR:R (bs.getD i false) s':=hR
   rw [uU,hb] at hR
   exact wpAny_truthy_bool hR
 ·have I1:Inv X pins σ H { s with heap:=h',toks:=tk }:=I.kept fun b o e=>kp b o (by
   have:=Heap.lt_size e
   intro z
   rw [uj.mp z] at this
   exact u4 _ this) (Heap.get?_push_of_some _ e)
  refine⟨.bl (bs.all id),H,I1,?_,q⟩
  show Value.bool _=Value.bool _
  congr 1
  rw [show(bs.map Value.bool).toArray.size=bs.length by simp]
  rw [UD,gL,gL]
  constructor
  ·intro h x hx
   obtain⟨n,hn,rfl⟩:=List.mem_iff_getElem.mp hx
   have:=h n (Ux.mpr hn)
   rw [uU,um hn] at this
   exact this
  ·intro h n hn
   have hn:=Ux.mp hn
   rw [uU,um hn]
   exact h _ (UM hn)
end
section
variable {X:Cx}
end
theorem zff:bootBuiltins "all" = some (.builtin "all"):=by decide +kernel
section
variable {X:Cx} {a b c:Expr} {ta tb tc:TE} {pos:Pos}
end
section
variable {X:Cx}
end
theorem vW:typeLookup (.type "tuple") "__reversed__" = pure none:=by rw [typeLookup_type,builtinLookup_eq_fast];kernel_rfl
theorem yo:Slot "reversed" "__init__" "object.__init__":=
 .of (owner:="object") (n:="__init__") (by rw [typeLookup_type,builtinLookup_eq_fast];kernel_rfl) (by decide +kernel) (by decide +kernel) (by decide +kernel)
  (by first | exact .inl (by decide +kernel) | exact .inr (by decide +kernel)) (by rw [isSubtype_type];kernel_rfl)
theorem Zz:TypeCalled "reversed" "reversed.__new__" "object.__init__":=
 ⟨by decide +kernel,by decide +kernel,⟨_,_,F.mro_reversed⟩,madeBy_type F.mro_reversed F.lookup_reversed_new (by decide +kernel),by decide +kernel,by rw [isSubtype_type];kernel_rfl,yo⟩
theorem QU (l:Addr)(items:Array Value)(n:Nat)(d:Option Addr)(sl:Array (Option Value))(hz:items.size<=16777216) :
  Meets (Builtin.«reversed.__new__» ⟨[.type "reversed",.ref l],[]⟩) (fun _ R s=>s.heap.get? l=some { cls:=.type "tuple",dict:=d,data:=.seq items n,slots:=sl }/\∀ tk,R (.ok (.ret (Value.ref s.heap.objs.size))) { s with heap:=s.heap.push { cls:=.type "reversed",data:=.fields #[.ref l,rawInt ((items.size:Int) - 1)] },toks:=tk }):=
 .of_wp fun prog w A R s h=>by
  obtain⟨hl,h⟩:=h
  have hT:s.TypeIs (.ref l) "tuple":=⟨_,hl,rfl⟩
  unfold Builtin.«reversed.__new__»
  refine wpAny_bind (wpAny_of_eq (newClass_reversed _) ?_)
  try dsimp only
  refine wpAny_bind (wpAny_of_eq (a:=()) (by first | rfl | kernel_rfl) ?_)
  refine wpAny_bind (wpAny_of_eq (a:=()) (by first | rfl | kernel_rfl) ?_)
  try dsimp only
  refine wpAny_bind (wpAny_specialOf hT vW ?_)
  try dsimp only
  wp_walk
  refine wpAny_of_eq F.sub_tuple_dict ?_
  rw [uq ux]
  refine wpAny_bind (wpAny_specialOf hT slot_tuple_getitem.lookup ?_)
  dsimp only
  rw [uA (by decide)]
  refine wpAny_pure ?_
  rw [uq (by decide)]
  refine wpAny_bind (len_tuple ⟨_,hl,rfl,_,rfl⟩ (by lia) ?_)
  refine wpAny_bind (wpAny_pure ?_)
  show wpAny _ _ (Builtin.SmallTypes.newRecord (Value.type "reversed") [Value.ref l,rawInt ((items.size:Int) - 1)] >>= _) _ _ _
  refine wpAny_bind ?_
  show wpAny _ _ (newObj (.type "reversed") (.fields #[Value.ref l,rawInt ((items.size:Int) - 1)])) _ _ _
  exact wpAny_newObj_type (wpAny_pure ⟨_,rfl,h _⟩)
noncomputable def JW (l:Addr)(i:Int):Obj:={ cls:=.type "reversed",data:=.fields #[.ref l,rawInt i] }
def wF (h:Heap)(a l:Addr)(i:Int):Prop:=∃ o,h.get? a=some o/\o.cls=.type "reversed"/\o.data=.fields #[.ref l,rawInt i]
section
variable {prog:Program} {w:World} {A:Around} {E:Value->Shared->Prop} {s:Shared}
theorem wF.typeIs {a l:Addr}{i:Int}(x:wF s.heap a l i):s.TypeIs (.ref a) "reversed":=let ⟨o,ho,hc,_⟩:=x;⟨o,ho,hc⟩
theorem wF.at {h h':Heap}{a l:Addr}{i:Int}(x:wF h a l i)(e:∀ o,h.get? a=some o->h'.get? a=some o):wF h' a l i:=let ⟨o,ho,r⟩:=x;⟨o,e _ ho,r⟩
theorem vX {l:Addr}{items:Array Value}{Q:Value->Shared->Prop}(hl:s.heap.IsTuple l items)(hz:items.size<=16777216)
  (h:∀ tk,Q (.ref s.heap.objs.size) { s with heap:=s.heap.push (JW l ((items.size:Int) - 1)),toks:=tk }):wpAny (model prog w) A (call (.type "reversed") [.ref l]) Q E s:=by
 obtain⟨⟨cls,dd,data,sl⟩,ho,hc,k,hd⟩:=id hl
 simp only at hc hd
 subst hc hd
 exact callType_new Zz (by decide) (F.typeCall_reversed_1 _) (F.newCall_reversed_1 _) (fun obj=>F.args_object_init_2 obj _) F.entry_reversed_new (QU l items k dd sl hz) ⟨ho,fun tk=>⟨⟨_,Heap.get?_push_size _ rfl,rfl⟩,h tk⟩⟩
theorem Jq:Manifest.owners.lookup (String.ofList ['d','e','s','r','e','v','e','r'].reverse)=some Manifest.sig_reversed:=by kernel_rfl
theorem jl:Slot "reversed" "__next__" "reversed.__next__":=
 .of (owner:="reversed") (n:="__next__") (by rw [typeLookup_type,builtinLookup_eq_fast];kernel_rfl) (by decide +kernel) (by decide +kernel) (by decide +kernel)
  (by first | exact .inl (by decide +kernel) | exact .inr (by decide +kernel)) (by rw [isSubtype_type];kernel_rfl)
theorem vk:entryFor table "reversed.__next__" = some Builtin.«reversed.__next__»:=entryFor_of_tree (by kernel_rfl)
theorem xW (a:Value):argsOk "reversed.__next__" ⟨[a],[]⟩:=by
 unfold argsOk;rw [signature?_of (id:="reversed.__next__") (n:=['_','_','t','x','e','n','_','_']) (o:=['d','e','s','r','e','v','e','r']) (by kernel_rfl) Jq];kernel_rfl
theorem yd:Slot "reversed" "__iter__" "reversed.__iter__":=
 .of (owner:="reversed") (n:="__iter__") (by rw [typeLookup_type,builtinLookup_eq_fast];kernel_rfl) (by decide +kernel) (by decide +kernel) (by decide +kernel)
  (by first | exact .inl (by decide +kernel) | exact .inr (by decide +kernel)) (by rw [isSubtype_type];kernel_rfl)
theorem ZA (a:Value):argsOk "reversed.__iter__" ⟨[a],[]⟩:=by
 unfold argsOk;rw [signature?_of (id:="reversed.__iter__") (n:=['_','_','r','e','t','i','_','_']) (o:=['d','e','s','r','e','v','e','r']) (by kernel_rfl) Jq];kernel_rfl
theorem Qc:entryFor table "reversed.__iter__" = some Builtin.«dict_keyiterator.__iter__»:=
 entryFor_alias (id':="dict_keyiterator.__iter__") (by kernel_rfl) (by first | rfl | decide +kernel | (unfold String.splitOn;simp +decide [String.splitOnAux])) (by decide +kernel) (by kernel_rfl)
theorem wU {it l:Addr}{i:Int}{Q:Value->Shared->Prop}(hit:wF s.heap it l i)(h:Q (.ref it) s):wpAny (model prog w) A (pyIter (.ref it)) Q E s:=by
 refine wpAny_pyIter_slot hit.typeIs yd (wpAny_call_entry yd hit.typeIs Qc ?_ (ZA _))
 show wpAny _ _ (ret (.ref it)) _ _ s
 exact wpAny_pure ⟨_,rfl,"reversed",_,hit.typeIs,jl.lookup,h⟩
theorem xK {it l:Addr}{i:Nat}{items:Array Value}{x:Value}{Q:Option Value->Shared->Prop}(hit:wF s.heap it l (i:Int))(hl:s.heap.IsTuple l items)(hz:items.size<=16777216)(hx:items[i]? = some x)
  (hQ:∀ h' tk,wF h' it l ((i:Int) - 1)->Heap.SameBut it s.heap h'->Q (some x) { s with heap:=h',toks:=tk }):wpAny (model prog w) A (pyNext (.ref it)) Q E s:=by
 obtain⟨o,ho,hc,hd⟩:=id hit
 unfold pyNext
 refine wpAny_bind (wpAny_attempt (wpAny_callSpecial?_slot (name:=Str.ofString "__next__") hit.typeIs jl
  (wpAny_call_entry jl hit.typeIs vk ?_ (xW _))))
 unfold Builtin.«reversed.__next__»
 refine wpAny_bind (wpAny_of_eq (a:=(Value.ref it,[])) rfl ?_)
 try dsimp only
 refine wpAny_bind (wpAny_field ho hd (x:=.ref l) rfl ?_)
 refine wpAny_bind (wpAny_field ho hd (x:=rawInt (i:Int)) rfl ?_)
 show wpAny _ _ (if (i:Int)<0 then _ else _) _ _ s
 rw [uq (by lia)]
 refine wpAny_bind (wpAny_specialOf hl.typeIs slot_tuple_getitem.lookup ?_)
 rw [uq (by decide)]
 refine wpAny_bind (wpAny_mkInt ?_)
 refine wpAny_bind (wpAny_attempt ?_)
 obtain⟨hlt,_⟩:=Ud.mp hx
 refine getItem_tuple (j:=i) hl (by lia) (by lia) (by unfold seqIndex?;simp;lia) hx ?_
 show wpAny _ _ (field (.ref it) 1 >>= _) _ _ _
 refine wpAny_bind (wpAny_field ho hd (x:=rawInt (i:Int)) rfl ?_)
 refine wpAny_bind (wpAny_setField ho hd (by simp) ?_)
 refine wpAny_pure ⟨x,rfl,wpAny_pure (hQ _ _ ?_ (Heap.SameBut.update ..))⟩
 exact⟨_,Heap.get?_update_self _ ho (Obj.isFreed_of_fields (Obj.data_mapFields hd _)),(Obj.cls_mapFields ..).trans hc,by
  rw [Obj.data_mapFields hd];simp⟩
theorem ve {it l:Addr}{Q:Option Value->Shared->Prop}(hh:A.handled=none)(hit:wF s.heap it l (-1))
  (hQ:∀ h',Heap.ExtBut it s.heap h'->Q none { s with heap:=h' }):wpAny (model prog w) A (pyNext (.ref it)) Q E s:=by
 obtain⟨o,ho,hc,hd⟩:=id hit
 unfold pyNext
 refine wpAny_bind (wpAny_attempt (wpAny_callSpecial?_slot (name:=Str.ofString "__next__") hit.typeIs jl
  (wpAny_call_entry jl hit.typeIs vk ?_ (xW _))))
 unfold Builtin.«reversed.__next__»
 refine wpAny_bind (wpAny_of_eq (a:=(Value.ref it,[])) rfl ?_)
 try dsimp only
 refine wpAny_bind (wpAny_field ho hd (x:=.ref l) rfl ?_)
 refine wpAny_bind (wpAny_field ho hd (x:=rawInt (-1)) rfl ?_)
 show wpAny _ _ (if (-1:Int)<0 then _ else _) _ _ s
 rw [uA (by decide)]
 refine wpAny_bind (wpAny_rule ?_)
 refine wpAny_bind ?_
 show wpAny _ _ (setField (.ref it) 1 (rawInt (-1)) >>= fun _=>setField (.ref it) 0 .none) _ _ _
 refine wpAny_bind (wpAny_setField ho hd (by simp) ?_)
 have ho2:(s.heap.update it (Obj.mapFields fun vs=>vs.set! 1 (rawInt (-1)))).get? it=some _:=Heap.get?_update_self _ ho (Obj.isFreed_of_fields (Obj.data_mapFields hd _))
 have hd2:=Obj.data_mapFields hd (fun vs=>vs.set! 1 (rawInt (-1)))
 have e1:Heap.ExtBut it s.heap (s.heap.update it (Obj.mapFields fun vs=>vs.set! 1 (rawInt (-1)))):=(Heap.SameBut.update ..).extBut
 refine wpAny_setField ho2 hd2 (by simp) ?_
 have e2:=e1.trans (Heap.SameBut.update (s.heap.update it (Obj.mapFields fun vs=>vs.set! 1 (rawInt (-1)))) it (Obj.mapFields fun vs=>vs.set! 0 .none)).extBut
 refine wpAny_bind ?_
 show wpAny _ _ (newExc (.type "StopIteration") [] >>= _) _ _ _
 refine wpAny_bind ?_
 simp only [newExc,newTuple]
 refine wpAny_bind (wpAny_newObj_type ?_ (by size_fits))
 refine wpAny_bind (m:=firstArgMember _ _) (wpAny_of_eq (a:=Value.none) (by first | rfl | (simp only [firstArgMember];rfl)) ?_)
 refine wpAny_newObj_type ?_ (by size_fits)
 simp only [raiseNew]
 refine wpAny_bind (wpAny_handled ?_)
 first | rw [show A.in1.handled=none from hh] | rw [hh]
 refine wpAny_bind (wpAny_pure (wpAny_throw ?_))
 refine wpAny_bind (wpAny_isInstance (T:="StopIteration") (b:=true) ⟨_,Heap.get?_push_size _ rfl,rfl⟩ isSubtype_stop ?_)
 exact wpAny_pure (hQ _ ((e2.push _).push _))
end
section
variable {X:Cx} {tg:Expr}
noncomputable def ItRT (K:Le)(a:Addr)(n:Nat):It:=
 ⟨fun i H=>∃ xs x,SqT K H a xs/\xs.length=n/\xs.reverse[i]? = some x,fun i H x H'=>H' = H/\∀ xs,SqT K H a xs->xs.reverse[i]? = some x,fun i _=>i=n⟩
theorem Km {P:Program}{w:World}{K:Le}{tg:Expr}(a it:Addr)(n:Nat):Turn P w K tg (ItRT K a n) [it] it (fun i h=>wF h it a ((n:Int) - 1 - (i:Int))) where
 mem:=by simp
 obj:=fun i h st b hb=>by
  have e:b=it:=by simpa using hb
  subst e
  obtain⟨o,e,c,d⟩:=st
  exact⟨o,e,fun v z=>by rw [d] at z;cases z⟩
 keep:=fun i h h' st k=>st.at fun o e=>k it (by simp) o e
 item:=by
  intro X hP hw hK hc i pins s σ H E I hf st hg
  subst hP hw hK
  obtain⟨xs,x,hq,hn,hx⟩:=hg
  obtain⟨its,rv,p,hz⟩:=I.tuple hq
  have hlen:=rv.length
  have hil:i<xs.length:=by
   have:=(uM.mp hx).1
   rwa [UC] at this
  have hx2:xs[xs.length - 1 - i]? = some x:=by rw [← List.getElem?_reverse hil];exact hx
  obtain⟨u,hu,ru⟩:=rv.get hx2
  obtain⟨f0,f1,f2,f3,f4,f5⟩:=hf it (by simp)
  have ei:(n:Int) - 1 - (i:Int)=((xs.length - 1 - i:Nat):Int):=by lia
  rw [ei] at st
  refine xK st (show s.heap.IsTuple a its.toArray from p) (by rw [ue,← hlen];rw [sizeLine_eq] at hz;exact hz) (x:=u) (by simpa using hu) fun h' tk st' sb=>?_
  have I1:Inv X pins σ H { s with heap:=h',toks:=tk }:=I.turned (fun b o hb e=>(sb.2 b hb).trans e) f0 f1 f3 f4 f5
  have e2:((xs.length - 1 - i:Nat):Int) - 1=(n:Int) - 1 - ((i+1:Nat):Int):=by lia
  rw [e2] at st'
  obtain⟨o,e,c,d⟩:=id st'
  exact⟨u,rfl,Jd (s:={ s with heap:=h',toks:=tk }) e c d (by decide) ⟨x,H,I1,ru,⟨rfl,fun ys hy=>by rw [I.tuple_inj hy hq];exact hx⟩,st',fun b hb=>(hf b hb).1⟩⟩
 done:=by
  intro X hP hw hK hc i pins s σ H E I hf st hg
  subst hP hw hK
  have hg:i=n:=hg
  subst hg
  obtain⟨f0,f1,f2,f3,f4,f5⟩:=hf it (by simp)
  rw [show(i:Int) - 1 - (i:Int) = -1 by lia] at st
  exact ve (I.ok.hd hc) st fun h' eb=>⟨rfl,I.turned (t':=s.toks) (fun b o hb e=>eb b o hb e) f0 f1 f3 f4 f5⟩
 self:=fun _ _ _ _ _ st h=>wU st h
noncomputable def ItRL (K:Le)(a:Addr)(n:Nat):It:=
 ⟨fun i H=>∃ xs x,SqL K H a xs/\xs.length=n/\xs.reverse[i]? = some x,fun i H x H'=>H' = H/\∀ xs,SqL K H a xs->xs.reverse[i]? = some x,fun i _=>i=n⟩
theorem Kn {P:Program}{w:World}{K:Le}{tg:Expr}(a it:Addr)(n:Nat):Turn P w K tg (ItRL K a n) [it] it (fun i h=>h.IsRevIter it a ((n:Int) - 1 - (i:Int))) where
 mem:=by simp
 obj:=fun i h st b hb=>by
  have e:b=it:=by simpa using hb
  subst e
  obtain⟨o,e,c,d⟩:=st
  exact⟨o,e,fun v z=>by rw [d] at z;cases z⟩
 keep:=fun i h h' st k=>st.at fun o e=>k it (by simp) o e
 item:=by
  intro X hP hw hK hc i pins s σ H E I hf st hg
  subst hP hw hK
  obtain⟨xs,x,hq,hn,hx⟩:=hg
  obtain⟨its,rv,p,hz⟩:=I.list hq
  have hlen:=rv.length
  have hil:i<xs.length:=by
   have:=(uM.mp hx).1
   rwa [UC] at this
  have hx2:xs[xs.length - 1 - i]? = some x:=by rw [← List.getElem?_reverse hil];exact hx
  obtain⟨u,hu,ru⟩:=rv.get hx2
  obtain⟨f0,f1,f2,f3,f4,f5⟩:=hf it (by simp)
  have ei:(n:Int) - 1 - (i:Int)=((xs.length - 1 - i:Nat):Int):=by lia
  rw [ei] at st
  refine wpAny_pyNext_rev_item st p.isList (x:=u) (by simpa using hu) fun h' st' sb=>?_
  have I1:Inv X pins σ H { s with heap:=h' }:=I.turned (t':=s.toks) (fun b o hb e=>(sb.2 b hb).trans e) f0 f1 f3 f4 f5
  have e2:((xs.length - 1 - i:Nat):Int) - 1=(n:Int) - 1 - ((i+1:Nat):Int):=by lia
  rw [e2] at st'
  obtain⟨o,e,c,d⟩:=id st'
  exact⟨u,rfl,Jd (s:={ s with heap:=h' }) e c d (by decide) ⟨x,H,I1,ru,⟨rfl,fun ys hy=>by rw [I.list_inj hy hq];exact hx⟩,st',fun b hb=>(hf b hb).1⟩⟩
 done:=by
  intro X hP hw hK hc i pins s σ H E I hf st hg
  subst hP hw hK
  have hg:i=n:=hg
  subst hg
  obtain⟨f0,f1,f2,f3,f4,f5⟩:=hf it (by simp)
  rw [show(i:Int) - 1 - (i:Int) = -1 by lia] at st
  exact wpAny_pyNext_rev_end (I.ok.hd hc) st fun h' eb=>⟨rfl,I.turned (t':=s.toks) (fun b o hb e=>eb b o hb e) f0 f1 f3 f4 f5⟩
 self:=fun _ _ _ _ _ st h=>wpAny_pyIter_revIter st h
theorem Zf:bootBuiltins "reversed" = some (.type "reversed"):=by decide +kernel
noncomputable def zhh (K:Le)(ta:TA):TI:=fun σ H R=>ta σ H fun vs H1=>∃ l xs,vs=[.ref l]/\SqT K H1 l xs/\R (ItRT K l xs.length) H1
noncomputable def zhi (K:Le)(ta:TA):TI:=fun σ H R=>ta σ H fun vs H1=>∃ l xs,vs=[.ref l]/\SqL K H1 l xs/\R (ItRL K l xs.length) H1
theorem zcM {a:Expr}{ta:TA}{p pos:Pos}{K:Le}(hK:X.K=K)(hg:Gl X "reversed")(hm:X.mg "reversed" = none)(ha:PA X [a] ta)(hs:starEach [a] X.env=[(false,eval a X.env)]:=by rfl) :
  PI X tg (.Call (.Name "reversed" p) [a] [] pos) (zhh K ta):=by
 subst hK
 intro pins s σ H R I h
 refine Call_ (xa I hg hm Zf (PyProof.Rows.callWith_type1 (thn (ha pos pins s σ H _ I h) fun us s1 ⟨vs,H1,I1,r1,q1⟩=>?_) hs rfl))
 obtain⟨l,xs,e,hq,q⟩:=q1
 subst e
 obtain⟨u,rfl,ru⟩:=r1.one
 cases ru
 obtain⟨its,rv,pl,hz⟩:=I1.tuple hq
 have hlen:=rv.length
 rw [sizeLine_eq] at hz
 refine vX (show s1.heap.IsTuple l its.toArray from pl) (by rw [ue,← hlen];exact hz) fun tk=>?_
 have hit:wF (s1.heap.push (JW l ((its.toArray.size:Int) - 1))) s1.heap.objs.size l ((xs.length:Int) - 1 - ((0:Nat):Int)):=⟨_,Heap.get?_push_size _ rfl,rfl,by simp [JW,hlen]⟩
 refine wU (s:={ s1 with heap:=s1.heap.push (JW l ((its.toArray.size:Int) - 1)),toks:=tk }) hit ?_
 refine⟨s1.heap.objs.size,[s1.heap.objs.size],_,_,H1,rfl,I1.kept (t':=tk) (fun b o e=>Heap.get?_push_of_some _ e),Km l _ xs.length,hit,fun b hb=>?_,q⟩
 have e:b=s1.heap.objs.size:=by simpa using hb
 subst e
 exact I1.fpOk (uf _) (I1.hok.fresh (uf _))
theorem zcN {a:Expr}{ta:TA}{p pos:Pos}{K:Le}(hK:X.K=K)(hg:Gl X "reversed")(hm:X.mg "reversed" = none)(ha:PA X [a] ta)(hs:starEach [a] X.env=[(false,eval a X.env)]:=by rfl) :
  PI X tg (.Call (.Name "reversed" p) [a] [] pos) (zhi K ta):=by
 subst hK
 intro pins s σ H R I h
 refine Call_ (xa I hg hm Zf (PyProof.Rows.callWith_type1 (thn (ha pos pins s σ H _ I h) fun us s1 ⟨vs,H1,I1,r1,q1⟩=>?_) hs rfl))
 obtain⟨l,xs,e,hq,q⟩:=q1
 subst e
 obtain⟨u,rfl,ru⟩:=r1.one
 cases ru
 obtain⟨its,rv,pl,hz⟩:=I1.list hq
 have hlen:=rv.length
 refine call_reversed_list pl.isList ?_
 have hit:(s1.heap.push (revObj l ((its.toArray.size:Int) - 1))).IsRevIter s1.heap.objs.size l ((xs.length:Int) - 1 - ((0:Nat):Int)):=⟨_,Heap.get?_push_size _ rfl,rfl,by simp [revObj,hlen]⟩
 refine wpAny_pyIter_revIter (s:={ s1 with heap:=s1.heap.push (revObj l ((its.toArray.size:Int) - 1)) }) hit ?_
 refine⟨s1.heap.objs.size,[s1.heap.objs.size],_,_,H1,rfl,I1.kept (t':=s1.toks) (fun b o e=>Heap.get?_push_of_some _ e),Kn l _ xs.length,hit,fun b hb=>?_,q⟩
 have e:b=s1.heap.objs.size:=by simpa using hb
 subst e
 exact I1.fpOk (uf _) (I1.hok.fresh (uf _))
end
section
variable {X:Cx}
variable {st:Stmt} {rest:List Stmt} {t u:TS}
end
section
variable {X:Cx} {pos:Pos}
end
theorem QW (items:Array Value):slicePick items none none (some (-1))=items.toList.reverse.toArray:=by
 have e:sliceBounds none none (some (-1)) items.size=((items.size:Int) - 1,-1,-1):=by
  simp only [sliceBounds,Option.getD_some]
  rfl
 unfold slicePick
 rw [e]
 congr 1
 have hc:sliceRange ((items.size:Int) - 1) (-1) (-1)=(List.range items.size).map fun k=>items.size - 1 - k:=by
  unfold sliceRange
  simp only [show ¬ ((-1:Int) > 0) by decide,UP]
  have hn:(if (items.size:Int) - 1 > -1 then((items.size:Int) - 1 - -1 - -1 - 1) / (- -1) else 0).toNat=items.size:=by
   split
   ·have:((items.size:Int) - 1 - -1 - -1 - 1) / (- -1)=items.size:=by
     rw [show(- -1:Int)=1 from rfl,Int.ediv_one];lia
    rw [this];simp
   ·have:items.size=0:=by lia
    rw [this];rfl
  rw [hn]
  refine u9 fun k hk=>?_
  have:=Ux.mp hk
  lia
 rw [hc]
 clear hc e
 obtain⟨xs⟩:=items
 simp only [ue,List.getElem?_toArray]
 rw [List.filterMap_map]
 have:∀ (n:Nat) (hn:n<=xs.length),(List.range n).filterMap (fun k=>xs[xs.length - 1 - k]?)=(xs.drop (xs.length - n)).reverse:=by
  intro n
  induction n with
  | zero=>intro _;simp
  | succ n ih=>
   intro hn
   rw [List.range_succ,List.filterMap_append,ih (by lia)]
   have hlt:xs.length - 1 - n<xs.length:=by lia
   have hd:xs.drop (xs.length - (n+1))=xs[xs.length - 1 - n]::xs.drop (xs.length - n):=by
    rw [show xs.length - (n+1)=xs.length - 1 - n by lia,UB hlt,show xs.length - 1 - n+1=xs.length - n by lia]
   rw [hd,Ul]
   congr 1
   simp [um hlt]
 have h:=this xs.length (uf _)
 simp only [UA,gr] at h
 exact h
section
variable {X:Cx} {e:Expr} {te:TE} {pos p2:Pos} {K:Le}
noncomputable def zhj (K:Le)(te:TE):TE:=fun σ H Q=>te σ H fun x H1=>∃ a xs,x=.ref a/\SqL K H1 a xs/\∀ p,H1 p=none->Q (.ref p) (upd H1 p (.lst xs.reverse))
theorem zaM {xs:List V}{us:Lf}(h:Vals xs us):Vals xs.reverse us.reverse:=by
 induction h with
 | nil=>exact .nil
 | cons r _ ih=>
  rw [Ul,Ul]
  exact ih.append (.cons r .nil)
theorem zcO {st:Expr}(he:PE X e te)(hst:PO X (some st) (fun _ H Q=>Q (some (-1)) H)):PE X (.Subscript e (.Slice none none (some st) p2) pos) (zhj X.K te):=by
 intro pins s σ H Q I h
 refine Subscript_ (thn (he pins s σ H _ I h) fun v s1 ⟨x,H1,I1,r1,q1⟩=>?_)
 obtain⟨a,xs,rfl,hx,q⟩:=q1
 refine wpAny_Slice ?_
 rw [evalPart_none]
 refine wpAny_pure (wpAny_pure (thn (hst pins s1 σ H1 (fun o H'=>o=some (-1)/\H' = H1) I1 ⟨rfl,rfl⟩) fun vs s3 ⟨o,H3,I3,ps,hq⟩=>?_))
 obtain⟨rfl,rfl⟩:=hq
 have I4:Inv X pins σ H3 { s3 with heap:=s3.heap.push { cls:=.type "slice",data:=.fields #[.none,.none,vs] } }:=I3.kept (t':=s3.toks) fun b ob q=>Heap.get?_push_of_some _ q
 cases r1
 obtain⟨its,r,ht,hz⟩:=I4.list hx
 have hlen:=r.length
 show wpAny (model X.prog X.w) X.A (subscriptTail e (.Slice none none (some st) p2) (.ref a) (.ref s3.heap.objs.size)) (EP X pins σ Q) X.xe { s3 with heap:=s3.heap.push { cls:=.type "slice",data:=.fields #[.none,.none,vs] } }
 refine tail_any (ops:=[.ref a,.ref s3.heap.objs.size]) ht.isList.typeIs PySem.F.slot_list_getitem.lookup ?_ (by with_unfolding_all rfl)
 refine wpAny_getItem_list_slice ht.isList (Heap.IsSliceOf.new ..) .none .none ps (by simp) ?_ (by rw [ue]<;>lia)
 rw [QW]
 refine⟨.ref _,_,I4.laid (t':=s3.toks) (o:=.lst xs.reverse) (fun b ob q=>Heap.get?_push_of_some _ q) (uf _) ?_,rfl,q _ (I4.hok.fresh (uf _))⟩
 exact⟨by rw [UC];exact hz,_,0,zaM r,Heap.get?_push_size _ rfl⟩
theorem zhk {j p3 p4}:PO X (some (.UnaryOp .USub (.Constant (.int 1) j p3) p4)) (fun _ H Q=>Q (some (-1)) H):=fun pins s σ H Q I h=>zcu (zdL K9 KY) pins s σ H Q I ⟨1,rfl,-1,rfl,h⟩
end
variable {X:Cx}
noncomputable def zfg:V->List V->Hp->VK->Prop:=fun x vs H Q=>∃ (l y:Lc) (i:Int),x=.str (S l)/\vs=[.str (S y),.int i]/\Q (.int (Txt.find3 (S l) (S y) i)) H
theorem zaN:MtR X "str.find" zfg:=by
 intro pins s σ H x xs v us Q I rx rs h
 obtain⟨l,y,i,rfl,rfl,q⟩:=h
 obtain⟨t,rfl⟩:=rx
 cases rs with
 | cons r1 rs=>
  obtain⟨t1,rfl⟩:=r1
  cases rs with
  | cons r2 rs=>
   obtain⟨t2,rfl⟩:=r2
   cases rs
   exact SC.find3 ⟨.int _,H,I.tok _,⟨_,rfl⟩,q⟩
noncomputable def zfh:V->List V->Hp->VK->Prop:=fun x vs H Q=>∃ (l y:Lc),x=.str (S l)/\vs=[.str (S y)]/\y≠[]/\l.length<=1000000/\∀ p,H p=none->Q (.ref p) (upd H p (.lst ((Txt.split (S l) (S y)).map V.str)))
theorem Qd (sep:Str)(h:0<sep.length):∀ xs:Lh,xs.length<=(sep.join xs).length+1/\∀ x∈xs,x.length<=(sep.join xs).length
 | []=>⟨uF _,fun _ h=>by cases h⟩
 | [x]=>by
  have e:sep.join [x]=x:=by simp [Str.join]
  rw [e]
  exact⟨by simp,fun y hy=>by rw [uj.mp hy];exact uf _⟩
 | x::y::xs=>by
  obtain⟨h1,h2⟩:=Qd sep h (y::xs)
  have e:(sep.join (x::y::xs)).length=x.length+sep.length+(sep.join (y::xs)).length:=by
   simp only [Str.join]
   have al:∀ a b:Str,(a++b).length=a.length+b.length:=fun a b=>by
    show(Str.append a b).length=_
    simp [Str.append,Str.length]
   rw [al,al]
  rw [e]
  refine⟨by simp only [ua] at h1 ⊢;lia,fun z hz=>?_⟩
  rcases uh.mp hz with rfl | hz
  ·lia
  ·have:=h2 z hz;lia
theorem Jr:∀ (xs:Lh) (k:Nat),Vals (xs.map V.str) (strsFrom k xs)
 | [],k=>.nil
 | x::xs,k=>.cons ⟨k,rfl⟩ (Jr xs (k+1))
theorem Ko:MtR X "str.split" zfh:=by
 intro pins s σ H x xs v us Q I rx rs h
 obtain⟨l,y,rfl,rfl,hy,hl,q⟩:=h
 obtain⟨t,rfl⟩:=rx
 obtain⟨u,rfl,t',rfl⟩:=vals1 rs
 have y0:((S y).length == 0)=false:=by
  rw [jf]
  cases y with
  | nil=>exact absurd rfl hy
  | cons _ _=>rfl
 have yp:0<(S y).length:=by
  rw [jf]
  cases y with
  | nil=>exact absurd rfl hy
  | cons _ _=>simp
 have hj:=Qd (S y) yp (Txt.split (S l) (S y))
 rw [StrLaws.join_split,jf] at hj
 have fin:∀ (its:Lf) (n tk:Nat),Vals ((Txt.split (S l) (S y)).map V.str) its->EP X pins σ Q (Value.ref s.heap.objs.size) { heap:=s.heap.push { cls:=.type "list",data:=.seq its.toArray n },gens:=s.gens,drawn:=s.drawn,toks:=tk,os:=s.os }:=fun its n tk hv=>
  ⟨.ref s.heap.objs.size,_,I.laid (t':=tk) (o:=.lst ((Txt.split (S l) (S y)).map V.str)) (fun b ob q=>Heap.get?_push_of_some _ q) (uf _) ⟨by rw [ug,sizeLine_eq];lia,its,n,hv,Heap.get?_push_size _ rfl⟩,rfl,q _ (I.hok.fresh (uf _))⟩
 cases c1:(decide ((S l).length<(S y).length)||decide (Builtin.Str.strKind (S l)<Builtin.Str.strKind (S y))) with
 | true=>
  have e:Txt.split (S l) (S y)=[S l]:=by unfold Txt.split;rw [uA c1]
  refine call_meets UJ (typeIs_str s (S l) t) U7 (U1 _ _) (meets_str_split_cannot_occur _ _ _ _ c1) ?_
  exact fin [.str (S l) t] 0 s.toks (by rw [e];exact .cons ⟨t,rfl⟩ .nil)
 | false=>
  cases c2:(Builtin.Str.occurrences (S l) (S y) 0 (S l).length ((S l).length+1)).isEmpty with
  | true=>
   have e:Txt.split (S l) (S y)=[S l]:=by unfold Txt.split;rw [uq (by rw [c1];decide),uA c2]
   refine call_meets UJ (typeIs_str s (S l) t) U7 (U1 _ _) (meets_str_split_not_found _ _ _ _ c1 y0 c2) ?_
   exact fin [.str (S l) t] 0 s.toks (by rw [e];exact .cons ⟨t,rfl⟩ .nil)
  | false=>
   have e:Txt.split (S l) (S y)=Builtin.Str.partsBetween (S l) (Builtin.Str.occurrences (S l) (S y) 0 (S l).length ((S l).length+1)) (S y).length:=by unfold Txt.split;rw [uq (by rw [c1];decide),uq (by rw [c2];decide)]
   refine call_meets UJ (typeIs_str s (S l) t) U7 (U1 _ _) (meets_str_split_sep _ _ _ _ c1 y0 c2 (by rw [jf,sizeLine_eq];lia) (by rw [← e,sizeLine_eq];lia)) ?_
   rw [← e]
   exact fin _ 0 _ (Jr _ _)
end L2
namespace L5
open PySem L2 PySem.Spec PyProof.Rows
noncomputable def zhl:R2:=fun x y H Q=>∃ a b xs ys,x=.ref a/\y=.ref b/\H a=some (.tup xs)/\H b=some (.tup ys)/\xs.length+ys.length<=1000000 /\
 (ys=[]->Q (.ref a) H)/\(xs=[]->Q (.ref b) H)/\∀ p,H p=none->Q (.ref p) (upd H p (.tup (xs++ys)))
theorem zcP {X:Cx}:OpR X (binaryOp .Add) zhl:=by
 intro pins s σ H x y v u Q I rx ry h
 obtain⟨a,b,xs,ys,rfl,rfl,ha,hb,hz,q1,q2,q3⟩:=h
 by_cases hx:xs=[]
 ·subst hx
  cases rx
  cases ry
  obtain⟨its,r1,p1,_⟩:=I.tuple (SqT.of ha)
  obtain⟨its2,r2,p2,_⟩:=I.tuple (SqT.of hb)
  obtain⟨⟨cls,dd,data,sl⟩,ho,hc,n,hd⟩:=id p1
  obtain⟨⟨cls2,dd2,data2,sl2⟩,ho2,hc2,n2,hd2⟩:=id p2
  simp only at hc hd hc2 hd2
  subst hc hd hc2 hd2
  have e0:its=[]:=r1.nil_iff.mpr rfl
  exact concat_meets ⟨_,ho,rfl⟩ ⟨_,ho2,rfl⟩ noFill_tuple_add seq_tuple_add gf U2 (UZ _ _)
   (tuple_addW0 a b its.toArray its2.toArray n n2 dd dd2 sl sl2 (by simp [e0])) ⟨ho,ho2,.ref b,H,I,rfl,q2 rfl⟩
 ·exact zcv pins s σ H _ _ v u Q I rx ry ⟨a,b,xs,ys,rfl,rfl,SqT.of ha,SqT.of hb,hx,by rw [sizeLine_eq];lia,fun e=>q1 e,fun _ p hp=>q3 p hp⟩
noncomputable def rSlW:V->Option Int->Option Int->Hp->VK->Prop:=fun x lo hi H Q=>∃ a xs,x=.ref a/\H a=some (.tup xs)/\(cutV xs lo hi=xs->Q (.ref a) H)/\∀ p,H p=none->Q (.ref p) (upd H p (.tup (cutV xs lo hi)))
theorem zcQ {X:Cx}:SlR X rSlW:=by
 intro pins s σ H x v vl vu lo hi sl Q I rx hs pl pu h
 obtain⟨a,xs,rfl,hx,q1,q2⟩:=h
 by_cases hw:HT.sIx xs.length 0 lo=0/\HT.sIx xs.length xs.length hi=xs.length
 ·cases rx
  obtain⟨its,r,ht,hz⟩:=I.tuple (SqT.of hx)
  have hlen:its.toArray.size=xs.length:=by rw [ue];exact r.length.symm
  refine⟨"tuple",_,PyProof.Rows.slot_tuple_getitem.lookup,ht.typeIs,?_⟩
  refine HT.vV ht hs pl pu (by rw [hlen];exact hw) ⟨.ref a,H,I,rfl,q1 ?_⟩
  unfold cutV
  rw [hw.1,hw.2,gr,Nat.sub_zero,U4]
 ·exact zeR pins s σ H _ v vl vu lo hi sl Q I rx hs pl pu ⟨a,xs,rfl,SqT.of hx,hw,q2⟩
theorem wG {X:Cx}{f:Value->Value->Sem Value}{r r':R2}(h:OpR X f r)(k:OpR X f r'):OpR X f (fun x y H Q=>r x y H Q\/r' x y H Q):=by
 intro pins s σ H x y v u Q I rx ry z
 rcases z with z | z
 ·exact h pins s σ H x y v u Q I rx ry z
 ·exact k pins s σ H x y v u Q I rx ry z
noncomputable def rIxD:R2:=fun x y H Q=>∃ a v,x=.ref a/\DGet H a y (some v)/\Q v H
theorem zcR {X:Cx}(hu:X.A.units+1<cLine):IxR X rIxD:=by
 intro value slice pins s σ H x y v u Q I rx ry h hs
 obtain⟨a,z,rfl,g,q⟩:=h
 obtain rfl:v=Value.ref a:=rx
 have hT:=W7 I g
 unfold subscriptTail
 refine wpAny_bind ?_
 rw [getitemInPython_of_ne hT.not_modules]
 refine wpAny_bind (wpAny_specialOf hT PySem.F.slot_dict_getitem.lookup ?_)
 have fin:wpAny (model X.prog X.w) X.A (subscripted slice false (.ref a) u) (fun r s₃=>wpAny (model X.prog X.w) X.A (letTemporaryGo value (.ref a) r >>= fun _=>pure r) (EP X pins σ Q) X.xe s₃) X.xe s:=by
  rw [hs]
  exact wpAny_operating (wpAny_mono (Kg (Q:=EP X pins σ Q) hu I g ry fun w' s3 I3 rw'=>⟨z,H,I3,rw',q⟩) (fun r s₃ h₃=>wpAny_bind (wpAny_letTemporaryGo (wpAny_pure h₃))) fun _ _ x=>x)
 first
  | exact wpAny_pure (wpAny_bind fin)
  | exact wpAny_bind (wpAny_pure (wpAny_bind fin))
  | exact wpAny_bind fin
theorem Vj {X:Cx}{r r':R2}(h:IxR X r)(k:IxR X r'):IxR X (fun x y H Q=>r x y H Q\/r' x y H Q):=by
 intro value slice pins s σ H x y v u Q I rx ry z hs
 rcases z with z | z
 ·exact h value slice pins s σ H x y v u Q I rx ry z hs
 ·exact k value slice pins s σ H x y v u Q I rx ry z hs
theorem zaO {X:Cx}{r r':V->Option Int->Option Int->Hp->VK->Prop}(h:SlR X r)(k:SlR X r'):SlR X (fun x lo hi H Q=>r x lo hi H Q\/r' x lo hi H Q):=by
 intro pins s σ H x v vl vu lo hi sl Q I rx hs pl pu z
 rcases z with z | z
 ·exact h pins s σ H x v vl vu lo hi sl Q I rx hs pl pu z
 ·exact k pins s σ H x v vl vu lo hi sl Q I rx hs pl pu z
theorem Qe {X:Cx}{f:Value}{r r':List V->Hp->VK->Prop}(h:qF X f r)(k:qF X f r'):qF X f (fun xs H Q=>r xs H Q\/r' xs H Q):=by
 intro pins s σ H xs us Q I rx z
 rcases z with z | z
 ·exact h pins s σ H xs us Q I rx z
 ·exact k pins s σ H xs us Q I rx z
noncomputable def rInD (n:Bool):R2:=fun x y H Q=>∃ a o,y=.ref a/\DGet H a x o/\Q (.bl (if n=true then !o.isSome else o.isSome)) H
theorem zfi {X:Cx}(hu:X.A.units+1<cLine):OpR X (compareOp .In) (rInD false):=by
 intro pins s σ H x y v u Q I rx ry h
 obtain⟨a,o,rfl,g,q⟩:=h
 cases ry
 exact d_in hu I g rx fun s' I'=>⟨.bl o.isSome,H,I',rfl,q⟩
theorem Kq {X:Cx}(hu:X.A.units+1<cLine):OpR X (compareOp .NotIn) (rInD true):=by
 intro pins s σ H x y v u Q I rx ry h
 obtain⟨a,o,rfl,g,q⟩:=h
 cases ry
 exact zcG hu I g rx fun s' I'=>⟨.bl !o.isSome,H,I',rfl,q⟩
theorem zfj {X:Cx}{pins:List (Addr×Obj)}{σ:L2.St}{H:Hp}{s:Shared}{x:V}{u t:Value}(I:Inv X pins σ H s)(rx:RelV x u)(ty:TyOf X.K H x t):∃ P,PySem.W.KitX X.K u t P/\P s.heap/\u≠Value.builtin "__main__.__loader__#opaque":=by
 cases ty with
 | non=>cases (show u=Value.none from rx);exact⟨_,PySem.W.kitx_none,True.intro,fun z=>nomatch z⟩
 | bl y=>cases (show u=Value.bool y from rx);exact⟨_,PySem.W.kitx_bool,True.intro,fun z=>nomatch z⟩
 | int i=>obtain⟨t,q⟩:=(show ∃ t,u=Value.int i t from rx);cases q;exact⟨_,PySem.W.kitx_int,True.intro,fun z=>nomatch z⟩
 | str y=>obtain⟨t,q⟩:=(show ∃ t,u=Value.str y t from rx);cases q;exact⟨_,PySem.W.kitx_str,True.intro,fun z=>nomatch z⟩
 | flt y=>obtain⟨t,q⟩:=(show ∃ t,u=Value.float y t from rx);cases q;exact⟨_,PySem.W.kitx_float,True.intro,fun z=>nomatch z⟩
 | @lst a xs ea=>
  cases (show u=Value.ref a from rx)
  obtain⟨_,_,n,_,h1⟩:=(show zR X.prog X.w H s.heap a (.lst xs) from I.hok a _ ea)
  exact⟨_,UW,⟨_,h1,rfl⟩,fun z=>nomatch z⟩
 | @frz a ob xs ea=>
  cases (show u=Value.ref a from rx)
  obtain⟨_,_,_,n,_,h1⟩:=(show zR X.prog X.w H s.heap a (.frz ob (.lst xs)) from I.hok a _ ea)
  exact⟨_,UW,⟨_,h1,rfl⟩,fun z=>nomatch z⟩
 | @tup a xs ea=>
  cases (show u=Value.ref a from rx)
  obtain⟨_,_,_,p⟩:=(show zR X.prog X.w H s.heap a (.tup xs) from I.hok a _ ea)
  obtain⟨o,h1,h2,_⟩:=p
  exact⟨_,PySem.W.kitx_tuple,⟨o,h1,h2⟩,fun z=>nomatch z⟩
 | @dK a kvs ea=>
  cases (show u=Value.ref a from rx)
  obtain⟨_,_,vs,_,p⟩:=(show zR X.prog X.w H s.heap a (.dK kvs) from I.hok a _ ea)
  obtain⟨o,es,ep,h1,h2,_⟩:=p
  exact⟨_,UX,⟨o,h1,h2.1⟩,fun z=>nomatch z⟩
 | @dT a kvs ea=>
  cases (show u=Value.ref a from rx)
  obtain⟨_,_,xs,_,o,es,ep,h1,h2,_⟩:=(show zR X.prog X.w H s.heap a (.dT kvs) from I.hok a _ ea)
  exact⟨_,UX,⟨o,h1,h2.1⟩,fun z=>nomatch z⟩
 | @ins a C dx fs ea cl ha hn htk hm=>
  cases (show u=Value.ref a from rx)
  obtain⟨mA,O,_⟩:=yM I.hok ea
  obtain⟨od,J,_⟩:=O.look
  exact⟨_,PySem.W.kitx_own (cl.get _) cl.hd ha hn htk hm,J,fun z=>nomatch z⟩
noncomputable def rIsT (K:Le)(ns:List String):List V->Hp->VK->Prop:=fun xs H Q=>∃ x p t b,xs=[x,.ref p]/\H p=some (.tup (ns.map V.ty))/\TyOf K H x t/\PySem.W.kitAny K t (ns.map Value.type)=some b/\Q (.bl b) H
theorem VY:∀ {ns:List String} {us:Lf},Vals (ns.map V.ty) us->us=ns.map Value.type
 | [],_,h=>by cases h;rfl
 | _::ns,_,h=>by
  cases h with
  | cons h t=>
   cases h
   rw [VY t]
   rfl
theorem zaP {X:Cx}{K:Le}{ns:List String}(hK:X.K=K):qF X (.builtin "isinstance") (rIsT K ns):=by
 subst hK
 intro pins s σ H xs us Q I r h
 obtain⟨x,p,t,b,rfl,hp,ty,e,q⟩:=h
 obtain⟨u1,u2,rfl,r1,r2⟩:=vals2 r
 obtain rfl:u2=Value.ref p:=r2
 obtain⟨P,k1,k2,k3⟩:=zfj I r1 ty
 obtain⟨_,its,rv,o,ho,hoc,n,hod⟩:=(show zR X.prog X.w H s.heap p (.tup (ns.map V.ty)) from I.hok p _ hp)
 obtain rfl:=VY rv
 obtain⟨oc,odi,oda,osl⟩:=o
 dsimp only at hoc hod
 subst hoc hod
 exact PySem.W.kia_tup k1 I.kIn k2 ho e k3 fun tk=>⟨.bl b,H,I.tok _,rfl,q⟩
theorem TyOf.mono {K:Le}{H H':Hp}(g:Same H H'){x:V}{t:Value}(h:TyOf K H x t):TyOf K H' x t:=by
 cases h with
 | non=>exact .non
 | bl y=>exact .bl y
 | int i=>exact .int i
 | str y=>exact .str y
 | flt y=>exact .flt y
 | lst e=>exact .lst (g _ _ e)
 | frz e=>exact .frz (g _ _ e)
 | tup e=>exact .tup (g _ _ e)
 | dK e=>exact .dK (g _ _ e)
 | dT e=>exact .dT (g _ _ e)
 | ins e cl ha hn htk hm=>exact .ins (g _ _ e) cl ha hn htk hm
noncomputable def tTys (ns:List String):TA:=fun σ H Q=>Q (ns.map V.ty) H
noncomputable def star:Expr->Bool
 | .Starred _ _=>true
 | _=>false
noncomputable def noSt (es:Lg):Bool:=es.all fun e=>!star e
theorem ze {e:Expr}{es:Lg}{env:Env}(h:star e=false):starEach (e::es) env=(false,eval e env)::starEach es env:=by
 cases e<;>first | rfl | cases h
theorem zT:∀ {es:Lg} {env:Env} {pos:Pos},noSt es=true->(backTo pos (starEach es env)).any (·.1)=false
 | [],env,pos,_=>rfl
 | e::es,env,pos,h=>by
  unfold noSt at h
  rw [Uv,uI] at h
  rw [ze (by simpa using h.1)]
  have:=zT (es:=es) (env:=env) (pos:=pos) h.2
  simp only [backTo,ur,Um,U0] at this ⊢
  exact this
theorem W8:∀ {es:Lg} {env:Env} {pos:Pos},noSt es=true->(backTo pos (starEach es env)).all (fun x=>!x.1)=true
 | [],env,pos,_=>rfl
 | e::es,env,pos,h=>by
  unfold noSt at h
  rw [Uv,uI] at h
  rw [ze (by simpa using h.1)]
  have:=W8 (es:=es) (env:=env) (pos:=pos) h.2
  simp only [backTo,ur,Uv,Bool.not_false,UN] at this ⊢
  exact this
theorem wc {es:Lg}{env:Env}{pos:Pos}(h:noSt es=true)(hl:es.length<30):((backTo pos (starEach es env)).all (fun x=>!x.1)&&(backToKw pos (keywordEach [] env)).all (fun x=>x.1.isSome)
   && decide (es.length+([]:List Keyword).length+(if ([]:List Keyword).isEmpty then 0 else 1)<30))=true:=by
 rw [W8 h]
 simp only [UN,uI,decide_eq_true_eq]
 exact⟨rfl,by simpa using hl⟩
noncomputable def ZI:Expr->Bool
 | .Slice _ _ _ _=>false
 | _=>true
theorem zaQ {e:Expr}(h:ZI e=true):VO e:=by
 intro o i
 cases e<;>first | rfl | cases h
theorem zr {e:Expr}{es:Lg}(h:noSt (e::es)=true):star e=false/\noSt es=true:=by
 unfold noSt at h
 rw [Uv,uI] at h
 exact⟨by simpa using h.1,h.2⟩
noncomputable def qH:Expr->Bool
 | .Call (.Name _ _) [] [] _=>false
 | _=>true
theorem zG {o:Expr}{nm:Str}{env:Env}{wh:Sem Value}(h:qH o=true):attributeBase o nm env wh=wh:=by
 unfold attributeBase
 split
 ·cases h
 ·rfl
noncomputable def plainT:Expr->Bool
 | .Name _ _=>true
 | .Call _ _ _ _=>true
 | .Subscript _ _ _=>true
 | .Attribute _ _ _=>true
 | .ListComp _ _ _ _=>true
 | .BinOp _ _ _ _=>true
 | _=>false
theorem zcS {e:Expr}{env:Env}(h:plainT e=true):∀ whole,isTrue e env whole=(do let v ← whole;standAt e.pos;holding [v] (truthy v)):=by
 intro wh
 cases e<;>first | rfl | cases h
noncomputable def VZ:Expr->Bool
 | .Set _ _ _=>false
 | _=>true
theorem JX {e:Expr}{env:Env}(h:VZ e=true):∀ x,foldedSetIterable e env x=pure x:=by
 intro x
 cases e<;>first | rfl | cases h
noncomputable def JY:Expr->Bool
 | .ListComp _ _ _ _=>false
 | .SetComp _ _ _ _=>false
 | .DictComp _ _ _ _ _=>false
 | _=>true
theorem JZ {e:Expr}{tg:Option Expr}{l:Nat}{env:Env}(h:JY e=true):swapsWith e tg l env=pure false:=by
 cases e<;>first | rfl | cases h
noncomputable def zdU:Expr->Bool
 | .Tuple _ _ _=>false
 | _=>true
noncomputable def noTL:Expr->Bool
 | .Tuple _ _ _=>false
 | .List _ _=>false
 | _=>true
theorem zt {P:Prop}(h:false=true):P:=nomatch h
theorem zE {α:Type}{x:α}{P:Prop}(h:none=some x):P:=nomatch h
theorem Kr {tg e:Expr}{env:Env}(h:(noTL tg||zdU e)=true):swappedStores [tg] e env=pure none:=by
 cases tg<;>first | exact rfl | (cases e<;>first | exact rfl | cases h)
theorem Vk {tg:Expr}{env:Env}(h:star tg=false):(assignEach [tg] env).map (·.2)=[assign tg env]:=by
 cases tg<;>first | rfl | cases h
noncomputable def okN (x:Str):Bool:=!(x == ("__debug__":Str))&&!(x == ("__classdict__":Str))
noncomputable def vis (sc:Scope)(x:Str):Bool:=decide (sc.names.lookup x=some .local)||decide (sc.names.lookup x=some .cell)||decide (sc.names.lookup x=some .free)
noncomputable def glb (sc:Scope)(x:Str):Bool:=decide (sc.names.lookup x=some .globalImplicit)&&okN x
noncomputable def relS (scope sc:Scope):Scope:={ kind:=scope.kind,names:=scope.names.map fun x=>match x with
 | (n,k)=>if (k == NameKind.free&&sc.kind == ScopeKind.function&&sc.names.lookup n == some NameKind.cell)=true then(n,NameKind.cell) else(n,k),isGenerator:=scope.isGenerator,isCoroutine:=scope.isCoroutine,more:=scope.more }
noncomputable def zfk (kvs:List (Key×V))(t:TA):TE:=fun σ H Q=>t σ H fun vs H1=>∃ k z,vs=[kV k,z]/\Q ((valV kvs k).getD z) H1
theorem zaR {X:Cx}{x:Str}{p apos cpos:Pos}{e f:Expr}{t:TA}{kvs:List (Key×V)}(hm:∃ a,X.mg x=some (.ref a)/\VU X.w X.K a kvs)(ha:PA X [e,f] t)(hg:Gl X x)(hd:(x == ("__debug__":Str))=false)(hs:noSt [e,f]=true)
  (hl:(apos.endLine == cpos.line)=true):PE X (.Call (.Attribute (.Name x p) "get" apos) [e,f] [] cpos) (zfk kvs t):=by
 intro pins s σ H Q I h
 obtain⟨a,hm,D⟩:=hm
 refine wpAny_Call_method (zG rfl) (wc hs (by simp)) hl Gb Uw PySem.F.type_dict_get (yL I hg hm ?_ hd)
 obtain⟨h0,vs,rel,dd⟩:=D.at I
 refine⟨dd.typeIs,fun b q=>?_,?_⟩
 ·cases q
  obtain⟨ob,_,_,h1,h2,_⟩:=dd
  exact⟨ob,h1,h2.2.1⟩
 have hA:=ha cpos pins s σ H _ I h
 obtain⟨s1,s2⟩:=zr hs
 rw [ze s1] at hA ⊢
 refine Calls.callWith_builtin (by show(false||(backTo cpos (starEach [f] X.env)).any (·.1))=false;rw [zT s2]<;>rfl) (Calls.evalArgs_plain ?_)
 refine thn hA fun us s2 ⟨xs,H2,I2,r,k,z,ex,q2⟩=>?_
 subst ex
 obtain⟨u1,u2,rfl,r1,r2⟩:=vals2 r
 obtain⟨_,vs2,rel2,dd2⟩:=D.at I2
 refine call_meetsIn Uw dd2.typeIs gg (U6 _ _ _) (meets_dict_get_default (zJ X.prog X.w) a (Ze r1) h0 u2) ⟨_,dd2.mapOf,_,H2,I2.tok _,?_,q2⟩
 exact(rel2.val k).getD r2
theorem zdV {l m:Lc}(h:S l=S m):l=m:=by
 have:(S l).cps.toList=(S m).cps.toList:=by rw [h]
 simpa [S] using this
noncomputable def iAny (K:Le)(tl:TE):TI:=fun σ H R=>tl σ H fun x H1=>(∃ a,x=.ref a/\(∃ xs,SqL K H1 a xs)/\R (Itl K a) H1)\/(∃ z,x=.str z/\R (Its z) H1)\/∃ a,x=.ref a/\(∃ xs,SqT K H1 a xs)/\R (Itt K a) H1
theorem zaS {X:Cx}{K:Le}{tg l:Expr}{tl:TE}(hK:X.K=K)(hl:PE X l tl):PI X tg l (iAny K tl):=by
 subst hK
 intro pins s σ H R I h
 refine thn (hl pins s σ H _ I h) fun v s1 ⟨x,H1,I1,r1,q1⟩=>?_
 rcases q1 with⟨a,e,⟨xs,hq⟩,q⟩ | ⟨z,rfl,q⟩ | ⟨a,e,⟨xs,hq⟩,q⟩
 ·subst e
  cases r1
  obtain⟨its,rv,p,hz⟩:=I1.list hq
  refine wpAny_pyIter_list p.isList ?_
  refine⟨s1.heap.objs.size,[s1.heap.objs.size],_,_,H1,rfl,I1.kept (t':=s1.toks) fun b o e=>Heap.get?_push_of_some _ e,YR a _,⟨_,Heap.get?_push_size _ rfl,rfl,rfl⟩,fun b hb=>?_,q⟩
  have e:b=s1.heap.objs.size:=by simpa using hb
  subst e
  exact I1.fpOk (uf _) (I1.hok.fresh (uf _))
 ·obtain⟨t,rfl⟩:=r1
  have fin:∀ (ty:String) (o:Obj),Turn X.prog X.w X.K tg (Its z) [s1.heap.objs.size] s1.heap.objs.size (fun i h=>h.IsStrIter s1.heap.objs.size ty z t i)->(s1.heap.push o).IsStrIter s1.heap.objs.size ty z t 0 ->
    PIE X pins σ tg R (.ref s1.heap.objs.size) { s1 with heap:=s1.heap.push o }:=fun ty o T st=>by
   refine⟨s1.heap.objs.size,[s1.heap.objs.size],_,_,H1,rfl,I1.kept (t':=s1.toks) fun b o e=>Heap.get?_push_of_some _ e,T,st,fun b hb=>?_,q⟩
   have e:b=s1.heap.objs.size:=by simpa using hb
   subst e
   exact I1.fpOk (uf _) (I1.hok.fresh (uf _))
  cases ha:z.cps.all (· < 128)
  ·refine wpAny_pyIter_wide ha (fin "str_iterator" _ (Zd (by decide) (fun A' hA=>Walks.strWide hA _ z t) ?_ ?_) ⟨_,Heap.get?_push_size _ rfl,rfl,rfl⟩)
   ·intro A' s i E Q hA st hx hq
    exact wpAny_pyNext_wide_end hA st hx hq
   ·intro A' s i E Q st h
    exact wpAny_pyIter_striter_wide st h
  ·refine wpAny_pyIter_ascii ha (fin "str_ascii_iterator" _ (Zd (by decide) (fun A' hA=>Walks.strAscii hA _ z t) ?_ ?_) ⟨_,Heap.get?_push_size _ rfl,rfl,rfl⟩)
   ·intro A' s i E Q hA st hx hq
    exact wpAny_pyNext_ascii_end hA st hx hq
   ·intro A' s i E Q st h
    exact wpAny_pyIter_striter_ascii st h
 ·subst e
  cases r1
  obtain⟨its,rv,p,hz⟩:=I1.tuple hq
  refine wpAny_pyIter_tuple (show s1.heap.IsTuple a its.toArray from p) ?_
  refine⟨s1.heap.objs.size,[s1.heap.objs.size],_,_,H1,rfl,I1.kept (t':=s1.toks) fun b o e=>Heap.get?_push_of_some _ e,XX a _,⟨_,Heap.get?_push_size _ rfl,rfl,rfl⟩,fun b hb=>?_,q⟩
  have e:b=s1.heap.objs.size:=by simpa using hb
  subst e
  exact I1.fpOk (uf _) (I1.hok.fresh (uf _))
inductive Kd where
 | ls | dc (ks:List Key) | ob (c:Nat) (fs:Lh)
inductive T where
 | non | bl (b:Bool) | int (i:Int) | str (t:Lc)
 | tp (xs:List T) | nd (o:Bool) (k:Kd) (xs:List T)
 | ks (l:Bool) (xs:List T) | xo (c:Nat) (fs:Lh) (xs:List T) | any
mutual
noncomputable def frz:T->T
 | .tp xs=>.tp (frzs xs)
 | .nd _ k xs=>.nd false k (frzs xs)
 | .ks l xs=>.ks l (frzs xs)
 | .xo c fs xs=>.xo c fs (frzs xs)
 | t=>t
noncomputable def frzs:List T->List T
 | []=>[]
 | t::ts=>frz t::frzs ts
end
mutual
noncomputable def shr:T->Bool
 | .tp xs=>shrs xs
 | .nd o _ _=>!o
 | _=>true
noncomputable def shrs:List T->Bool
 | []=>true
 | t::ts=>shr t&&shrs ts
end
structure Wd where
 K:Le
 cl:Nat->Addr
 mg:Str->Option Value
 P:Program
 w:World
 base:Heap
noncomputable def ObK (W:Wd):Kd->List V->HO->Prop
 | .ls,vs,o=>o=.lst vs
 | .dc ks,vs,o=>∃ kvs,o=.dK kvs/\kvs.map (·.1)=ks/\kvs.map (·.2)=vs
 | .ob c fs,vs,o=>∃ dx kvs,o=.ins (W.cl c) dx kvs/\kvs.map (·.1)=fs/\kvs.map (·.2)=vs
variable {W:Wd}
mutual
noncomputable def IsV (W:Wd)(F:Hp):T->V->Prop
 | .non,v=>v=.non
 | .bl b,v=>v=.bl b
 | .int i,v=>v=.int i
 | .str t,v=>v=.str (S t)/\t.length<=16777216
 | .tp ts,v=>∃ p vs,v=.ref p/\F p=some (.tup vs)/\IsVs W F ts vs
 | .nd b k ts,v=>∃ p vs o,v=.ref p/\F p=some o/\ObK W k vs o/\(b=false->shrs ts=true)/\IsVs W F ts vs
 | .ks l ts,v=>∃ p vs,v=.ref p/\(if l=true then SqL W.K F p vs else SqT W.K F p vs)/\shrs ts=true/\IsVs W F ts vs
 | .xo c fs ts,v=>∃ p kvs,v=.ref p/\Got W.K F p (W.cl c) kvs/\kvs.map (·.1)=fs/\shrs ts=true/\IsVs W F ts (kvs.map (·.2))
 | .any,_=>True
noncomputable def IsVs (W:Wd)(F:Hp):List T->List V->Prop
 | [],vs=>vs=[]
 | d::ds,vs=>∃ v r,vs=v::r/\IsV W F d v/\IsVs W F ds r
end
theorem Qf {K:Le}{H H':Hp}(g:Same H H'){a:Addr}{xs:List V}(h:SqL K H a xs):SqL K H' a xs:=by
 rcases h with(h | ⟨o,h⟩) | h
 ·exact .inl (.inl (g _ _ h))
 ·exact .inl (.inr ⟨o,g _ _ h⟩)
 ·exact .inr h
theorem Qg {K:Le}{H H':Hp}(g:Same H H'){a:Addr}{xs:List V}(h:SqT K H a xs):SqT K H' a xs:=by
 rcases h with(h | ⟨o,h⟩) | h
 ·exact .inl (.inl (g _ _ h))
 ·exact .inl (.inr ⟨o,g _ _ h⟩)
 ·exact .inr h
mutual
theorem IsV.mono {F F':Hp}(g:Same F F'):∀ {d:T} {v:V},IsV W F d v->IsV W F' d v
 | .non,_,h=>h
 | .bl _,_,h=>h
 | .int _,_,h=>h
 | .str _,_,h=>h
 | .any,_,h=>h
 | .tp _,_,⟨p,vs,e,h1,h2⟩=>⟨p,vs,e,g _ _ h1,IsVs.mono g h2⟩
 | .nd _ _ _,_,⟨p,vs,o,e,h1,h2,h3,h4⟩=>⟨p,vs,o,e,g _ _ h1,h2,h3,IsVs.mono g h4⟩
 | .ks true _,_,⟨p,vs,e,h1,h2,h3⟩=>⟨p,vs,e,Qf g h1,h2,IsVs.mono g h3⟩
 | .ks false _,_,⟨p,vs,e,h1,h2,h3⟩=>⟨p,vs,e,Qg g h1,h2,IsVs.mono g h3⟩
 | .xo _ _ _,_,⟨p,vs,e,⟨cl,d,⟨o,h1,h2⟩,h3⟩,h4,h5,h6⟩=>⟨p,vs,e,⟨cl,d,⟨o,g _ _ h1,h2⟩,g _ _ h3⟩,h4,h5,IsVs.mono g h6⟩
theorem IsVs.mono {F F':Hp}(g:Same F F'):∀ {ds:List T} {vs:List V},IsVs W F ds vs->IsVs W F' ds vs
 | [],_,h=>h
 | _::_,_,⟨v,r,e,h1,h2⟩=>⟨v,r,e,IsV.mono g h1,IsVs.mono g h2⟩
end
mutual
theorem yQ:∀ t:T,shr (frz t)=true
 | .non=>rfl
 | .bl _=>rfl
 | .int _=>rfl
 | .str _=>rfl
 | .any=>rfl
 | .ks _ _=>rfl
 | .xo _ _ _=>rfl
 | .tp ts=>wy ts
 | .nd _ _ _=>rfl
theorem wy:∀ ts:List T,shrs (frzs ts)=true
 | []=>rfl
 | t::ts=>uV.mpr ⟨yQ t,wy ts⟩
end
mutual
theorem IsV.frz {F:Hp}:∀ {d:T} {v:V},IsV W F d v->IsV W F (frz d) v
 | .non,_,h=>h
 | .bl _,_,h=>h
 | .int _,_,h=>h
 | .str _,_,h=>h
 | .any,_,h=>h
 | .ks _ ts,_,⟨p,vs,e,h1,_,h2⟩=>⟨p,vs,e,h1,wy ts,IsVs.frz h2⟩
 | .xo _ _ ts,_,⟨p,vs,e,h1,h2,_,h3⟩=>⟨p,vs,e,h1,h2,wy ts,IsVs.frz h3⟩
 | .tp _,_,⟨p,vs,e,h1,h2⟩=>⟨p,vs,e,h1,IsVs.frz h2⟩
 | .nd _ _ ts,_,⟨p,vs,o,e,h1,h2,_,h3⟩=>⟨p,vs,o,e,h1,h2,fun _=>wy ts,IsVs.frz h3⟩
theorem IsVs.frz {F:Hp}:∀ {ds:List T} {vs:List V},IsVs W F ds vs->IsVs W F (frzs ds) vs
 | [],_,h=>h
 | _::_,_,⟨v,r,e,h1,h2⟩=>⟨v,r,e,IsV.frz h1,IsVs.frz h2⟩
end
theorem IsVs.len {F:Hp}:∀ {ds:List T} {vs:List V},IsVs W F ds vs->vs.length=ds.length
 | [],_,h=>by rw [show _=[] from h];rfl
 | _::_,_,⟨v,r,e,_,h2⟩=>by rw [e,ua,ua,IsVs.len h2]
inductive AT where
 | lf (t:T) (v:V) | tp (a:Addr) (xs:List AT) | nd (a:Addr) (k:Kd) (xs:List AT)
noncomputable def val:AT->V
 | .lf _ v=>v
 | .tp a _=>.ref a
 | .nd a _ _=>.ref a
noncomputable abbrev vals (xs:List AT):List V:=xs.map val
mutual
noncomputable def era:AT->T
 | .lf t _=>t
 | .tp _ xs=>.tp (eras xs)
 | .nd _ k xs=>.nd true k (eras xs)
noncomputable def eras:List AT->List T
 | []=>[]
 | a::as=>era a::eras as
end
mutual
noncomputable def ads:AT->List Addr
 | .lf _ _=>[]
 | .tp _ xs=>adss xs
 | .nd a _ xs=>a::adss xs
noncomputable def adss:List AT->List Addr
 | []=>[]
 | a::as=>ads a++adss as
end
mutual
noncomputable def OK (W:Wd)(F H:Hp):AT->Prop
 | .lf t v=>shr t=true/\IsV W F t v
 | .tp a xs=>F a=some (.tup (vals xs))/\OKs W F H xs
 | .nd a k xs=>(∃ o,H a=some o/\ObK W k (vals xs) o)/\OKs W F H xs
noncomputable def OKs (W:Wd)(F H:Hp):List AT->Prop
 | []=>True
 | a::as=>OK W F H a/\OKs W F H as
end
theorem zw {F H:Hp}:∀ {as:List AT},OKs W F H as↔∀ a∈as,OK W F H a
 | []=>⟨fun _ _ h=>(by cases h),fun _=>trivial⟩
 | a::as=>by
  rw [gu]
  exact and_congr Iff.rfl zw
theorem zk:∀ {as:List AT},eras as=as.map era
 | []=>rfl
 | a::as=>congrArg (era a::·) (zk (as:=as))
theorem qI:∀ {as:List AT},adss as=as.flatMap ads
 | []=>rfl
 | a::as=>by rw [List.flatMap_cons,← qI];rfl
theorem z6 {as bs:List AT}:adss (as++bs)=adss as++adss bs:=by rw [qI,qI,qI,gz]
mutual
theorem OK.ext {F F' H H':Hp}(g:Same F F'):∀ {a:AT},OK W F H a->(∀ b∈ads a,∀ x,H b=some x->H' b=some x)->OK W F' H' a
 | .lf _ _,h,_=>⟨h.1,h.2.mono g⟩
 | .tp _ _,h,k=>⟨g _ _ h.1,OKs.ext g h.2 k⟩
 | .nd _ _ _,⟨⟨o,h1,h2⟩,h3⟩,k=>⟨⟨o,k _ ui _ h1,h2⟩,OKs.ext g h3 fun b hb=>k b (uk _ hb)⟩
theorem OKs.ext {F F' H H':Hp}(g:Same F F'):∀ {as:List AT},OKs W F H as->(∀ b∈adss as,∀ x,H b=some x->H' b=some x)->OKs W F' H' as
 | [],_,_=>trivial
 | _::_,h,k=>⟨OK.ext g h.1 fun b hb=>k b (uS _ hb),OKs.ext g h.2 fun b hb=>k b (uy _ hb)⟩
end
mutual
theorem OK.cell {F H:Hp}:∀ {a:AT},OK W F H a->∀ b∈ads a,∃ x,H b=some x
 | .lf _ _,_,b,hb=>by cases hb
 | .tp _ _,h,b,hb=>OKs.cell h.2 b hb
 | .nd _ _ _,⟨⟨o,h1,_⟩,h3⟩,b,hb=>(uh.mp hb).elim (fun z=>⟨o,by rw [z];exact h1⟩) (OKs.cell h3 b)
theorem OKs.cell {F H:Hp}:∀ {as:List AT},OKs W F H as->∀ b∈adss as,∃ x,H b=some x
 | [],_,b,hb=>by cases hb
 | _::_,h,b,hb=>(uC.mp hb).elim (OK.cell h.1 b) (OKs.cell h.2 b)
end
mutual
theorem OK.isv {F F' H:Hp}(g:Same F F'):∀ {a:AT},OK W F H a->(∀ b∈ads a,∀ x,H b=some x->F' b=some x)->IsV W F' (era a) (val a)
 | .lf _ _,h,_=>h.2.mono g
 | .tp a xs,h,k=>⟨a,vals xs,rfl,g _ _ h.1,OKs.isv g h.2 k⟩
 | .nd a _ xs,⟨⟨o,h1,h2⟩,h3⟩,k=>⟨a,vals xs,o,rfl,k _ ui _ h1,h2,nofun,OKs.isv g h3 fun b hb=>k b (uk _ hb)⟩
theorem OKs.isv {F F' H:Hp}(g:Same F F'):∀ {as:List AT},OKs W F H as->(∀ b∈adss as,∀ x,H b=some x->F' b=some x)->IsVs W F' (eras as) (vals as)
 | [],_,_=>rfl
 | _::_,h,k=>⟨_,_,rfl,OK.isv g h.1 fun b hb=>k b (uS _ hb),OKs.isv g h.2 fun b hb=>k b (uy _ hb)⟩
end
theorem OK.now {F H:Hp}(g:Same F H){a:AT}(h:OK W F H a):IsV W H (era a) (val a):=h.isv g fun _ _ _ e=>e
mutual
theorem OK.leaf {F H:Hp}:∀ {a:AT},OK W F H a->shr (era a)=true->ads a=[]/\IsV W F (era a) (val a)
 | .lf _ _,h,_=>⟨rfl,h.2⟩
 | .tp a xs,h,s=>by
  obtain⟨e,k⟩:=OKs.leaf h.2 s
  exact⟨e,a,vals xs,rfl,h.1,k⟩
 | .nd _ _ _,_,s=>by cases s
theorem OKs.leaf {F H:Hp}:∀ {as:List AT},OKs W F H as->shrs (eras as)=true->adss as=[]/\IsVs W F (eras as) (vals as)
 | [],_,_=>⟨rfl,rfl⟩
 | _::_,h,s=>by
  obtain⟨s1,s2⟩:=uV.mp s
  obtain⟨e1,k1⟩:=OK.leaf h.1 s1
  obtain⟨e2,k2⟩:=OKs.leaf h.2 s2
  exact⟨by rw [adss,e1,e2];rfl,_,_,rfl,k1,k2⟩
end
noncomputable def leaves:List T->List V->List AT
 | t::ts,v::vs=>.lf t v::leaves ts vs
 | _,_=>[]
theorem kL {F H:Hp}:∀ {ts:List T} {vs:List V},IsVs W F ts vs->shrs ts=true->OKs W F H (leaves ts vs)/\eras (leaves ts vs)=ts/\vals (leaves ts vs)=vs/\adss (leaves ts vs)=[]
 | [],_,h,_=>by rw [show _=[] from h];exact⟨trivial,rfl,rfl,rfl⟩
 | _::_,_,⟨v,r,e,h1,h2⟩,s=>by
  obtain⟨s1,s2⟩:=uV.mp s
  subst e
  obtain⟨k1,k2,k3,k4⟩:=kL (H:=H) h2 s2
  exact⟨⟨⟨s1,h1⟩,k1⟩,congrArg _ k2,congrArg _ k3,k4⟩
structure St (W:Wd)(F H:Hp)(as:List AT):Prop where
 fh:Same F H
 ok:OKs W F H as
 nd:(adss as).Nodup
 fr:∀ b∈adss as,F b=none
section
variable {F H F' H':Hp} {as bs γ:List AT} {a:AT} {p:Addr}
theorem St.perm (h:St W F H as)(e:as.Perm bs):St W F H bs:=by
 have pe:(adss as).Perm (adss bs):=by rw [qI,qI];exact e.flatMap_right _
 exact⟨h.fh,zw.mpr fun a ha=>zw.mp h.ok a (e.mem_iff.mpr ha),pe.nodup_iff.mp h.nd,fun b hb=>h.fr b (pe.mem_iff.mpr hb)⟩
theorem St.right (h:St W F H (as++bs)):St W F H bs:=by
 have nd:=h.nd
 have fr:=h.fr
 rw [z6] at nd fr
 exact⟨h.fh,zw.mpr fun a ha=>zw.mp h.ok a (uy _ ha),(gG.mp nd).2.1,fun b hb=>fr b (uy _ hb)⟩
theorem St.tail (h:St W F H (a::γ)):St W F H γ:=St.right (as:=[a]) h
theorem St.left (h:St W F H (as++bs)):OKs W F H as:=zw.mpr fun a ha=>zw.mp h.ok a (uS _ ha)
theorem St.ext (h:St W F H as)(g:Same F F')(fh:Same F' H')(k:∀ b∈adss as,∀ x,H b=some x->H' b=some x)(fr:∀ b∈adss as,F' b=none):St W F' H' as:=⟨fh,h.ok.ext g k,h.nd,fr⟩
theorem yq (g:Same F H)(hp:H p=none):F p=none:=by
 cases q:F p with
 | none=>rfl
 | some u=>rw [g _ _ q] at hp;cases hp
theorem St.none (h:St W F H as)(hp:H p=Option.none):p∉adss as:=fun z=>by
 obtain⟨x,e⟩:=h.ok.cell p z
 rw [hp] at e;cases e
theorem St.alloc {o:HO}(h:St W F H as)(hp:H p=Option.none):St W F (upd H p o) as:=
 h.ext (fun _ _ e=>e) (fun b u e=>xq hp _ _ (h.fh _ _ e)) (fun b _ x e=>xq hp _ _ e) h.fr
theorem St.allocF {o:HO}(h:St W F H as)(hp:H p=Option.none):St W (upd F p o) (upd H p o) as:=by
 refine h.ext (xq (yq h.fh hp)) (fun b u e=>?_) (fun b _ x e=>xq hp _ _ e) fun b hb=>?_
 ·unfold upd at e ⊢
  split
  ·rw [uA (by assumption)] at e;exact e
  ·rw [uq (by assumption)] at e;exact h.fh _ _ e
 ·rw [zP fun z:b=p=>h.none hp (z ▸ hb)];exact h.fr b hb
theorem St.leaf {t:T}{v:V}(h:St W F H γ)(s:shr t=true)(i:IsV W F t v):St W F H (.lf t v::γ):=⟨h.fh,⟨⟨s,i⟩,h.ok⟩,h.nd,h.fr⟩
theorem St.leaves {ts:List T}{vs:List V}(h:St W F H γ)(i:IsVs W F ts vs)(s:shrs ts=true):St W F H (leaves ts vs++γ)/\eras (leaves ts vs)=ts/\vals (leaves ts vs)=vs:=by
 obtain⟨k1,k2,k3,k4⟩:=kL (H:=H) i s
 refine⟨⟨h.fh,zw.mpr fun a ha=>?_,by rw [z6,k4];exact h.nd,by rw [z6,k4];exact h.fr⟩,k2,k3⟩
 rcases uC.mp ha with z | z
 ·exact zw.mp k1 a z
 ·exact zw.mp h.ok a z
theorem St.node {k:Kd}{o:HO}(h:St W F H (as++γ))(hp:H p=Option.none)(ob:ObK W k (vals as) o):St W F (upd H p o) (.nd p k as::γ):=by
 have h':=h.alloc (o:=o) hp
 have n:=h.none hp
 have nd:=h.nd
 refine⟨h'.fh,⟨⟨⟨o,jz,ob⟩,h'.left⟩,h'.right.ok⟩,?_,?_⟩
 ·rw [z6] at n nd
  exact Uj.mpr ⟨n,nd⟩
 ·intro b hb
  rcases uh.mp hb with z | z
  ·rw [z];exact yq h.fh hp
  ·exact h.fr b (by rw [z6];exact z)
theorem St.tuple (h:St W F H (as++γ))(hp:H p=Option.none):St W (upd F p (.tup (vals as))) (upd H p (.tup (vals as))) (.tp p as::γ):=by
 have h':=h.allocF (o:=.tup (vals as)) hp
 have nd:=h'.nd
 have fr:=h'.fr
 rw [z6] at nd fr
 exact⟨h'.fh,⟨⟨jz,h'.left⟩,h'.right.ok⟩,nd,fr⟩
theorem St.open {k:Kd}(h:St W F H (.nd p k as::γ)):St W F H (as++γ):=by
 have nd:=h.nd
 refine⟨h.fh,zw.mpr fun a ha=>?_,by rw [z6];exact(Uj.mp nd).2,fun b hb=>h.fr b (uk _ (by rw [z6] at hb;exact hb))⟩
 rcases uC.mp ha with z | z
 ·exact zw.mp h.ok.1.2 a z
 ·exact zw.mp h.ok.2 a z
theorem St.openT (h:St W F H (.tp p as::γ)):St W F H (as++γ):=by
 refine⟨h.fh,zw.mpr fun a ha=>?_,by rw [z6];exact h.nd,fun b hb=>h.fr b (by rw [z6] at hb;exact hb)⟩
 rcases uC.mp ha with z | z
 ·exact zw.mp h.ok.1.2 a z
 ·exact zw.mp h.ok.2 a z
theorem St.mut {k k':Kd}{ys zs ws:List AT}{o:HO}(h:St W F H (.nd p k as::(ys++γ)))(e:(as++ys).Perm (zs++ws))(ob:ObK W k' (vals zs) o):St W F (upd H p o) (.nd p k' zs::(ws++γ)):=by
 have np:p∉adss (as++(ys++γ)):=by
  have:=(Uj.mp h.nd).1
  rw [z6];exact this
 have h1:St W F H (zs++(ws++γ)):=h.open.perm (by rw [← uc,← uc];exact e.append_right _)
 have np':p∉adss (zs++(ws++γ)):=fun z=>np (by
  have pe:(adss (as++(ys++γ))).Perm (adss (zs++(ws++γ))):=by
   rw [qI,qI]
   refine List.Perm.flatMap_right _ ?_
   rw [← uc,← uc];exact e.append_right _
  exact pe.mem_iff.mpr z)
 have fp:F p=Option.none:=h.fr p ui
 have ok:=h1.ok.ext (F':=F) (H':=upd H p o) (fun _ _ e=>e) fun b hb x e=>by rw [zP fun z:b=p=>np' (z ▸ hb)];exact e
 refine⟨fun b u e=>?_,⟨⟨⟨o,jz,ob⟩,zw.mpr fun a ha=>zw.mp ok a (uS _ ha)⟩,zw.mpr fun a ha=>zw.mp ok a (uy _ ha)⟩,?_,?_⟩
 ·rw [zP fun z=>by rw [z,fp] at e;cases e];exact h.fh _ _ e
 ·have nd:=h1.nd
  rw [z6] at np' nd
  exact Uj.mpr ⟨np',nd⟩
 ·intro b hb
  rcases uh.mp hb with z | z
  ·rw [z];exact fp
  ·exact h1.fr b (by rw [z6];exact z)
noncomputable def adds (F H:Hp)(A:Ld):Hp:=fun b=>if b∈A then H b else F b
theorem St.frz (h:St W F H (a::γ)):∃ F',Same F F'/\St W F' H (.lf (frz (era a)) (val a)::γ):=by
 have nd:=gG.mp h.nd
 have g:Same F (adds F H (ads a)):=fun b o e=>by
  unfold adds
  rw [uq (fun z=>by rw [h.fr b (uS _ z)] at e;cases e)];exact e
 have iv:=h.ok.1.isv (F':=adds F H (ads a)) g fun b hb x e=>by unfold adds;rw [uA hb];exact e
 refine⟨_,g,St.leaf (h.tail.ext g (fun b o e=>?_) (fun _ _ _ e=>e) fun b hb=>?_) (yQ _) iv.frz⟩
 ·unfold adds at e
  split at e
  ·exact e
  ·exact h.fh _ _ e
 ·unfold adds
  rw [uq fun z=>nd.2.2 b z b hb rfl]
  exact h.fr b (uy _ hb)
end
end L5
namespace L5
open PySem L2 PySem.Spec PyProof.Rows
variable {W:Wd}
@[reducible] def bnd {α:Type}(o:Option α)(Q:α->Prop):Prop:=Option.rec (motive:=fun _=>Prop) False Q o
@[reducible] def brn (b:Bool)(p q:Prop):Prop:=Bool.rec (motive:=fun _=>Prop) q p b
theorem zd {α:Type}{o:Option α}{z:α}{Q:α->Prop}(h:o=some z)(q:Q z):Option.rec (motive:=fun _=>Prop) False Q o:=by subst h;exact q
theorem zo {α:Type}{o:Option α}{Q:α->Prop}(h:bnd o Q):∃ z,o=some z/\Q z:=by
 cases o with
 | none=>exact h.elim
 | some z=>exact⟨z,rfl,h⟩
theorem jh {b:Bool}{p q:Prop}(h1:b=true->p)(h2:b=false->q):Bool.rec (motive:=fun _=>Prop) q p b:=by
 cases b with
 | true=>exact h1 rfl
 | false=>exact h2 rfl
noncomputable def two {α β γ:Type}(a:Option α)(b:Option β)(f:α->β->Option γ):Option γ:=a.bind fun x=>b.bind fun y=>f x y
theorem za {α β:Type}{a:Option α}{f:α->Option β}{z:β}(h:a.bind f=some z):∃ x,a=some x/\f x=some z:=Option.bind_eq_some_iff.mp h
theorem zy {α β γ:Type}{a:Option α}{b:Option β}{f:α->β->Option γ}{z:γ}(h:two a b f=some z):∃ x y,a=some x/\b=some y/\f x y=some z:=by
 obtain⟨x,e1,h⟩:=za h
 obtain⟨y,e2,h⟩:=za h
 exact⟨x,y,e1,e2,h⟩
noncomputable def mapO {α:Type}(f:α->Option α):List α->Option (List α)
 | []=>some []
 | x::s=>two (f x) (mapO f s) fun y ys=>some (y::ys)
noncomputable def putN {α:Type}:List α->Nat->α->Option (List α)
 | [],_,_=>none
 | _::xs,0,y=>some (y::xs)
 | x::xs,j+1,y=>(putN xs j y).bind fun ys=>some (x::ys)
theorem yR {α:Type}:∀ {xs ys:List α} {j:Nat} {y:α},putN xs j y=some ys->j<xs.length/\ys=xs.set j y
 | [],_,_,_,h=>by cases h
 | _::xs,_,0,_,h=>by cases h;exact⟨Nat.succ_pos _,rfl⟩
 | x::xs,_,j+1,y,h=>by
  obtain⟨zs,e,h⟩:=za h
  cases h
  obtain⟨h1,h2⟩:=yR e
  exact⟨gM h1,by rw [h2];rfl⟩
theorem ZJ {α:Type}:∀ {xs:List α} {j:Nat} {y:α},j<xs.length->putN xs j y=some (xs.set j y)
 | [],_,_,h=>by cases h
 | _::xs,0,_,_=>rfl
 | x::xs,j+1,y,h=>by rw [putN,ZJ (Nat.lt_of_succ_lt_succ h)];rfl
noncomputable def kidT:T->Option (List T)
 | .tp xs=>some xs
 | .nd true _ xs=>some xs
 | _=>none
noncomputable def zdW:T->List T->Option T
 | .tp _,ys=>some (.tp ys)
 | .nd true k _,ys=>some (.nd true k ys)
 | _,_=>none
noncomputable def getT:Lc->T->Option T
 | [],t=>some t
 | j::p,t=>(kidT t).bind fun xs=>(xs[j]?).bind fun x=>getT p x
noncomputable def setT:Lc->T->T->Option T
 | [],_,n=>some n
 | j::p,t,n=>(kidT t).bind fun xs=>(xs[j]?).bind fun x=>(setT p x n).bind fun y=>(putN xs j y).bind fun ys=>zdW t ys
noncomputable def kidA:AT->Option (List AT)
 | .tp _ xs=>some xs
 | .nd _ _ xs=>some xs
 | .lf _ _=>none
noncomputable def Qh:AT->List AT->AT
 | .tp a _,ys=>.tp a ys
 | .nd a k _,ys=>.nd a k ys
 | .lf t v,_=>.lf t v
noncomputable def getA:Lc->AT->Option AT
 | [],a=>some a
 | j::p,a=>(kidA a).bind fun xs=>(xs[j]?).bind fun x=>getA p x
noncomputable def setA:Lc->AT->AT->AT
 | [],_,n=>n
 | j::p,a,n=>match kidA a with
  | some xs=>match xs[j]? with
   | some x=>Qh a (xs.set j (setA p x n))
   | none=>a
  | none=>a
theorem qd {j:Nat}{p:Lc}{a u:AT}(h:getA (j::p) a=some u):∃ xs x,kidA a=some xs/\xs[j]? = some x/\getA p x=some u/\∀ n,setA (j::p) a n=Qh a (xs.set j (setA p x n)):=by
 obtain⟨xs,e1,h⟩:=za h
 obtain⟨x,e2,h⟩:=za h
 exact⟨xs,x,e1,e2,h,fun n=>by simp only [setA,e1,e2]⟩
section
variable {a b u w x:AT} {F H:Hp} {γ:List AT}
theorem ZK {xs:List AT}(h:kidA a=some xs):kidT (era a)=some (eras xs)/\(∀ ys,zdW (era a) (eras ys)=some (era (Qh a ys)))/\(∀ ys,val (Qh a ys)=val a):=by
 cases a<;>cases h<;>exact⟨rfl,fun _=>rfl,fun _=>rfl⟩
theorem Qi {xs:List AT}{j:Nat}(h:xs[j]? = some x):(eras xs)[j]? = some (era x):=by rw [zk,uv,h];rfl
theorem xX {α:Type}{l:List α}{i:Nat}{x:α}(h:l[i]? = some x):i<l.length:=(uM.mp h).1
theorem ZL:∀ {p:Lc} {a u:AT},getA p a=some u->getT p (era a)=some (era u)
 | [],_,_,h=>by cases h;rfl
 | j::p,a,u,h=>by
  obtain⟨xs,x,e1,e2,e3,_⟩:=qd h
  simp only [getT,(ZK e1).1,uJ,Qi e2]
  exact ZL e3
theorem V0:∀ {p:Lc} {a u w:AT},getA p a=some u->setT p (era a) (era w)=some (era (setA p a w))
 | [],_,_,_,_=>rfl
 | j::p,a,u,w,h=>by
  obtain⟨xs,x,e1,e2,e3,e4⟩:=qd h
  have hj:j<(eras xs).length:=xX (Qi e2)
  simp only [setT,(ZK e1).1,uJ,Qi e2,V0 (w:=w) e3,ZJ hj,e4]
  rw [show(eras xs).set j (era (setA p x w))=eras (xs.set j (setA p x w)) by rw [zk,zk,gH]]
  exact(ZK e1).2.1 _
theorem J0:∀ {p:Lc} {a u w:AT},getA p a=some u->val w=val u->val (setA p a w)=val a
 | [],_,_,_,h,e=>by cases h;exact e
 | j::p,a,u,w,h,e=>by
  obtain⟨xs,x,e1,e2,e3,e4⟩:=qd h
  rw [e4];exact(ZK e1).2.2 _
theorem Qj {α:Type}{l:List α}{j:Nat}{x:α}(h:l[j]? = some x):l.set j x=l:=by
 apply List.ext_getElem?
 intro i
 rw [List.getElem?_set]
 split
 ·subst j;rw [← h];split
  ·exact h.symm ▸ rfl
  ·rw [List.getElem?_eq_none (by lia)]
 ·rfl
theorem zaT {xs:List AT}{j:Nat}(h:xs[j]? = some x)(e:val w=val x):vals (xs.set j w)=vals xs:=by
 unfold vals
 rw [gH,e]
 exact Qj (by rw [uv,h];rfl)
theorem kM:∀ {p:Lc} {a u:AT},OK W F H a->getA p a=some u->OK W F H u
 | [],_,_,h,e=>by cases e;exact h
 | j::p,a,u,h,e=>by
  obtain⟨xs,x,e1,e2,e3,_⟩:=qd e
  refine kM (zw.mp ?_ x (uH e2)) e3
  cases a<;>cases e1<;>exact h.2
theorem Vl:∀ {p:Lc} {a u w:AT},OK W F H a->getA p a=some u->OK W F H w->val w=val u->OK W F H (setA p a w)
 | [],_,_,_,_,_,h,_=>h
 | j::p,a,u,w,h,e,hw,hv=>by
  obtain⟨xs,x,e1,e2,e3,e4⟩:=qd e
  have hx:OKs W F H xs:=by cases a<;>cases e1<;>exact h.2
  have h1:=Vl (zw.mp hx x (uH e2)) e3 hw hv
  have h2:OKs W F H (xs.set j (setA p x w)):=zw.mpr fun y hy=>by
   rcases List.mem_or_eq_of_mem_set hy with z | z
   ·exact zw.mp hx y z
   ·rw [z];exact h1
  have h3:=zaT e2 (J0 e3 hv)
  rw [e4]
  cases a with
  | lf=>cases e1
  | tp a xs'=>cases e1;exact⟨by rw [h3];exact h.1,h2⟩
  | nd a k xs'=>cases e1;exact⟨by rw [h3];exact h.1,h2⟩
theorem yS {α:Type}:∀ {l:List α} {j:Nat} {x y:α},l[j]? = some x->(l.set j y++[x]).Perm (l++[y])
 | [],_,_,_,h=>by cases h
 | z::l,0,x,y,h=>by
  cases h
  exact(uz (l₁:=y::l) (l₂:=[z])).trans ((uz (l₁:=l) (l₂:=[y])).symm.cons z)
 | z::l,j+1,x,y,h=>(yS (l:=l) (j:=j) h).cons z
theorem J1:∀ {p:Lc} {a u w:AT},getA p a=some u->(ads (setA p a w)++ads u).Perm (ads a++ads w)
 | [],_,_,_,h=>by cases h;exact uz
 | j::p,a,u,w,h=>by
  obtain⟨xs,x,e1,e2,e3,e4⟩:=qd h
  have ih:=J1 (w:=w) e3
  have q:=(yS (y:=setA p x w) e2).flatMap_right ads
  rw [← qI,← qI,z6,z6,adss,adss,adss,adss,uw,uw] at q
  have m:(adss (xs.set j (setA p x w))++ads u).Perm (adss xs++ads w):=by
   have a1:((adss (xs.set j (setA p x w))++ads u)++ads x).Perm ((adss xs++ads w)++ads x):=by
    rw [uc]
    refine(uz.append_left _).trans ?_
    rw [← uc]
    refine(q.append_right _).trans ?_
    rw [uc,uc]
    exact(ih.trans uz).append_left _
   exact(List.perm_append_right_iff _).mp a1
  rw [e4]
  cases a with
  | lf=>cases e1
  | tp a xs'=>cases e1;exact m
  | nd a k xs'=>cases e1;exact m.cons a
theorem Js:∀ {p q:Lc} {a u w x:AT},getA p a=some u->val w=val u->q.length<=p.length->getA q a=some x->∃ y,getA q (setA p a w)=some y/\val y=val x
 | p,[],a,u,w,x,h,e,_,k=>by cases k;exact⟨_,rfl,J0 h e⟩
 | [],_::_,_,_,_,_,_,_,hl,_=>by cases hl
 | j::p,i::q,a,u,w,x,h,e,hl,k=>by
  obtain⟨xs,y,e1,e2,e3,e4⟩:=qd h
  obtain⟨xs',z,k1,k2,k3,_⟩:=qd k
  rw [e1] at k1;cases k1
  have kk:kidA (Qh a (xs.set j (setA p y w)))=some (xs.set j (setA p y w)):=by cases a<;>cases e1<;>rfl
  rw [e4]
  simp only [getA,kk,uJ]
  by_cases ij:j=i
  ·subst ij
   rw [e2] at k2;cases k2
   rw [uO (xX e2)]
   exact Js e3 e (Nat.le_of_succ_le_succ hl) k3
  ·rw [Uk ij,k2]
   exact⟨x,k3,rfl⟩
theorem get_set:∀ {p:Lc} {a u w:AT},getA p a=some u->getA p (setA p a w)=some w
 | [],_,_,_,_=>rfl
 | j::p,a,u,w,h=>by
  obtain⟨xs,y,e1,e2,e3,e4⟩:=qd h
  have kk:kidA (Qh a (xs.set j (setA p y w)))=some (xs.set j (setA p y w)):=by cases a<;>cases e1<;>rfl
  rw [e4]
  simp only [getA,kk,uJ,uO (xX e2)]
  exact get_set e3
theorem set_set:∀ {p:Lc} {a u w z:AT},getA p a=some u->setA p (setA p a w) z=setA p a z
 | [],_,_,_,_,_=>rfl
 | j::p,a,u,w,z,h=>by
  obtain⟨xs,y,e1,e2,e3,e4⟩:=qd h
  obtain⟨xs',y',k1,k2,k3,k4⟩:=qd (get_set (w:=w) h)
  have kk:kidA (Qh a (xs.set j (setA p y w)))=some (xs.set j (setA p y w)):=by cases a<;>cases e1<;>rfl
  rw [k4,e4,e4] at *
  rw [kk] at k1;cases k1
  rw [uO (xX e2)] at k2;cases k2
  rw [gI,set_set e3]
  cases a<;>cases e1<;>rfl
noncomputable def hole (u:AT):AT:=.lf .any (val u)
theorem St.out {p:Lc}(h:St W F H (a::γ))(e:getA p a=some u):St W F H (u::setA p a (hole u)::γ):=by
 have pe:(ads u++ads (setA p a (hole u))).Perm (ads a):=uz.trans ((J1 (w:=hole u) e).trans (by rw [hole,ads,uw]))
 have pa:(adss (u::setA p a (hole u)::γ)).Perm (adss (a::γ)):=by
  show(ads u++(ads (setA p a (hole u))++adss γ)).Perm (ads a++adss γ)
  rw [← uc];exact pe.append_right _
 exact⟨h.fh,⟨kM h.ok.1 e,Vl h.ok.1 e (show OK W F H (hole u) from⟨rfl,trivial⟩) rfl,h.ok.2⟩,pa.nodup_iff.mpr h.nd,fun b hb=>h.fr b (pa.mem_iff.mp hb)⟩
theorem St.into {p:Lc}(h:St W F H (w::a::γ))(e:getA p a=some u)(hu:ads u=[])(hv:val w=val u):St W F H (setA p a w::γ):=by
 have pe:(ads (setA p a w)).Perm (ads w++ads a):=by
  have:=J1 (w:=w) e
  rw [hu,uw] at this
  exact this.trans uz
 have pa:(adss (setA p a w::γ)).Perm (adss (w::a::γ)):=by
  show(ads (setA p a w)++adss γ).Perm (ads w++(ads a++adss γ))
  rw [← uc];exact pe.append_right _
 exact⟨h.fh,⟨Vl h.ok.2.1 e h.ok.1 hv,h.ok.2.2⟩,pa.nodup_iff.mpr h.nd,fun b hb=>h.fr b (pa.mem_iff.mp hb)⟩
end
end L5
namespace L5
open PySem L2 PySem.Spec PyProof.Rows
variable {W:Wd}
inductive Slot where
 | no | own (t:T) | al (i:Nat) (p:Lc)
noncomputable abbrev Sl:=List Slot
noncomputable def jN (i n:Nat):Slot->Option Slot
 | .al j q=>cond (j == i&&n.ble q.length) (some .no) (some (.al j q))
 | .own t=>some (.own t)
 | .no=>some .no
noncomputable def ownO:Slot->Option T
 | .own t=>some t
 | _=>none
noncomputable def getP (s:Sl)(i:Nat)(p:Lc):Option T:=(s[i]?).bind fun x=>(ownO x).bind fun r=>getT p r
noncomputable def res (s:Sl):Slot->Option T
 | .own t=>some t
 | .al i p=>getP s i p
 | .no=>none
noncomputable def putSt (s τ:Sl)(i:Nat)(p:Lc)(n:T):Option (Sl×Sl):=
 (mapO (jN i (p.length+1)) s).bind fun s1=>(s1[i]?).bind fun x=>(ownO x).bind fun r=>(setT p r n).bind fun r'=>(putN s1 i (.own r')).bind fun s2=>(mapO (jN i (p.length+1)) τ).bind fun τ1=>some (s2,τ1)
noncomputable def Zg (s τ:Sl)(i:Nat)(x:Slot):Option (Sl×Sl):=
 (jN i 0 x).bind fun x'=>(mapO (jN i 0) s).bind fun s1=>(putN s1 i x').bind fun s2=>(mapO (jN i 0) τ).bind fun τ1=>some (s2,τ1)
noncomputable def getS (i:Nat)(p:Lc)(as:List AT):Option AT:=(as[i]?).bind (getA p)
noncomputable def setS (i:Nat)(p:Lc)(as:List AT)(w:AT):List AT:=match as[i]? with
 | some a=>as.set i (setA p a w)
 | none=>as
noncomputable abbrev nilA:AT:=.lf .any .non
noncomputable def M1 (as:List AT):Slot->Option V->AT->Prop
 | .no,_,a=>a=nilA
 | .own t,o,a=>era a=t/\o=some (val a)
 | .al i p,o,a=>a=nilA/\∃ u,getS i p as=some u/\o=some (val u)
noncomputable def Ms (as:List AT):Sl->List (Option V)->List AT->Prop
 | [],ρ,cs=>ρ=[]/\cs=[]
 | x::s,ρ,cs=>∃ o ρ' a cs',ρ=o::ρ'/\cs=a::cs'/\M1 as x o a/\Ms as s ρ' cs'
section
variable {as cs as':List AT} {s s' τ:Sl} {ρ:List (Option V)} {x:Slot} {o:Option V} {a u w:AT} {i:Nat} {p:Lc}
theorem ja (h:getS i p as=some u):∃ a,as[i]? = some a/\getA p a=some u/\∀ w,setS i p as w=as.set i (setA p a w):=by
 obtain⟨a,e,h⟩:=za h
 exact⟨a,e,h,fun w=>by unfold setS;rw [e]⟩
theorem Ms.len:∀ {s:Sl} {ρ:List (Option V)} {cs:List AT},Ms as s ρ cs->ρ.length=s.length/\cs.length=s.length
 | [],_,_,⟨h1,h2⟩=>by rw [h1,h2];exact⟨rfl,rfl⟩
 | _::_,_,_,⟨_,_,_,_,e1,e2,_,h⟩=>by rw [e1,e2];exact⟨congrArg _ h.len.1,congrArg _ h.len.2⟩
theorem Ms.get:∀ {s:Sl} {ρ:List (Option V)} {cs:List AT} {i:Nat} {x:Slot},Ms as s ρ cs->s[i]? = some x->∃ o a,ρ[i]? = some o/\cs[i]? = some a/\M1 as x o a
 | [],_,_,_,_,_,e=>by cases e
 | _::_,_,_,0,_,⟨o,_,a,_,e1,e2,h,_⟩,e=>by cases e;subst e1 e2;exact⟨o,a,rfl,rfl,h⟩
 | _::_,_,_,i+1,_,⟨_,_,_,_,e1,e2,_,h⟩,e=>by subst e1 e2;exact Ms.get (i:=i) h e
theorem Ms.set (hx:M1 as x o a):∀ {s:Sl} {ρ:List (Option V)} {cs:List AT} {i:Nat},Ms as s ρ cs->Ms as (s.set i x) (ρ.set i o) (cs.set i a)
 | [],_,_,_,⟨h1,h2⟩=>by subst h1 h2;exact⟨rfl,rfl⟩
 | _::_,_,_,0,⟨_,_,_,_,e1,e2,_,h⟩=>by subst e1 e2;exact⟨_,_,_,_,rfl,rfl,hx,h⟩
 | _::_,_,_,i+1,⟨_,_,_,_,e1,e2,h1,h⟩=>by subst e1 e2;exact⟨_,_,_,_,rfl,rfl,h1,Ms.set hx h⟩
theorem Ms.kill {i n:Nat}(h:∀ j q u,(j=i->q.length<n)->getS j q as=some u->∃ u',getS j q as' = some u'/\val u' = val u):∀ {s s':Sl} {ρ:List (Option V)} {cs:List AT},Ms as s ρ cs->mapO (jN i n) s=some s'->Ms as' s' ρ cs
 | [],_,_,_,h1,e=>by cases e;exact h1
 | x::s,s',_,_,⟨o,ρ,a,cs,e1,e2,h1,h2⟩,e=>by
  obtain⟨y,ys,k1,k2,k⟩:=zy e
  cases k
  refine⟨o,ρ,a,cs,e1,e2,?_,Ms.kill h h2 k2⟩
  cases x with
  | no=>cases k1;exact h1
  | own t=>cases k1;exact h1
  | al j q=>
   simp only [jN] at k1
   cases c:(j == i&&n.ble q.length) with
   | true=>rw [c] at k1;cases k1;exact h1.1
   | false=>
    rw [c] at k1;cases k1
    obtain⟨hn,u,hu,ho⟩:=h1
    obtain⟨u',k3,k4⟩:=h j q u (fun z=>by
     subst z
     rw [uQ,UN] at c
     exact Nat.lt_of_not_le fun z=>by rw [gj z] at c;cases c) hu
    exact⟨hn,u',k3,by rw [k4];exact ho⟩
theorem Ks (hu:getS i p as=some u)(hv:val w=val u):∀ j q x,(j=i->q.length<p.length+1)->getS j q as=some x->∃ x',getS j q (setS i p as w)=some x'/\val x' = val x:=fun j q x hl hx=>by
 obtain⟨a,e1,e2,e3⟩:=ja hu
 rw [e3]
 by_cases ij:j=i
 ·subst ij
  obtain⟨a',k1,k2,_⟩:=ja hx
  rw [e1] at k1;cases k1
  unfold getS
  rw [uO (xX e1)]
  exact Js e2 hv (Nat.le_of_lt_succ (hl rfl)) k2
 ·refine⟨x,?_,rfl⟩
  unfold getS at hx ⊢
  rw [Uk (Ne.symm ij)];exact hx
theorem kN {σ:L2.St}{τ τ':Sl}{vs:List V}{bs:List AT}(h1:Ms as s σ as)(h2:Ms as τ (vs.map some) bs)(hu:getS i p as=some u)(hv:val w=val u)(e:putSt s τ i p (era w)=some (s',τ')):Ms (setS i p as w) s' σ (setS i p as w)/\Ms (setS i p as w) τ' (vs.map some) bs:=by
 obtain⟨s1,k1,e⟩:=za e
 obtain⟨y,k2,e⟩:=za e
 obtain⟨r,k3,e⟩:=za e
 obtain⟨r',k4,e⟩:=za e
 obtain⟨s2,k5,e⟩:=za e
 obtain⟨τ1,k6,e⟩:=za e
 cases e
 have pp:=Ks hu hv
 refine⟨?_,h2.kill pp k6⟩
 have m1:=h1.kill pp k1
 obtain⟨a,e1,e2,e3⟩:=ja hu
 cases y with
 | no=>cases k3
 | al _ _=>cases k3
 | own r0=>
  cases k3
  obtain⟨o,a',g1,g2,g3,g4⟩:=m1.get k2
  rw [e1] at g2;cases g2
  subst g3 g4
  rw [V0 e2] at k4;cases k4
  obtain⟨l,rfl⟩:=yR k5
  rw [e3]
  rw [e3] at m1
  have:=m1.set (i:=i) (x:=.own (era (setA p a w))) (o:=some (val a)) (a:=setA p a w) ⟨rfl,by rw [J0 e2 hv]⟩
  rwa [Qj g1] at this
end
theorem St.nil {F H:Hp}{γ:List AT}(h:St W F H γ):St W F H (nilA::γ):=h.leaf (t:=.any) rfl trivial
structure Rp (W:Wd)(F H:Hp)(s τ:Sl)(σ:L2.St)(vs:List V)(γ as bs:List AT):Prop where
 st:St W F H (as++(bs++γ))
 ls:Ms as s σ as
 ts:Ms as τ (vs.map some) bs
def Rep (W:Wd)(F H:Hp)(s τ:Sl)(σ:L2.St)(vs:List V)(γ:List AT):Prop:=∃ as bs,Rp W F H s τ σ vs γ as bs
section
variable {F H F' H':Hp} {s s' τ τ':Sl} {σ:L2.St} {vs:List V} {γ as bs:List AT} {x:Slot} {v:V} {t:T} {i:Nat} {p:Lc}
theorem xt {α:Type}{as bs γ:List α}{b:α}:(b::(as++(bs++γ))).Perm (as++(b::bs++γ)):=uB.symm
theorem Rp.uncons (h:Rp W F H s (x::τ) σ (v::vs) γ as bs):∃ b bs',bs=b::bs'/\M1 as x (some v) b/\St W F H (b::(as++(bs'++γ)))/\Rp W F H s τ σ vs γ as bs':=by
 obtain⟨o,ρ,b,bs',e1,e2,h1,h2⟩:=h.ts
 cases e1
 subst e2
 have st:=h.st.perm xt.symm
 exact⟨b,bs',rfl,h1,st,st.tail,h.ls,h2⟩
theorem Rp.cons {b:AT}(h:Rp W F H s τ σ vs γ as bs)(st:St W F H (b::(as++(bs++γ))))(m:M1 as x (some v) b):Rp W F H s (x::τ) σ (v::vs) γ as (b::bs):=
 ⟨st.perm xt,h.ls,_,_,_,_,rfl,rfl,m,h.ts⟩
theorem Rep.pop (h:Rep W F H s (x::τ) σ (v::vs) γ):Rep W F H s τ σ vs γ:=by
 obtain⟨as,bs,R⟩:=h
 obtain⟨b,bs',rfl,_,_,R'⟩:=R.uncons
 exact⟨as,bs',R'⟩
theorem Rep.leaf (h:Rep W F H s τ σ vs γ)(hs:shr t=true)(hv:IsV W F t v):Rep W F H s (.own t::τ) σ (v::vs) γ:=by
 obtain⟨as,bs,R⟩:=h
 exact⟨as,_,R.cons (R.st.leaf hs hv) ⟨rfl,rfl⟩⟩
theorem Rep.fh (h:Rep W F H s τ σ vs γ):Same F H:=by obtain⟨as,bs,R⟩:=h;exact R.st.fh
theorem Rp.res (h:Rp W F H s (x::τ) σ (v::vs) γ as bs)(e:res s x=some t):∃ a,OK W F H a/\era a=t/\val a=v:=by
 obtain⟨b,bs',rfl,m,st,R⟩:=h.uncons
 cases x with
 | no=>cases e
 | own t'=>cases e;cases m.2;exact⟨b,st.ok.1,m.1,rfl⟩
 | al i p=>
  obtain⟨_,u,hu,hv⟩:=m
  cases hv
  obtain⟨y,k1,e⟩:=za e
  obtain⟨r,k2,e⟩:=za e
  cases y with
  | no=>cases k2
  | al _ _=>cases k2
  | own r'=>
   cases k2
   obtain⟨o,a,g1,g2,g3,g4⟩:=R.ls.get k1
   obtain⟨a',f1,f2,_⟩:=ja hu
   rw [g2] at f1;cases f1
   subst g3
   have e:getT p (era a)=some t:=e
   rw [ZL f2] at e;cases e
   exact⟨u,kM (zw.mp R.st.left a (uH g2)) f2,rfl,rfl⟩
noncomputable def popT (s:Sl):Nat->Sl->List T->Option (List T×Sl)
 | 0,τ,acc=>some (acc,τ)
 | n+1,x::τ,acc=>(res s x).bind fun t=>popT s n τ (t::acc)
 | _+1,[],_=>none
theorem Rep.popT:∀ {n:Nat} {τ τ':Sl} {vs:List V} {acc ts:List T},Rep W F H s τ σ vs γ->popT s n τ acc=some (ts,τ')->∃ cs ws,ts=eras cs++acc/\cs.length=n/\vs=(vals cs).reverse++ws/\OKs W F H cs/\Rep W F H s τ' σ ws γ
 | 0,_,_,vs,_,_,h,e=>by cases e;exact⟨[],vs,rfl,rfl,rfl,trivial,h⟩
 | n+1,[],_,_,_,_,_,e=>by cases e
 | n+1,x::τ,_,vs,acc,_,h,e=>by
  obtain⟨t,e1,e2⟩:=za e
  obtain⟨as,bs,R⟩:=h
  cases vs with
  | nil=>obtain⟨_,_,_,_,z,_⟩:=R.ts;cases z
  | cons v vs=>
   obtain⟨a,k1,k2,k3⟩:=R.res e1
   obtain⟨cs,ws,g1,g2,g3,g4,g5⟩:=Rep.popT (Rep.pop ⟨as,bs,R⟩) e2
   refine⟨cs++[a],ws,?_,by simp [g2],?_,zw.mpr fun y hy=>?_,g5⟩
   ·rw [g1,zk,zk,uD,UG,k2,uc];rfl
   ·rw [g3];simp only [vals,uD,gA,ur,Uy,k3];rfl
   ·rcases uC.mp hy with z | z
    ·exact zw.mp g4 y z
    ·rw [uj.mp z];exact k1
noncomputable def popO:Nat->Sl->List T->Option (List T×Sl)
 | 0,τ,acc=>some (acc,τ)
 | n+1,.own t::τ,acc=>popO n τ (t::acc)
 | _,_,_=>none
theorem Rep.popO:∀ {n:Nat} {τ τ':Sl} {vs:List V} {acc ts:List T} {γ:List AT},Rep W F H s τ σ vs γ->popO n τ acc=some (ts,τ')->∃ cs ws,ts=eras cs++acc/\cs.length=n/\vs=(vals cs).reverse++ws/\Rep W F H s τ' σ ws (cs++γ)
 | 0,_,_,vs,_,_,_,h,e=>by cases e;exact⟨[],vs,rfl,rfl,rfl,h⟩
 | n+1,[],_,_,_,_,_,_,e=>by cases e
 | n+1,.no::_,_,_,_,_,_,_,e=>by cases e
 | n+1,.al _ _::_,_,_,_,_,_,_,e=>by cases e
 | n+1,.own t::τ,_,vs,acc,_,γ,h,e=>by
  obtain⟨as,bs,R⟩:=h
  cases vs with
  | nil=>obtain⟨_,_,_,_,z,_⟩:=R.ts;cases z
  | cons v vs=>
   obtain⟨b,bs',rfl,m,st,R'⟩:=R.uncons
   cases m.2
   have R2:Rep W F H s τ σ vs (b::γ):=⟨as,bs',st.perm (by rw [← uc,← uc];exact uB.symm),R'.ls,R'.ts⟩
   obtain⟨cs,ws,g1,g2,g3,g5⟩:=Rep.popO (n:=n) R2 e
   refine⟨cs++[b],ws,?_,by simp [g2],?_,by rw [uc];exact g5⟩
   ·rw [g1,zk,zk,uD,UG,m.1,uc];rfl
   ·rw [g3];simp only [vals,uD,gA,ur,Uy];rfl
theorem Rep.push {b:AT}(h:Rep W F H s τ σ vs (b::γ)):Rep W F H s (.own (era b)::τ) σ (val b::vs) γ:=by
 obtain⟨as,bs,R⟩:=h
 exact⟨as,b::bs,R.st.perm (by rw [← uc];exact uB.trans (by rw [uc];exact xt)),R.ls,_,_,_,_,rfl,rfl,⟨rfl,rfl⟩,R.ts⟩
theorem Rep.all (h:Rep W F H s τ σ vs γ):∃ Γ,St W F H (γ++Γ)/\∀ {F' H' γ'},St W F' H' (γ'++Γ)->Rep W F' H' s τ σ vs γ':=by
 obtain⟨as,bs,R⟩:=h
 have pm:∀ γ:List AT,(as++(bs++γ)).Perm (γ++(as++bs)):=fun γ=>by rw [← uc];exact uz
 exact⟨as++bs,R.st.perm (pm γ),fun st=>⟨as,bs,st.perm (pm _).symm,R.ls,R.ts⟩⟩
noncomputable def rdS (s:Sl)(i:Nat):Option Slot:=(s[i]?).bind fun x=>match x with
 | .own t=>cond (shr t) (some (.own t)) (some (.al i []))
 | .al j p=>(getP s j p).bind fun t=>cond (shr t) (some (.own t)) (some (.al j p))
 | .no=>none
theorem Rep.copy (h:Rep W F H s (x::τ) σ (v::vs) γ)(e:res s x=some t)(hs:shr t=true):Rep W F H s (.own t::τ) σ (v::vs) γ:=by
 obtain⟨as,bs,R⟩:=h
 obtain⟨a,k1,rfl,rfl⟩:=R.res e
 exact(Rep.pop ⟨as,bs,R⟩).leaf hs (k1.leaf hs).2
theorem Rep.alias (h:Rep W F H s τ σ vs γ)(e:s[i]? = some (.own t)):∃ v,σ[i]? = some (some v)/\Rep W F H s (.al i []::τ) σ (v::vs) γ:=by
 obtain⟨as,bs,R⟩:=h
 obtain⟨o,a,g1,g2,g3,g4⟩:=R.ls.get e
 subst g4
 exact⟨_,g1,as,_,R.cons R.st.nil ⟨rfl,a,by unfold getS;rw [g2];rfl,rfl⟩⟩
theorem Rep.again (h:Rep W F H s τ σ vs γ){j:Nat}(e:s[i]? = some (.al j p)):∃ v,σ[i]? = some (some v)/\Rep W F H s (.al j p::τ) σ (v::vs) γ:=by
 obtain⟨as,bs,R⟩:=h
 obtain⟨o,a,g1,g2,g3,u,g4,g5⟩:=R.ls.get e
 subst g5
 exact⟨_,g1,as,_,R.cons R.st.nil ⟨rfl,u,g4,rfl⟩⟩
theorem Rep.rd (h:Rep W F H s τ σ vs γ)(e:rdS s i=some x):∃ v,σ[i]? = some (some v)/\Rep W F H s (x::τ) σ (v::vs) γ:=by
 obtain⟨y,e1,e⟩:=za e
 cases y with
 | no=>cases e
 | own t=>
  obtain⟨v,k1,k2⟩:=h.alias e1
  refine⟨v,k1,?_⟩
  cases c:shr t<;>simp only [c] at e<;>cases e
  ·exact k2
  ·exact k2.copy (by show(s[i]?).bind _=_;rw [e1];rfl) c
 | al j p=>
  obtain⟨v,k1,k2⟩:=h.again e1
  refine⟨v,k1,?_⟩
  obtain⟨t,e2,e⟩:=za e
  cases c:shr t<;>simp only [c] at e<;>cases e
  ·exact k2
  ·exact k2.copy e2 c
end
end L5
namespace L5
open PySem L2 PySem.Spec PyProof.Rows
noncomputable def intO:T->Option Int
 | .int i=>some i
 | _=>none
noncomputable def strO:T->Option (Lc)
 | .str t=>some t
 | _=>none
noncomputable def blO:T->Option Bool
 | .bl b=>some b
 | _=>none
noncomputable def lsO:T->Option (List T)
 | .nd _ .ls xs=>some xs
 | .ks true xs=>some xs
 | _=>none
noncomputable def tpO:T->Option (List T)
 | .tp xs=>some xs
 | .ks false xs=>some xs
 | _=>none
noncomputable def sqO:T->Option (List T)
 | .nd _ .ls xs=>some xs
 | .tp xs=>some xs
 | .ks _ xs=>some xs
 | _=>none
noncomputable def dcO:T->Option (List Key×List T)
 | .nd _ (.dc ks) xs=>some (ks,xs)
 | _=>none
noncomputable def obO:T->Option (Nat×Lh×List T)
 | .nd _ (.ob c fs) xs=>some (c,fs,xs)
 | _=>none
noncomputable def shO (o:Option (List T)):Option (List T):=o.bind fun xs=>cond (shrs xs) (some xs) none
noncomputable def keyO:T->Option Key
 | .str t=>some (.inr (S t))
 | .int i=>some (.inl i)
 | _=>none
noncomputable def orO {α:Type}(a b:Option α):Option α:=match a with
 | some x=>some x
 | none=>b
noncomputable instance decMulOk (i j:Int):Decidable (IntMulOk i j):=by unfold IntMulOk;infer_instance
noncomputable def int2 (f:Int->Int->Option T):List T->Option T
 | [x,y]=>two (intO x) (intO y) f
 | _=>none
noncomputable def oSub:List T->Option T:=int2 fun i j=>some (.int (i - j))
noncomputable def oMul:List T->Option T:=int2 fun i j=>if IntMulOk i j then some (.int (i * j)) else none
noncomputable def oDiv:List T->Option T:=int2 fun i j=>if 0<j/\j<1073741824 then some (.int (i / j)) else none
noncomputable def oMod:List T->Option T:=int2 fun i j=>if 0<j then some (.int (i % j)) else none
noncomputable def oPow:List T->Option T:=int2 fun i j=>if 0<=j/\j<=1000000/\i.natAbs<2 ^ 64 then some (.int (i ^ j.toNat)) else none
noncomputable def llO:T->Option (List T)
 | .nd _ .ls xs=>some xs
 | _=>none
noncomputable def ttO:T->Option (List T)
 | .tp xs=>some xs
 | _=>none
noncomputable def oAdd:List T->Option T
 | [x,y]=>orO (two (intO x) (intO y) fun i j=>some (.int (i+j))) (orO (two (strO x) (strO y) fun a b=>if a.length+b.length<=16777216 then some (.str (a++b)) else none)
   (orO (two (llO x) (llO y) fun a b=>if a.length+b.length<=16777216/\(shrs a&&shrs b)=true then some (.nd true .ls (a++b)) else none)
    (two (ttO x) (ttO y) fun a b=>if a.length+b.length<=1000000/\(shrs a&&shrs b)=true then some (.tp (a++b)) else none)))
 | _=>none
noncomputable def oNeg:List T->Option T
 | [x]=>(intO x).bind fun i=>some (.int (-i))
 | _=>none
noncomputable def scO:T->Option V
 | .non=>some .non
 | .bl b=>some (.bl b)
 | .int i=>some (.int i)
 | .str t=>some (.str (S t))
 | _=>none
noncomputable def scOs:List T->Option (List V)
 | []=>some []
 | d::ds=>two (scO d) (scOs ds) fun x xs=>some (x::xs)
mutual
noncomputable def datO:T->Option Dat
 | .non=>some (.fl .non)
 | .bl b=>some (.fl (.bl b))
 | .int i=>some (.fl (.int i))
 | .str t=>some (.fl (.str (S t)))
 | .tp xs=>(Zh xs).map .tp
 | .nd _ .ls xs=>(Zh xs).map .ls
 | _=>none
noncomputable def Zh:List T->Option (List Dat)
 | []=>some []
 | d::ds=>two (datO d) (Zh ds) fun x xs=>some (x::xs)
end
noncomputable def eqO (a b:T):Option Bool:=
 orO (two (intO a) (intO b) fun i j=>some (decide (i=j))) (orO (two (strO a) (strO b) fun x y=>some (decide (x=y)))
  (orO (two (scO a) (scO b) fun x y=>if scal x y=true then some (decide (x=y)) else none)
   (two (datO a) (datO b) fun d e=>if depD d<=50/\(scO a).isNone=true/\(scO b).isNone=true then some (eqD d e) else none)))
noncomputable def xu (f:T->T->Option Bool)(n:Bool):List T->Option T
 | [x,y]=>(f x y).bind fun b=>some (.bl (cond n (!b) b))
 | _=>none
noncomputable def oEq:List T->Option T:=xu eqO false
noncomputable def oNe:List T->Option T:=xu eqO true
noncomputable def cmpI (f:Int->Int->Bool)(x y:T):Option Bool:=two (intO x) (intO y) fun i j=>some (f i j)
noncomputable def oLt:List T->Option T:=xu (cmpI fun i j=>decide (i<j)) false
noncomputable def oLe:List T->Option T:=xu (cmpI fun i j=>decide (i<=j)) false
noncomputable def oGt:List T->Option T:=xu (cmpI fun i j=>decide (j<i)) false
noncomputable def oGe:List T->Option T:=xu (cmpI fun i j=>decide (j<=i)) false
noncomputable def occs (l y:Lc):Lc:=Builtin.Str.occurrences (S l) (S y) 0 (S l).length 1
noncomputable def inS (y l:Lc):Bool:=match y with
 | [c]=>decide (c∈l)
 | y=>!(occs l y).isEmpty
noncomputable def inO (a b:T):Option Bool:=
 orO (two (strO a) (strO b) fun y l=>some (inS y l)) (orO (two (keyO a) (dcO b) fun k d=>some (d.1.any fun k'=>decide (k' = k))) (two (scO a) ((sqO b).bind scOs) fun x vs=>some (inV x vs)))
noncomputable def oIn:List T->Option T:=xu inO false
noncomputable def oNin:List T->Option T:=xu inO true
noncomputable def nonO:T->Option Bool
 | .non=>some true
 | .any=>none
 | _=>some false
noncomputable def isNo:T->Option Unit
 | .non=>some ()
 | _=>none
noncomputable def isO (a b:T):Option Bool:=orO (two (isNo b) (nonO a) fun _ k=>some k) (two (blO b) (blO a) fun c k=>some (k == c))
noncomputable def oIs:List T->Option T:=xu isO false
noncomputable def oIsn:List T->Option T:=xu isO true
noncomputable def cutL {α:Type}(xs:List α)(lo hi:Option Int):List α:=(xs.drop (HT.sIx xs.length 0 lo)).take (HT.sIx xs.length xs.length hi - HT.sIx xs.length 0 lo)
noncomputable def slO (x:T)(lo hi:Option Int):Option T:=
 orO ((strO x).bind fun t=>some (.str (cutL t lo hi))) (orO ((lsO x).bind fun xs=>cond (shrs xs) (some (.nd true .ls (cutL xs lo hi))) none) ((ttO x).bind fun xs=>cond (shrs xs) (some (.tp (cutL xs lo hi))) none))
noncomputable def oSl (lo hi:Bool):List T->Option T
 | x::ts=>match lo,hi,ts with
  | false,false,[]=>slO x none none
  | true,false,[a]=>(intO a).bind fun a=>slO x (some a) none
  | false,true,[b]=>(intO b).bind fun b=>slO x none (some b)
  | true,true,[a,b]=>two (intO a) (intO b) fun a b=>slO x (some a) (some b)
  | _,_,_=>none
 | _=>none
noncomputable def oRev:List T->Option T
 | [x]=>(shO (lsO x)).bind fun xs=>some (.nd true .ls xs.reverse)
 | _=>none
noncomputable def truO (x:T):Option Bool:=
 orO ((blO x).bind fun b=>some b) (orO ((intO x).bind fun i=>some (i != 0)) (orO ((strO x).bind fun t=>some (!t.isEmpty)) (orO ((sqO x).bind fun xs=>some (!xs.isEmpty)) (orO ((dcO x).bind fun d=>some (!d.1.isEmpty)) ((isNo x).bind fun _=>some false)))))
noncomputable def oLen:List T->Option T
 | [x]=>orO ((strO x).bind fun t=>some (.int t.length)) ((sqO x).bind fun xs=>some (.int xs.length))
 | _=>none
noncomputable def figs:Lc->Option Int
 | [c,d]=>if W0 c=true/\W0 d=true then some (((c - 48) * 10+(d - 48):Nat):Int) else none
 | _=>none
noncomputable def oInt:List T->Option T
 | [x]=>orO ((intO x).bind fun i=>some (.int i)) (orO ((blO x).bind fun b=>some (.int (cond b 1 0))) ((strO x).bind fun t=>(figs t).bind fun i=>some (.int i)))
 | _=>none
noncomputable def oStr:List T->Option T
 | [x]=>(intO x).bind fun i=>if 0<=i/\i<100 then some (.str (dg i.toNat)) else none
 | _=>none
noncomputable def zdX:List T->Option T
 | [x]=>orO ((strO x).bind fun t=>if t.length<=1000000 then some (.nd true .ls (t.map fun c=>.str [c])) else none) ((shO (sqO x)).bind fun xs=>some (.nd true .ls xs))
 | _=>none
noncomputable def zaU:List T->Option T
 | [x]=>orO ((shO (lsO x)).bind fun xs=>some (.tp xs)) ((shO (ttO x)).bind fun xs=>some (.tp xs))
 | _=>none
noncomputable def blOs:List T->Option (List Bool)
 | []=>some []
 | d::ds=>two (blO d) (blOs ds) fun x xs=>some (x::xs)
noncomputable def oAll:List T->Option T
 | [x]=>(llO x).bind fun xs=>(blOs xs).bind fun bs=>some (.bl (bs.all id))
 | _=>none
noncomputable def oMax:List T->Option T:=int2 fun i j=>some (.int (if j > i then j else i))
noncomputable def oMin:List T->Option T:=int2 fun i j=>some (.int (if j<i then j else i))
inductive TyK where
 | str | int | bool | list | tuple | dict
 deriving DecidableEq
noncomputable def tyO:T->Option TyK
 | .bl _=>some .bool
 | .int _=>some .int
 | .str _=>some .str
 | .tp _=>some .tuple
 | .nd _ .ls _=>some .list
 | .nd _ (.dc _) _=>some .dict
 | _=>none
noncomputable def isiO (x:T)(ks:List TyK):Option Bool:=orO ((isNo x).bind fun _=>some false) ((tyO x).bind fun k=>some (ks.any fun j=>j == k||(k == .bool&&j == .int)))
noncomputable def oIsi (ks:List TyK):List T->Option T
 | [x]=>(isiO x ks).bind fun b=>some (.bl b)
 | _=>none
noncomputable def oIsc (c:Nat):List T->Option T
 | [x]=>(obO x).bind fun o=>if o.1=c then some (.bl true) else none
 | _=>none
noncomputable def kgO:List (Lc×T)->Lc->T->T
 | [],_,w=>w
 | p::d,t,w=>if p.1=t then p.2 else kgO d t w
noncomputable def zdY (d:List (Lc×T)):List T->Option T
 | [x,w]=>(strO x).bind fun t=>cond (shr w) (some (kgO d t w)) none
 | _=>none
noncomputable def Jt:List T->Option (List (Lc))
 | []=>some []
 | d::ds=>two (strO d) (Jt ds) fun x xs=>some (x::xs)
noncomputable def splits (l y:Lc):List (Lc):=(Txt.split (S l) (S y)).map fun s=>s.cps.toList
noncomputable def undg (l:Lc):Option Nat:=(List.range 100).find? fun n=>dg n == l
inductive ME where
 | join | index | startswith | zfill | split | find
 deriving DecidableEq
noncomputable def one1 (f:T->Option T):List T->Option T
 | [x]=>f x
 | _=>none
noncomputable def meF:ME->Lc->List T->Option T
 | .join=>fun l=>one1 fun y=>(llO y).bind fun xs=>(Jt xs).bind fun ts=>if l=[]/\ts.flatten.length<=16777216 then some (.str ts.flatten) else none
 | .index=>fun l=>one1 fun y=>(strO y).bind fun y=>(occs l y).head?.bind fun i=>some (.int (i:Int))
 | .startswith=>fun l=>one1 fun y=>(strO y).bind fun y=>some (.bl (y.isPrefixOf l))
 | .zfill=>fun l=>one1 fun n=>(intO n).bind fun n=>if n=2 then(undg l).bind fun n=>some (.str (dg2 n)) else none
 | .split=>fun l=>one1 fun y=>(strO y).bind fun y=>if y≠[]/\l.length<=1000000 then some (.nd true .ls ((splits l y).map .str)) else none
 | .find=>fun l ts=>match ts with
  | [y,i]=>two (strO y) (intO i) fun y i=>some (.int (Txt.find3 (S l) (S y) i))
  | _=>none
inductive Op where
 | add
 | sub
 | mul
 | fdiv
 | mod
 | pow
 | neg
 | eq
 | ne
 | lt
 | le
 | gt
 | ge
 | isin
 | notin
 | is
 | isnot
 | sl (lo hi:Bool)
 | rev
 | len
 | int
 | str
 | list
 | tuple
 | all
 | max
 | min
 | isi (ks:List TyK)
 | isc (x:Str) (c:Nat)
 | kget (x:Str) (d:List (Lc×T))
noncomputable def opF:Op->List T->Option T
 | .add=>oAdd
 | .sub=>oSub
 | .mul=>oMul
 | .fdiv=>oDiv
 | .mod=>oMod
 | .pow=>oPow
 | .neg=>oNeg
 | .eq=>oEq
 | .ne=>oNe
 | .lt=>oLt
 | .le=>oLe
 | .gt=>oGt
 | .ge=>oGe
 | .isin=>oIn
 | .notin=>oNin
 | .is=>oIs
 | .isnot=>oIsn
 | .sl lo hi=>oSl lo hi
 | .rev=>oRev
 | .len=>oLen
 | .int=>oInt
 | .str=>oStr
 | .list=>zdX
 | .tuple=>zaU
 | .all=>oAll
 | .max=>oMax
 | .min=>oMin
 | .isi ks=>oIsi ks
 | .isc _ c=>oIsc c
 | .kget _ d=>zdY d
inductive MU where
 | append | extend | pop | popI | clear | insert
 deriving DecidableEq
noncomputable def Vm {α:Type}:List α->Nat->Option (α×List α)
 | [],_=>none
 | x::xs,0=>some (x,xs)
 | x::xs,j+1=>(Vm xs j).bind fun r=>some (r.1,x::r.2)
noncomputable def arg0:List T->Option Unit
 | []=>some ()
 | _=>none
noncomputable def arg1:List T->Option T
 | [y]=>some y
 | _=>none
noncomputable def muF:MU->List T->List T->Option (List T×T)
 | .append=>fun xs ts=>(arg1 ts).bind fun y=>if xs.length<16777216 then some (xs++[y],.non) else none
 | .extend=>fun xs ts=>(arg1 ts).bind fun y=>(llO y).bind fun ys=>if xs.length+ys.length<=16777216/\shrs ys=true then some (xs++ys,.non) else none
 | .pop=>fun xs ts=>(arg0 ts).bind fun _=>(xs.getLast?).bind fun d=>some (xs.dropLast,d)
 | .popI=>fun xs ts=>(arg1 ts).bind fun i=>(intO i).bind fun i=>(ixN xs.length i).bind fun j=>(Vm xs j).bind fun r=>if xs.length<=16777216 then some (r.2,r.1) else none
 | .clear=>fun _ ts=>(arg0 ts).bind fun _=>some ([],.non)
 | .insert=>fun _ _=>none
noncomputable def dput (ks:List Key)(xs:List T)(k:Key)(x:T):List Key×List T:=
 if (ks.any fun k'=>decide (k' = k))=true then(ks,(ks.zip xs).map fun kv=>if kv.1=k then x else kv.2) else(ks++[k],xs++[x])
noncomputable def subF (t k o:T):Option T:=
 match t with
 | .nd true .ls xs=>(intO k).bind fun i=>(ixN xs.length i).bind fun j=>(putN xs j o).bind fun ys=>some (.nd true .ls ys)
 | .nd true (.dc ks) xs=>(keyO k).bind fun k=>if ks.length<16777216/\(shrs xs&&shr o)=true then some (.nd true (.dc (dput ks xs k o).1) (dput ks xs k o).2) else none
 | _=>none
noncomputable def W9:Lh->List T->Str->T->Option (Lh×List T)
 | [],[],f,o=>some ([f],[o])
 | g::fs,x::xs,f,o=>cond (decide (g=f)) (some (g::fs,o::xs)) ((W9 fs xs f o).bind fun r=>some (g::r.1,x::r.2))
 | _,_,_,_=>none
noncomputable def fldF (t:T)(c:Nat)(f:Str)(o:T):Option T:=
 match t with
 | .nd true (.ob c' fs) xs=>if c' = c/\fs.length<1000 then(W9 fs xs f o).bind fun r=>some (.nd true (.ob c' r.1) r.2) else none
 | _=>none
structure Exn where
 c:Nat
 fs:Lh
 ts:List T
noncomputable abbrev Fn:=List T->(T->List T->Prop)->(Exn->List T->Prop)->Prop
noncomputable abbrev KP:=Sl->Sl->Prop
noncomputable abbrev XP:=Exn->Sl->Sl->Prop
inductive Md where
 | mv | mu
 deriving DecidableEq
inductive Hd where
 | fn (x:Str)
 | mt (c:Nat) (x:Str)
 | mk (c:Nat) (x:Str)
inductive IK where
 | seq | rng | enumL | enumS | zip | rvdL | rvdT
 deriving DecidableEq
inductive Xp where
 | v (i:Nat)
 | m (i:Nat)
 | c (t:T)
 | g (x:Str) (t:T)
 | fz (e:Xp)
 | ap (o:Op) (es:List Xp)
 | me (m:ME) (o:Xp) (es:List Xp)
 | chn (o1 o2:Op) (a b c:Xp)
 | bo (k:Bool) (es:List Xp)
 | not (a:Xp)
 | t (a:Xp)
 | tn (a:Xp)
 | tb (k:Bool) (es:List Xp)
 | ife (t a b:Xp)
 | lst (es:List Xp)
 | tup (es:List Xp)
 | dct
 | dsp (d:List (Lc×T))
 | dg (a k w:Xp)
 | tpl (e:Xp)
 | ix (a k:Xp)
 | at (a:Xp) (c:Nat) (f:Str)
 | call (h:Hd) (ms:List Md) (f:Fn) (es:List Xp)
 | mu (m:MU) (p:Xp) (es:List Xp)
 | lc (elt:Xp) (n:Nat) (k:IK) (its ifs:List Xp)
inductive Tg where
 | v (i:Nat)
 | tup (is:Lc)
 | sub (p k:Xp)
 | fld (p:Xp) (c:Nat) (f:Str)
inductive Cm where
 | ret (e:Xp)
 | retN
 | asg (t:Tg) (e:Xp)
 | aug (i:Nat) (o:Op) (e:Xp)
 | ife (t:Xp) (a b:List Cm)
 | loop (t:Tg) (k:IK) (its:List Xp) (b:List Cm)
 | loopA (j:Nat) (e:Xp) (b:List Cm)
 | whl (t:Xp) (b:List Cm)
 | ex (e:Xp)
 | pass
 | brk
 | cnt
 | never
structure Ends where
 rt:T->KP
 bk:KP
 ct:KP
 ex:XP
@[reducible] def bnd2 {α β:Type}(o:Option (α×β))(Q:α->β->Prop):Prop:=Option.rec (motive:=fun _=>Prop) False (fun p=>Prod.rec (motive:=fun _=>Prop) Q p) o
theorem zj {α β:Type}{o:Option (α×β)}{Q:α->β->Prop}(h:bnd2 o Q):∃ y z,o=some (y,z)/\Q y z:=by
 match o,h with
 | none,h=>exact h.elim
 | some (y,z),h=>exact⟨y,z,rfl,h⟩
noncomputable def mvS (s τ:Sl)(i:Nat):Option (Sl×Sl):=(s[i]?).bind fun x=>(ownO x).bind fun t=>(Zg s τ i .no).bind fun r=>some (r.1,.own t::r.2)
noncomputable def frzS (s:Sl):Sl->Option (Sl×Sl)
 | .own t::τ=>cond (shr t) (some (s,.own t::τ)) (some (s,.own (frz t)::τ))
 | .al i p::τ=>(getP s i p).bind fun t=>(putSt s τ i p (frz t)).bind fun r=>some (r.1,.own (frz t)::r.2)
 | _=>none
noncomputable def ixJ (t k:T):Option Nat:=
 match t with
 | .nd _ .ls xs=>(intO k).bind fun i=>ixN xs.length i
 | .tp xs=>(intO k).bind fun i=>ixN xs.length i
 | .ks _ xs=>(intO k).bind fun i=>ixN xs.length i
 | .nd _ (.dc ks) _=>(keyO k).bind fun k=>ks.findIdx? fun k'=>decide (k' = k)
 | _=>none
noncomputable def fldJ (t:T)(c:Nat)(f:Str):Option Nat:=
 match t with
 | .nd _ (.ob c' fs) _=>cond (c' == c) (fs.findIdx? fun g=>decide (g=f)) none
 | _=>none
noncomputable def parts:T->Option (List T)
 | .nd _ _ xs=>some xs
 | .tp xs=>some xs
 | .ks _ xs=>some xs
 | _=>none
noncomputable def ye (s:Sl)(x:Slot)(j:T->Option Nat):Option Slot:=
 match x with
 | .own t=>(j t).bind fun n=>(parts t).bind fun xs=>(xs[n]?).bind fun u=>some (.own u)
 | .al i p=>(getP s i p).bind fun t=>(j t).bind fun n=>(parts t).bind fun xs=>(xs[n]?).bind fun u=>cond (shr u) (some (.own u)) (some (.al i (p++[n])))
 | .no=>none
noncomputable def ixS (s:Sl):Sl->Option Sl
 | y::x::τ=>(res s y).bind fun k=>orO (two (ownO x) (intO k) fun t i=>(strO t).bind fun l=>(atI l i).bind fun c=>some (.own (.str [c])::τ)) ((ye s x fun t=>ixJ t k).bind fun z=>some (z::τ))
 | _=>none
noncomputable def atS (s:Sl)(c:Nat)(f:Str):Sl->Option Sl
 | x::τ=>(ye s x fun t=>fldJ t c f).bind fun z=>some (z::τ)
 | _=>none
noncomputable def ckD (s:Sl):Sl->Bool
 | x::_=>((res s x).bind dcO).isSome
 | []=>false
noncomputable def dcJ (key:Key)(t:T):Option Nat:=(dcO t).bind fun d=>d.1.findIdx? fun k'=>decide (k' = key)
noncomputable def dgS (s:Sl):Sl->Option Sl
 | w::y::x::τ=>(res s y).bind fun k=>(keyO k).bind fun key=>(res s x).bind fun t=>(dcO t).bind fun _=>match dcJ key t with
  | some _=>(ye s x (dcJ key)).bind fun z=>some (z::τ)
  | none=>some (w::τ)
 | _=>none
noncomputable def popS:Nat->Sl->Sl->Option (Sl×Sl)
 | 0,τ,acc=>some (acc,τ)
 | n+1,x::τ,acc=>popS n τ (x::acc)
 | _+1,[],_=>none
noncomputable abbrev Pl:=List (Option (Nat×Lc))
noncomputable def xY:List Md->Sl->Sl->Sl->Option ((List T×Pl)×(Sl×Sl))
 | [],[],s,τ=>some (([],[]),(s,τ))
 | _::ms,.own t::xs,s,τ=>(xY ms xs s τ).bind fun r=>some ((t::r.1.1,none::r.1.2),r.2)
 | .mu::ms,.al i p::xs,s,τ=>(getP s i p).bind fun t=>(putSt s τ i p .any).bind fun q=>(mapO (jN i 0) xs).bind fun xs=>(xY ms xs q.1 q.2).bind fun r=>some ((t::r.1.1,some (i,p)::r.1.2),r.2)
 | _,_,_,_=>none
noncomputable def anyO:T->Option Unit
 | .any=>some ()
 | _=>none
noncomputable def j5:Pl->List T->Sl->Sl->Option (Sl×Sl)
 | [],[],s,τ=>some (s,τ)
 | none::ps,_::ts,s,τ=>j5 ps ts s τ
 | some ip::ps,t::ts,s,τ=>(j5 ps ts s τ).bind fun q=>(getP q.1 ip.1 ip.2).bind fun u=>(anyO u).bind fun _=>putSt q.1 q.2 ip.1 ip.2 t
 | _,_,_,_=>none
@[reducible] def bndT (o:Option ((List T×Pl)×(Sl×Sl)))(Q:List T->Pl->Sl->Sl->Prop):Prop:=Option.rec (motive:=fun _=>Prop) False (fun p=>Prod.rec (motive:=fun _=>Prop) (fun a b=>Prod.rec (motive:=fun _=>Prop) (fun ts ps=>Prod.rec (motive:=fun _=>Prop) (fun s τ=>Q ts ps s τ) b) a) p) o
theorem J2 {o:Option ((List T×Pl)×(Sl×Sl))}{Q:List T->Pl->Sl->Sl->Prop}(h:bndT o Q):∃ ts ps s τ,o=some ((ts,ps),(s,τ))/\Q ts ps s τ:=by
 match o,h with
 | none,h=>exact h.elim
 | some ((ts,ps),(s,τ)),h=>exact⟨ts,ps,s,τ,rfl,h⟩
noncomputable def ckM (s:Sl)(h:Hd)(τ:Sl):Bool:=
 match h with
 | .mt c m=>match τ with
  | x::_=>match (res s x).bind obO with
   | some o=>o.1 == c&&!o.2.1.contains m
   | none=>false
  | []=>false
 | .fn _=>true
 | .mk _ _=>true
noncomputable def ckS:Sl->Bool
 | .own (.str _)::_=>true
 | _=>false
noncomputable def ckL (s:Sl):Sl->Bool
 | .al i p::_=>match getP s i p with
  | some (.nd true .ls _)=>true
  | _=>false
 | _=>false
noncomputable def muS (m:MU)(s τ:Sl)(ts:List T):Option (Sl×Sl):=
 match τ with
 | .al i p::τ=>(getP s i p).bind fun t=>match t with
  | .nd true .ls xs=>(muF m xs ts).bind fun r=>(putSt s τ i p (.nd true .ls r.1)).bind fun q=>some (q.1,.own r.2::q.2)
  | _=>none
 | _=>none
noncomputable def strS:Sl->Option (Lc×Sl)
 | .own (.str l)::τ=>some (l,τ)
 | _=>none
noncomputable def blS:Sl->Option (Bool×Sl)
 | .own (.bl b)::τ=>some (b,τ)
 | _=>none
noncomputable def ownS:Sl->Option (T×Sl)
 | .own t::τ=>some (t,τ)
 | _=>none
noncomputable def signs (t:Lc):List T:=t.map fun c=>.str [c]
noncomputable def vm (n:Nat):List T->List T
 | []=>[]
 | d::ds=>.tp [.int n,d]::vm (n+1) ds
noncomputable def seqO (x:T):Option (List T):=orO ((strO x).bind fun t=>some (signs t)) (shO (sqO x))
noncomputable def rngF:List T->Option (List T)
 | [x]=>(intO x).bind fun j=>if -(2 ^ 62)<=j/\j<2 ^ 62 then some ((List.range j.toNat).map fun(k:Nat)=>.int (k:Int)) else none
 | [x,y]=>two (intO x) (intO y) fun i j=>if (-(2 ^ 62)<=i/\i<2 ^ 62)/\(-(2 ^ 62)<=j/\j<2 ^ 62) then some ((List.range (j - i).toNat).map fun(k:Nat)=>.int (i+(k:Int))) else none
 | _=>none
noncomputable def it1F (f:T->Option (List T)):List T->Option (List T)
 | [x]=>f x
 | _=>none
noncomputable def it2F (f:T->T->Option (List T)):List T->Option (List T)
 | [x,y]=>f x y
 | _=>none
noncomputable def itF:IK->List T->Option (List T)
 | .seq=>it1F seqO
 | .rng=>rngF
 | .enumL=>it1F fun x=>(shO (lsO x)).bind fun xs=>some (vm 0 xs)
 | .enumS=>it1F fun x=>(strO x).bind fun t=>some (vm 0 (signs t))
 | .zip=>it2F fun x y=>two (shO (lsO x)) (shO (lsO y)) fun xs ys=>some ((xs.zip ys).map fun p=>.tp [p.1,p.2])
 | .rvdL=>it1F fun x=>(shO (lsO x)).bind fun xs=>some xs.reverse
 | .rvdT=>it1F fun x=>(shO (tpO x)).bind fun xs=>some xs.reverse
noncomputable def itS (k:IK)(n:Nat)(s τ:Sl):Option ((List T×Option T)×(Sl×Sl)):=
 match n,τ with
 | 1,.al i p::τ=>(getP s i p).bind fun t=>(itF k [t]).bind fun ds=>(putSt s τ i p .any).bind fun q=>some ((ds,some t),(q.1,.al i p::q.2))
 | n,τ=>(popO n τ []).bind fun r=>(itF k r.1).bind fun ds=>some ((ds,none),(s,r.2))
noncomputable def unS (o:Option T)(s τ:Sl):Option (Sl×Sl):=match o with
 | none=>some (s,τ)
 | some t=>match τ with
  | .al i p::τ=>(getP s i p).bind fun u=>(anyO u).bind fun _=>putSt s τ i p t
  | .no::τ=>some (s,τ)
  | _=>none
@[reducible] def bndI (o:Option ((List T×Option T)×(Sl×Sl)))(Q:List T->Option T->KP):Prop:=Option.rec (motive:=fun _=>Prop) False (fun p=>Prod.rec (motive:=fun _=>Prop) (fun a b=>Prod.rec (motive:=fun _=>Prop) (fun ds o=>Prod.rec (motive:=fun _=>Prop) (fun s τ=>Q ds o s τ) b) a) p) o
theorem zcT {o:Option ((List T×Option T)×(Sl×Sl))}{Q:List T->Option T->KP}(h:bndI o Q):∃ ds l s τ,o=some ((ds,l),(s,τ))/\Q ds l s τ:=by
 match o,h with
 | none,h=>exact h.elim
 | some ((ds,l),(s,τ)),h=>exact⟨ds,l,s,τ,rfl,h⟩
noncomputable def shN (n:Nat):Slot->Option Slot
 | .al i p=>some (.al (n+i) p)
 | .own t=>some (.own t)
 | .no=>some .no
noncomputable def unN (n:Nat):Slot->Option Slot
 | .al i p=>cond (n.ble i) (some (.al (i - n) p)) (some .no)
 | .own t=>some (.own t)
 | .no=>some .no
noncomputable def zaV (n:Nat)(d:T):Option Sl:=match n with
 | 1=>some [.own d]
 | n=>(tpO d).bind fun xs=>cond (xs.length == n) (some (xs.map .own)) none
noncomputable def Qk (n:Nat)(tt:Sl->Sl->(Bool->KP)->Prop)(fe:Sl->Sl->KP->Prop):List T->List T->Sl->Sl->(List T->KP)->Prop
 | [],acc,s,τ,K=>K acc s τ
 | d::ds,acc,s,τ,K=>bnd (zaV n d) fun l=>bnd (mapO (shN n) s) fun s1=>bnd (mapO (shN n) τ) fun τ1=>tt (l++s1) τ1 fun b s2 τ2=>brn b
   (fe s2 τ2 fun s3 τ3=>bnd2 (ownS τ3) fun t τ4=>acc.length<16777216/\bnd (mapO (unN n) (s3.drop n)) fun s5=>bnd (mapO (unN n) τ4) fun τ5=>Qk n tt fe ds (acc++[t]) s5 τ5 K)
   (bnd (mapO (unN n) (s2.drop n)) fun s5=>bnd (mapO (unN n) τ2) fun τ5=>Qk n tt fe ds acc s5 τ5 K)
noncomputable def zdZ:List T->Option Bool
 | [t]=>truO t
 | _=>none
noncomputable def noX:XP:=fun _ _ _=>False
mutual
noncomputable def WE:Xp->Sl->Sl->KP->XP->Prop
 | .v i=>fun s τ K _=>bnd (rdS s i) fun x=>K s (x::τ)
 | .m i=>fun s τ K _=>bnd2 (mvS s τ i) K
 | .c t=>fun s τ K _=>K s (.own t::τ)
 | .g _ t=>fun s τ K _=>K s (.own t::τ)
 | .fz e=>fun s τ K X=>WE e s τ (fun s1 τ1=>bnd2 (frzS s1 τ1) K) X
 | .ap o es=>fun s τ K X=>WEs es s τ (fun s1 τ1=>bnd2 (popT s1 es.length τ1 []) fun ts τ2=>bnd (opF o ts) fun z=>K s1 (.own z::τ2)) X
 | .me m o es=>fun s τ K X=>WE o s τ (fun s1 τ1=>brn (ckS τ1) (WEs es s1 τ1 (fun s2 τ2=>bnd2 (popT s2 es.length τ2 []) fun ts τ3=>bnd2 (strS τ3) fun l τ4=>bnd (meF m l ts) fun z=>K s2 (.own z::τ4)) X) False) X
 | .chn o1 o2 a b c=>fun s τ K X=>WE a s τ (fun s0 τ0=>WE b s0 τ0 (fun s1 τ1=>bnd2 (popT s1 2 τ1 []) fun ts τ2=>bnd (opF o1 ts) fun z=>bnd (blO z) fun z=>brn z
   (WE c s1 τ1 (fun s2 τ3=>bnd2 (popT s2 2 τ3 []) fun ts τ4=>bnd (opF o2 ts) fun z=>bnd2 (popS 1 τ4 []) fun _ τ5=>K s2 (.own z::τ5)) X) (K s1 (.own (.bl false)::τ2))) X) X
 | .bo k es=>fun s τ K X=>WB k es s τ K X
 | .not a=>fun s τ K X=>WE a s τ (fun s1 τ1=>bnd2 (blS τ1) fun b τ2=>K s1 (.own (.bl !b)::τ2)) X
 | .t a=>fun s τ K X=>WE a s τ (fun s1 τ1=>bnd2 (popT s1 1 τ1 []) fun ts τ2=>bnd (zdZ ts) fun b=>K s1 (.own (.bl b)::τ2)) X
 | .tn a=>fun s τ K X=>WT a s τ (fun b s1 τ1=>K s1 (.own (.bl !b)::τ1)) X
 | .tb k es=>fun s τ K X=>WTb k es s τ (fun b s1 τ1=>K s1 (.own (.bl b)::τ1)) X
 | .ife t a b=>fun s τ K X=>WT t s τ (fun z s1 τ1=>brn z (WE a s1 τ1 K X) (WE b s1 τ1 K X)) X
 | .lst es=>fun s τ K X=>WEs es s τ (fun s1 τ1=>bnd2 (popO es.length τ1 []) fun ts τ2=>K s1 (.own (.nd true .ls ts)::τ2)) X
 | .tup es=>fun s τ K X=>WEs es s τ (fun s1 τ1=>bnd2 (popO es.length τ1 []) fun ts τ2=>K s1 (.own (.tp ts)::τ2)) X
 | .dct=>fun s τ K _=>K s (.own (.nd true (.dc []) [])::τ)
 | .dsp d=>fun s τ K _=>K s (.own (.nd true (.dc (d.map fun p=>.inr (S p.1))) (d.map (·.2)))::τ)
 | .dg a k w=>fun s τ K X=>WE a s τ (fun s1 τ1=>brn (ckD s1 τ1) (WE k s1 τ1 (fun s2 τ2=>WE w s2 τ2 (fun s3 τ3=>bnd (dgS s3 τ3) fun τ4=>K s3 τ4) X) X) False) X
 | .tpl e=>fun s τ K X=>WE e s τ (fun s1 τ1=>bnd2 (ownS τ1) fun t τ2=>bnd (lsO t) fun ts=>K s1 (.own (.tp ts)::τ2)) X
 | .ix a k=>fun s τ K X=>WE a s τ (fun s1 τ1=>WE k s1 τ1 (fun s2 τ2=>bnd (ixS s2 τ2) fun τ3=>K s2 τ3) X) X
 | .at a c f=>fun s τ K X=>WE a s τ (fun s1 τ1=>bnd (atS s1 c f τ1) fun τ2=>K s1 τ2) X
 | .call h ms f es=>fun s τ K X=>WEh h es s τ (fun s1 τ1=>bnd2 (popS es.length τ1 []) fun xs τ2=>bndT (xY ms xs s1 τ2) fun ts ps s2 τ3=>match h with
   | .mk c _=>f (.nd true (.ob c []) []::ts) (fun r ts'=>match r,ts' with
     | .non,o::os=>bnd2 (j5 ps os s2 τ3) fun s3 τ4=>K s3 (.own o::τ4)
     | _,_=>False) (fun x ts'=>bnd2 (j5 ps ts'.tail s2 τ3) (X x))
   | _=>f ts (fun r ts'=>bnd2 (j5 ps ts' s2 τ3) fun s3 τ4=>K s3 (.own r::τ4)) (fun x ts'=>bnd2 (j5 ps ts' s2 τ3) (X x))) X
 | .mu m p es=>fun s τ K X=>WE p s τ (fun s1 τ1=>brn (ckL s1 τ1) (WEs es s1 τ1 (fun s2 τ2=>bnd2 (popO es.length τ2 []) fun ts τ3=>bnd2 (muS m s2 τ3 ts) K) X) False) X
 | .lc elt n k its ifs=>fun s τ K X=>WEs its s τ (fun s1 τ1=>bndI (itS k its.length s1 τ1) fun ds o s2 τ2=>
   Qk n (fun s τ K=>WTb true ifs s τ K noX) (fun s τ K=>WE elt s τ K noX) ds [] s2 τ2 fun acc s3 τ3=>bnd2 (unS o s3 τ3) fun s4 τ4=>K s4 (.own (.nd true .ls acc)::τ4)) X
noncomputable def WEs:List Xp->Sl->Sl->KP->XP->Prop
 | []=>fun s τ K _=>K s τ
 | e::es=>fun s τ K X=>WE e s τ (fun s1 τ1=>WEs es s1 τ1 K X) X
noncomputable def WEh (h:Hd):List Xp->Sl->Sl->KP->XP->Prop
 | []=>fun s τ K _=>K s τ
 | e::es=>fun s τ K X=>WE e s τ (fun s1 τ1=>brn (ckM s1 h τ1) (WEs es s1 τ1 K X) False) X
noncomputable def WB (k:Bool):List Xp->Sl->Sl->KP->XP->Prop
 | []=>fun _ _ _ _=>False
 | e::es=>fun s τ K X=>WE e s τ (fun s1 τ1=>match es with
  | []=>K s1 τ1
  | _=>bnd2 (blS τ1) fun b τ2=>match k with
   | true=>brn b (WB k es s1 τ2 K X) (K s1 (.own (.bl false)::τ2))
   | false=>brn b (K s1 (.own (.bl true)::τ2)) (WB k es s1 τ2 K X)) X
noncomputable def WT:Xp->Sl->Sl->(Bool->KP)->XP->Prop
 | .t a=>fun s τ K X=>WE a s τ (fun s1 τ1=>bnd2 (popT s1 1 τ1 []) fun ts τ2=>bnd (zdZ ts) fun b=>K b s1 τ2) X
 | .tn a=>fun s τ K X=>WT a s τ (fun b=>K !b) X
 | .tb k es=>fun s τ K X=>WTb k es s τ K X
 | .ap o es=>fun s τ K X=>WEs es s τ (fun s1 τ1=>bnd2 (popT s1 es.length τ1 []) fun ts τ2=>bnd (opF o ts) fun z=>bnd (blO z) fun b=>K b s1 τ2) X
 | .chn o1 o2 a b c=>fun s τ K X=>WE a s τ (fun s0 τ0=>WE b s0 τ0 (fun s1 τ1=>bnd2 (popT s1 2 τ1 []) fun ts τ2=>bnd (opF o1 ts) fun z=>bnd (blO z) fun z=>brn z
   (WE c s1 τ1 (fun s2 τ3=>bnd2 (popT s2 2 τ3 []) fun ts τ4=>bnd (opF o2 ts) fun z=>bnd2 (popS 1 τ4 []) fun _ τ5=>bnd (blO z) fun b=>K b s2 τ5) X) (K false s1 τ2)) X) X
 | _=>fun _ _ _ _=>False
noncomputable def WTb (k:Bool):List Xp->Sl->Sl->(Bool->KP)->XP->Prop
 | []=>fun s τ K _=>K k s τ
 | e::es=>fun s τ K X=>WT e s τ (fun b s1 τ1=>match es with
  | []=>K b s1 τ1
  | _=>match k with
   | true=>brn b (WTb k es s1 τ1 K X) (K false s1 τ1)
   | false=>brn b (K true s1 τ1) (WTb k es s1 τ1 K X)) X
end
noncomputable def Ju:Lc->List T->Sl->Sl->Option (Sl×Sl)
 | [],[],s,τ=>some (s,τ)
 | i::is,t::ts,s,τ=>(Zg s τ i (.own t)).bind fun q=>Ju is ts q.1 q.2
 | _,_,_,_=>none
noncomputable def setTop (i:Nat)(s:Sl):Sl->Option (Sl×Sl)
 | x::τ=>Zg s τ i x
 | _=>none
def V1 (t:Tg)(d:T)(s τ:Sl)(K:KP):Prop:=match t with
 | .v i=>bnd2 (Zg s τ i (.own d)) K
 | .tup is=>bnd (tpO d) fun ds=>bnd2 (Ju is ds s τ) K
 | _=>False
noncomputable def kO (t:Tg)(o:Option T)(body:Sl->Sl->KP->Ends->Prop)(K:KP)(D:Ends):List T->Sl->Sl->Prop
 | [],s,τ=>bnd2 (unS o s τ) K
 | d::ds,s,τ=>V1 t d s τ fun s1 τ1=>body s1 τ1 (fun s τ=>kO t o body K D ds s τ) { rt:=fun r s τ=>bnd2 (unS o s τ) (D.rt r),bk:=fun s τ=>bnd2 (unS o s τ) K,ct:=fun s τ=>kO t o body K D ds s τ,ex:=D.ex }
noncomputable def zd0 (m:Nat)(n:Nat×Bool)(s:Sl):Sl->Option Slot
 | .al i p::_=>(getP s i p).bind fun t=>(sqO t).bind fun xs=>cond (xs.length == n.1&&(lsO t).isSome == n.2) ((xs[m]?).bind fun u=>cond (shr u) (some (.own u)) (some (.al i (p++[m])))) none
 | _=>none
noncomputable def Vn (s:Sl):Sl->Option (Nat×Bool)
 | .al i p::_=>(getP s i p).bind fun t=>(sqO t).bind fun xs=>some (xs.length,(lsO t).isSome)
 | _=>none
noncomputable def V2:Sl->Option Sl
 | _::τ=>some τ
 | []=>none
noncomputable def Ql (j:Nat)(n:Nat×Bool)(body:Sl->Sl->KP->Ends->Prop)(K:KP)(D:Ends):Nat->Sl->Sl->Prop
 | 0,s,τ=>bnd (Vn s τ) fun m=>m=n/\bnd (V2 τ) fun τ1=>K s τ1
 | k+1,s,τ=>bnd (zd0 (n.1 - (k+1)) n s τ) fun x=>bnd2 (Zg s τ j x) fun s1 τ1=>body s1 τ1 (fun s τ=>Ql j n body K D k s τ) { rt:=fun r s τ=>bnd (V2 τ) fun τ1=>D.rt r s τ1,bk:=fun s τ=>bnd (V2 τ) fun τ1=>K s τ1,ct:=fun s τ=>Ql j n body K D k s τ,ex:=D.ex }
noncomputable def Jv (test:Sl->Sl->(Bool->KP)->Prop)(body:Sl->Sl->KP->Ends->Prop)(K:KP)(D:Ends):Nat->Sl->Sl->Prop
 | 0,_,_=>False
 | n+1,s,τ=>test s τ fun b s1 τ1=>brn b (body s1 τ1 (fun s τ=>Jv test body K D n s τ) { rt:=D.rt,bk:=K,ct:=fun s τ=>Jv test body K D n s τ,ex:=D.ex }) (K s1 τ1)
noncomputable def subS (s:Sl):Sl->Option (Sl×Sl)
 | k::.al i p::.own o::τ=>(res s k).bind fun k=>(getP s i p).bind fun t=>(subF t k o).bind fun t'=>putSt s τ i p t'
 | _=>none
noncomputable def fldS (c:Nat)(f:Str)(s:Sl):Sl->Option (Sl×Sl)
 | .al i p::.own o::τ=>(getP s i p).bind fun t=>(fldF t c f o).bind fun t'=>putSt s τ i p t'
 | _=>none
noncomputable def unpS (is:Lc)(s:Sl):Sl->Option (Sl×Sl)
 | .own t::τ=>(tpO t).bind fun ts=>Ju is ts s τ
 | _=>none
mutual
noncomputable def WS:Cm->Sl->Sl->KP->Ends->Prop
 | .ret e=>fun s τ _ D=>WE e s τ (fun s1 τ1=>bnd2 (ownS τ1) fun t τ2=>D.rt t s1 τ2) D.ex
 | .retN=>fun s τ _ D=>D.rt .non s τ
 | .asg t e=>fun s τ K D=>WE e s τ (fun s1 τ1=>match t with
  | .v i=>bnd2 (setTop i s1 τ1) K
  | .tup is=>bnd2 (unpS is s1 τ1) K
  | .sub p k=>WE p s1 τ1 (fun s2 τ2=>WE k s2 τ2 (fun s3 τ3=>bnd2 (subS s3 τ3) K) D.ex) D.ex
  | .fld p c f=>WE p s1 τ1 (fun s2 τ2=>bnd2 (fldS c f s2 τ2) K) D.ex) D.ex
 | .aug i o e=>fun s τ K D=>bnd (rdS s i) fun x=>bnd (ownO x) fun t=>bnd (intO t) fun _=>WE e s (x::τ) (fun s1 τ1=>bnd2 (popT s1 2 τ1 []) fun ts τ2=>bnd (opF o ts) fun z=>bnd (intO z) fun _=>bnd2 (Zg s1 τ2 i (.own z)) K) D.ex
 | .ife t a b=>fun s τ K D=>WT t s τ (fun z s1 τ1=>brn z (WSs a s1 τ1 K D) (WSs b s1 τ1 K D)) D.ex
 | .loop t k its b=>fun s τ K D=>WEs its s τ (fun s1 τ1=>bndI (itS k its.length s1 τ1) fun ds o s2 τ2=>kO t o (WSs b) K D ds s2 τ2) D.ex
 | .loopA j e b=>fun s τ K D=>WE e s τ (fun s1 τ1=>bnd (Vn s1 τ1) fun n=>Ql j n (WSs b) K D n.1 s1 τ1) D.ex
 | .whl t b=>fun s τ K D=>∃ n,Jv (fun s τ K=>WT t s τ K D.ex) (WSs b) K D n s τ
 | .ex e=>fun s τ K D=>WE e s τ (fun s1 τ1=>bnd (V2 τ1) fun τ2=>K s1 τ2) D.ex
 | .pass=>fun s τ K _=>K s τ
 | .brk=>fun s τ _ D=>D.bk s τ
 | .cnt=>fun s τ _ D=>D.ct s τ
 | .never=>fun _ _ _ _=>False
noncomputable def WSs:List Cm->Sl->Sl->KP->Ends->Prop
 | []=>fun s τ K _=>K s τ
 | c::cs=>fun s τ K D=>WS c s τ (fun s1 τ1=>WSs cs s1 τ1 K D) D
end
noncomputable def hidA:List Md->Nat->Sl
 | [],_=>[]
 | .mu::ms,i=>.al i []::hidA ms (i+1)
 | .mv::ms,i=>hidA ms (i+1)
noncomputable def retA:List Md->Nat->Sl->Sl->Option (List T)
 | [],_,_,_=>some []
 | .mu::ms,i,.own t::s,.al j []::τ=>cond (j == i) ((retA ms (i+1) s τ).bind fun r=>some (t::r)) none
 | .mv::ms,i,_::s,τ=>(retA ms (i+1) s τ).bind fun r=>some (.non::r)
 | _,_,_,_=>none
noncomputable def fnS (ts:List T):Nat->Sl:=fun n=>match ts,n with
 | t::ts,n+1=>.own t::fnS ts n
 | [],n+1=>.no::fnS [] n
 | _,0=>[]
noncomputable def fnE (ms:List Md)(Q:T->List T->Prop)(X:Exn->List T->Prop):Ends:={ rt:=fun t s τ=>bnd (retA ms 0 s τ) fun r=>Q t r,bk:=fun _ _=>False,ct:=fun _ _=>False,ex:=fun x s τ=>bnd (retA ms 0 s (τ.drop (τ.length - (hidA ms 0).length))) fun r=>X x r }
noncomputable def fnD (ms:List Md)(nl:Nat)(body:List Cm):Fn:=fun ts Q X=>
 (ts.length=ms.length)/\WSs body (fnS ts nl) (hidA ms 0) (fun s τ=>bnd (retA ms 0 s τ) fun r=>Q .non r) (fnE ms Q X)
variable {W:Wd} {F H:Hp} {a b:AT} {t:T} {v:V} {X:Cx}
theorem zI {α:Type}{a b:Option α}{z:α}(h:orO a b=some z):a=some z\/b=some z:=by
 cases a with
 | none=>exact .inr h
 | some x=>exact .inl h
theorem xc {o:Option (List T)}{xs:List T}(h:shO o=some xs):o=some xs/\shrs xs=true:=by
 obtain⟨ys,e,h⟩:=za h
 cases c:shrs ys<;>simp only [c] at h<;>cases h
 exact⟨e,c⟩
structure Sq (W:Wd)(F H:Hp)(xs:List T)(vs:List V):Prop where
 len:vs.length=xs.length
 now:IsVs W H xs vs
 sh:shrs xs=true->IsVs W F xs vs
theorem Zi (g:Same F H){xs:List T}{vs:List V}(h:IsVs W F xs vs):Sq W F H xs vs:=⟨h.len,h.mono g,fun _=>h⟩
theorem Xa (g:Same F H){xs:List AT}(h:OKs W F H xs):Sq W F H (eras xs) (vals xs):=by
 have k:=h.isv (F':=H) g fun _ _ _ e=>e
 exact⟨k.len,k,fun s=>(h.leaf s).2⟩
theorem wH {xs:List T}(g:Same F H)(h:OK W F H a)(e:lsO (era a)=some xs):∃ p vs,val a=.ref p/\SqL W.K H p vs/\Sq W F H xs vs:=by
 cases a with
 | tp p ys=>cases e
 | nd p k ys=>
  cases k<;>cases e
  obtain⟨⟨o,h1,h2⟩,h3⟩:=h
  cases h2
  exact⟨p,_,rfl,SqL.of h1,Xa g h3⟩
 | lf t v=>
  have e:lsO t=some xs:=e
  unfold lsO at e
  split at e
  ·cases e
   obtain⟨_,p,vs,o,h1,h2,h3,h4,h5⟩:=h
   cases h3
   exact⟨p,vs,h1,SqL.of (g _ _ h2),Zi g h5⟩
  ·cases e
   obtain⟨_,p,vs,h1,h2,h4,h5⟩:=h
   exact⟨p,vs,h1,Qf g h2,Zi g h5⟩
  ·cases e
theorem Zj {xs:List T}(g:Same F H)(h:OK W F H a)(e:tpO (era a)=some xs):∃ p vs,val a=.ref p/\SqT W.K H p vs/\Sq W F H xs vs/\(∀ ys,era a=.tp ys->F p=some (.tup vs)):=by
 cases a with
 | nd p k ys=>cases e
 | tp p ys=>cases e;exact⟨p,_,rfl,SqT.of (g _ _ h.1),Xa g h.2,fun _ _=>h.1⟩
 | lf t v=>
  have e:tpO t=some xs:=e
  unfold tpO at e
  split at e
  ·cases e
   obtain⟨_,p,vs,h1,h2,h3⟩:=h
   exact⟨p,vs,h1,SqT.of (g _ _ h2),Zi g h3,fun _ _=>h2⟩
  ·cases e
   obtain⟨_,p,vs,h1,h2,h4,h5⟩:=h
   exact⟨p,vs,h1,Qg g h2,Zi g h5,nofun⟩
  ·cases e
theorem zaW {t:T}{xs:List T}(e:sqO t=some xs):lsO t=some xs\/tpO t=some xs:=by
 unfold sqO at e
 split at e
 ·exact .inl e
 ·exact .inr e
 ·rename_i l ys
  cases l
  ·exact .inr e
  ·exact .inl e
 ·cases e
theorem V3 {xs:List T}(g:Same F H)(h:OK W F H a)(e:sqO (era a)=some xs):∃ p vs,val a=.ref p/\(SqL W.K H p vs\/SqT W.K H p vs)/\Sq W F H xs vs:=by
 rcases zaW e with e | e
 ·obtain⟨p,vs,h1,h2,h3⟩:=wH g h e
  exact⟨p,vs,h1,.inl h2,h3⟩
 ·obtain⟨p,vs,h1,h2,h3,_⟩:=Zj g h e
  exact⟨p,vs,h1,.inr h2,h3⟩
theorem Zk {o:Bool}{k:Kd}{xs:List T}(g:Same F H)(h:OK W F H a)(e:era a=.nd o k xs):∃ p vs ob,val a=.ref p/\H p=some ob/\ObK W k vs ob/\Sq W F H xs vs:=by
 cases a with
 | tp p ys=>cases e
 | nd p k ys=>
  cases e
  obtain⟨⟨o,h1,h2⟩,h3⟩:=h
  exact⟨p,_,o,rfl,h1,h2,Xa g h3⟩
 | lf t v=>
  cases e
  obtain⟨_,p,vs,o,h1,h2,h3,h4,h5⟩:=h
  exact⟨p,vs,o,h1,g _ _ h2,h3,Zi g h5⟩
theorem zaX {i:Int}(h:OK W F H a)(e:era a=.int i):val a=.int i:=by cases a<;>cases e;exact h.2
theorem yT {i:Bool}(h:OK W F H a)(e:era a=.bl i):val a=.bl i:=by cases a<;>cases e;exact h.2
theorem qo {l:Lc}(h:OK W F H a)(e:era a=.str l):val a=.str (S l)/\l.length<=16777216:=by cases a<;>cases e;exact h.2
theorem J3 {i:Int}(e:intO t=some i):t=.int i:=by cases t<;>cases e;rfl
theorem kP {i:Bool}(e:blO t=some i):t=.bl i:=by cases t<;>cases e;rfl
theorem zS {i:Lc}(e:strO t=some i):t=.str i:=by cases t<;>cases e;rfl
theorem zx {i:Int}(h:OK W F H a)(e:intO (era a)=some i):val a=.int i:=zaX h (J3 e)
theorem J4 {k:Key}(h:OK W F H a)(e:keyO (era a)=some k):val a=kV k:=by
 cases q:era a<;>rw [q] at e<;>cases e
 ·exact zaX h q
 ·exact(qo h q).1
def rN (W:Wd)(f:List T->Option T)(vs:List V)(H:Hp)(Q:VK):Prop:=∃ F as Γ z,OKs W F H as/\vals as=vs/\f (eras as)=some z/\St W F H Γ/\∀ F' H' w,St W F' H' (w::Γ)->era w=z->Q (val w) H'
noncomputable abbrev r2 (W:Wd)(f:List T->Option T):R2:=fun v u H Q=>rN W f [v,u] H Q
theorem xZ {f:List T->Option T}{u:V}{Q:VK}(h:r2 W f v u H Q):∃ F a b Γ z,Same F H/\OK W F H a/\OK W F H b/\val a=v/\val b=u/\f [era a,era b]=some z/\St W F H Γ/\∀ F' H' w,St W F' H' (w::Γ)->era w=z->Q (val w) H':=by
 obtain⟨F,as,Γ,z,h1,h2,h3,h4,h5⟩:=h
 match as,h2 with
 | [a,b],h2=>
  cases h2
  exact⟨F,a,b,Γ,z,h4.fh,h1.1,h1.2.1,rfl,rfl,h3,h4,h5⟩
theorem Xb {f:List T->Option T}{Q:VK}(h:rN W f [v] H Q):∃ F a Γ z,Same F H/\OK W F H a/\val a=v/\f [era a]=some z/\St W F H Γ/\∀ F' H' w,St W F' H' (w::Γ)->era w=z->Q (val w) H':=by
 obtain⟨F,as,Γ,z,h1,h2,h3,h4,h5⟩:=h
 match as,h2 with
 | [a],h2=>
  cases h2
  exact⟨F,a,Γ,z,h4.fh,h1.1,rfl,h3,h4,h5⟩
section
variable {Γ:List AT} {z:T} {Q:VK}
theorem vn (st:St W F H Γ)(q:∀ F' H' w,St W F' H' (w::Γ)->era w=z->Q (val w) H')(hs:shr z=true)(hv:IsV W F z v):Q v H:=q F H (.lf z v) (st.leaf hs hv) rfl
theorem jo {i:Int}(st:St W F H Γ)(q:∀ F' H' w,St W F' H' (w::Γ)->era w=.int i->Q (val w) H'):Q (.int i) H:=vn st q rfl rfl
theorem fin_bl {i:Bool}(st:St W F H Γ)(q:∀ F' H' w,St W F' H' (w::Γ)->era w=.bl i->Q (val w) H'):Q (.bl i) H:=vn st q rfl rfl
theorem yU {l:Lc}(st:St W F H Γ)(q:∀ F' H' w,St W F' H' (w::Γ)->era w=.str l->Q (val w) H')(hl:l.length<=16777216):Q (.str (S l)) H:=vn st q rfl ⟨rfl,hl⟩
theorem kQ {ts:List T}{vs:List V}(st:St W F H Γ)(q:∀ F' H' w,St W F' H' (w::Γ)->era w=.nd true .ls ts->Q (val w) H')(s:shrs ts=true)(i:IsVs W F ts vs):∀ p,H p=none->Q (.ref p) (upd H p (.lst vs)):=fun p hp=>by
 obtain⟨h1,h2,h3⟩:=st.leaves i s
 have:=h1.node (k:=.ls) (o:=.lst vs) hp (by show HO.lst vs=.lst _;rw [h3])
 exact q _ _ _ this (congrArg _ h2)
theorem Vo {ts:List T}{vs:List V}(st:St W F H Γ)(q:∀ F' H' w,St W F' H' (w::Γ)->era w=.tp ts->Q (val w) H')(s:shrs ts=true)(i:IsVs W F ts vs):∀ p,H p=none->Q (.ref p) (upd H p (.tup vs)):=fun p hp=>by
 obtain⟨h1,h2,h3⟩:=st.leaves i s
 have:=h1.tuple hp
 rw [h3] at this
 exact q _ _ _ this (congrArg _ h2)
theorem IsVs.app:∀ {xs ys:List T} {vs us:List V},IsVs W F xs vs->IsVs W F ys us->IsVs W F (xs++ys) (vs++us)
 | [],_,_,_,h,k=>by rw [show _=[] from h];exact k
 | _::_,_,_,_,⟨v,r,e,h1,h2⟩,k=>⟨v,r++_,by rw [e];rfl,h1,h2.app k⟩
theorem IsVs.get:∀ {xs:List T} {vs:List V} {j:Nat} {x:T},IsVs W F xs vs->xs[j]? = some x->∃ v,vs[j]? = some v/\IsV W F x v
 | [],_,_,_,_,e=>by cases e
 | _::_,_,0,_,⟨v,r,e,h1,h2⟩,k=>by cases k;exact⟨v,by rw [e];rfl,h1⟩
 | _::_,_,j+1,_,⟨v,r,e,h1,h2⟩,k=>by rw [e];exact h2.get (j:=j) k
theorem IsVs.drop:∀ {xs:List T} {vs:List V} (n:Nat),IsVs W F xs vs->IsVs W F (xs.drop n) (vs.drop n)
 | _,_,0,h=>h
 | [],_,_+1,h=>by rw [show _=[] from h];rfl
 | _::_,_,n+1,⟨v,r,e,_,h2⟩=>by rw [e];exact h2.drop n
theorem IsVs.take:∀ {xs:List T} {vs:List V} (n:Nat),IsVs W F xs vs->IsVs W F (xs.take n) (vs.take n)
 | _,_,0,_=>rfl
 | [],_,_+1,h=>by rw [show _=[] from h];rfl
 | _::_,_,n+1,⟨v,r,e,h1,h2⟩=>by rw [e];exact⟨v,_,rfl,h1,h2.take n⟩
theorem IsVs.cut {xs:List T}{vs:List V}(h:IsVs W F xs vs)(lo hi:Option Int):IsVs W F (cutL xs lo hi) (cutV vs lo hi):=by
 unfold cutL cutV
 rw [h.len]
 exact(h.drop _).take _
theorem IsVs.rev:∀ {xs:List T} {vs:List V},IsVs W F xs vs->IsVs W F xs.reverse vs.reverse
 | [],_,h=>by rw [show _=[] from h];rfl
 | _::_,_,⟨v,r,e,h1,h2⟩=>by
  rw [e,Ul,Ul]
  exact h2.rev.app ⟨v,[],rfl,h1,rfl⟩
theorem zK:∀ {ts:List T},shrs ts=true↔∀ t∈ts,shr t=true
 | []=>⟨fun _ _ h=>(by cases h),fun _=>rfl⟩
 | t::ts=>by
  rw [gu,shrs,uI]
  exact and_congr Iff.rfl zK
theorem yV {xs ys:List T}(h:shrs xs=true)(k:∀ y∈ys,y∈xs):shrs ys=true:=zK.mpr fun y hy=>zK.mp h y (k y hy)
theorem Qm {xs ys:List T}(h:shrs xs=true)(k:shrs ys=true):shrs (xs++ys)=true:=zK.mpr fun y hy=>(uC.mp hy).elim (zK.mp h y) (zK.mp k y)
theorem Qn {xs:List T}{lo hi:Option Int}:∀ y∈cutL xs lo hi,y∈xs:=fun y hy=>List.mem_of_mem_drop (List.mem_of_mem_take hy)
def Zl (W:Wd)(o:Operator)(f:List T->Option T):Prop:=∀ X:Cx,OpR X (binaryOp o) (r2 W f)
theorem J5 {f:Int->Int->Option T}{a b:AT}{z:T}(h:int2 f [era a,era b]=some z)(ha:OK W F H a)(hb:OK W F H b):∃ i j,val a=.int i/\val b=.int j/\f i j=some z:=by
 obtain⟨i,j,e1,e2,e3⟩:=zy h
 exact⟨i,j,zx ha e1,zx hb e2,e3⟩
theorem jB {f:Value->Value->Sem Value}{r r':R2}(h:OpR X f r)(k:∀ x y H Q,r' x y H Q->r x y H Q):OpR X f r':=fun pins s σ H x y v u Q I rx ry z=>h pins s σ H x y v u Q I rx ry (k x y H Q z)
theorem yW {g:Int->Int->V}{C:Int->Int->Prop}{f:Int->Int->Option T}{o:Operator}(op:∀ X,OpR X (binaryOp o) (rI C g))(k:∀ i j z,f i j=some z->C i j/\∃ n,z=.int n/\g i j=.int n):Zl W o (int2 f):=fun X=>jB (op X) fun x y H Q h=>by
 obtain⟨F,a,b,Γ,z,g0,ha,hb,rfl,rfl,e,st,q⟩:=xZ h
 obtain⟨i,j,e1,e2,e3⟩:=J5 e ha hb
 obtain⟨c,n,rfl,e4⟩:=k i j z e3
 exact⟨i,j,e1,e2,c,by rw [e4];exact jo st q⟩
theorem zW {α:Type}{c:Prop} [Decidable c]{x z:α}(h:(if c then some x else none)=some z):c/\x=z:=by
 split at h
 ·cases h;exact⟨by assumption,rfl⟩
 ·cases h
theorem zfl:Zl W .Sub oSub:=yW (C:=fun _ _=>True) (fun X=>jB zeJ fun x y H Q ⟨i,j,e1,e2,_,q⟩=>⟨i,j,e1,e2,q⟩) fun i j z e=>by cases e;exact⟨trivial,_,rfl,rfl⟩
theorem zfm:Zl W .Mult oMul:=yW (fun X=>zcC) fun i j z e=>by obtain⟨c,rfl⟩:=zW e;exact⟨c,_,rfl,rfl⟩
theorem zfn:Zl W .FloorDiv oDiv:=yW (fun X=>zcn) fun i j z e=>by obtain⟨c,rfl⟩:=zW e;exact⟨c,_,rfl,rfl⟩
theorem zfo:Zl W .Mod oMod:=yW (fun X=>zeK) fun i j z e=>by obtain⟨c,rfl⟩:=zW e;exact⟨c,_,rfl,rfl⟩
theorem zfp:Zl W .Pow oPow:=yW (fun X=>zeL) fun i j z e=>by obtain⟨c,rfl⟩:=zW e;exact⟨c,_,rfl,rfl⟩
end
end L5
namespace L5
open PySem L2 PySem.Spec PyProof.Rows
variable {W:Wd} {F H:Hp} {a b:AT} {t:T} {v:V} {X:Cx}
theorem l1 {a x:T}(h:[a]=[x]):a=x:=(UO h).1
theorem l2 {a b x y:T}(h:[a,b]=[x,y]):a=x/\b=y:=⟨(UO h).1,l1 (UO h).2⟩
theorem zfq {xs:List T}(e:llO t=some xs):∃ o,t=.nd o .ls xs:=by
 cases t with
 | nd o k ys=>cases k<;>cases e;exact⟨o,rfl⟩
 | _=>cases e
theorem zfr {xs:List T}(e:ttO t=some xs):t=.tp xs:=by cases t<;>cases e;rfl
theorem Xc {xs:List T}(g:Same F H)(h:OK W F H a)(e:llO (era a)=some xs):∃ p vs,val a=.ref p/\H p=some (.lst vs)/\Sq W F H xs vs:=by
 obtain⟨o,e⟩:=zfq e
 obtain⟨p,vs,o,k1,k2,rfl,k4⟩:=Zk g h e
 exact⟨p,vs,k1,k2,k4⟩
theorem V4 {xs:List T}(g:Same F H)(h:OK W F H a)(e:ttO (era a)=some xs):∃ p vs,val a=.ref p/\F p=some (.tup vs)/\Sq W F H xs vs:=by
 have e:=zfr e
 obtain⟨p,vs,k1,k2,k3,k4⟩:=Zj g h (by rw [e];rfl)
 exact⟨p,vs,k1,k4 _ e,k3⟩
theorem zfs:Zl W .Add oAdd:=fun X=>jB (wG zeI (wG zcB (wG zcP zeW))) fun x y H Q h=>by
 obtain⟨F,a,b,Γ,z,g,ha,hb,rfl,rfl,e,st,q⟩:=xZ h
 rcases zI e with e | e
 ·obtain⟨i,j,e1,e2,e⟩:=zy e
  cases e
  exact .inl ⟨_,_,zx ha e1,zx hb e2,jo st q⟩
 rcases zI e with e | e
 ·obtain⟨i,j,e1,e2,e⟩:=zy e
  obtain⟨c,rfl⟩:=zW e
  exact .inr (.inl ⟨_,_,(qo ha (zS e1)).1,(qo hb (zS e2)).1,by rw [sizeLine_eq];exact c,yU st q (by rw [ub];exact c)⟩)
 rcases zI e with e | e
 ·obtain⟨i,j,e1,e2,e⟩:=zy e
  obtain⟨⟨c,s⟩,rfl⟩:=zW e
  rw [uI] at s
  obtain⟨p1,v1,k1,k2,k4⟩:=Xc g ha e1
  obtain⟨p2,v2,j1,j2,j4⟩:=Xc g hb e2
  exact .inr (.inr (.inr ⟨p1,p2,v1,v2,k1,j1,k2,j2,by rw [k4.len,j4.len,sizeLine_eq];exact c,kQ st q (Qm s.1 s.2) ((k4.sh s.1).app (j4.sh s.2))⟩))
 ·obtain⟨i,j,e1,e2,e⟩:=zy e
  obtain⟨⟨c,s⟩,rfl⟩:=zW e
  rw [uI] at s
  obtain⟨p1,v1,k1,k4,k3⟩:=V4 g ha e1
  obtain⟨p2,v2,j1,j4,j3⟩:=V4 g hb e2
  have iv:=(k3.sh s.1).app (j3.sh s.2)
  have sh:=Qm s.1 s.2
  refine .inr (.inr (.inl ⟨p1,p2,v1,v2,k1,j1,g _ _ k4,g _ _ j4,by rw [k3.len,j3.len];exact c,fun z=>?_,fun z=>?_,Vo st q sh iv⟩))
  ·subst z
   rw [uw] at iv
   exact vn st q sh ⟨p1,v1,rfl,k4,iv⟩
  ·subst z
   exact vn st q sh ⟨p2,v2,rfl,j4,iv⟩
def xw (W:Wd)(o:CmpOp)(f:List T->Option T):Prop:=∀ X:Cx,X.K=W.K->X.A.units+64<cLine->OpR X (compareOp o) (r2 W f)
theorem xy {f:T->T->Option Bool}{n:Bool}{x y z:T}(h:xu f n [x,y]=some z):∃ b,f x y=some b/\z=.bl (cond n (!b) b):=by
 obtain⟨b,e,h⟩:=za h
 cases h
 exact⟨b,e,rfl⟩
theorem J6 {a:V}(h:IsV W H t v)(e:scO t=some a):v=a/\zF a=true:=by
 cases t<;>cases e
 ·exact⟨h,rfl⟩
 ·exact⟨h,rfl⟩
 ·exact⟨h,rfl⟩
 ·exact⟨h.1,rfl⟩
theorem V5:∀ {ts:List T} {vs xs:List V},IsVs W H ts vs->scOs ts=some xs->vs=xs/\xs.all zF=true
 | [],_,_,h,e=>by cases e;exact⟨h,rfl⟩
 | t::ts,_,_,⟨v,r,e0,h1,h2⟩,e=>by
  obtain⟨a,as,e1,e2,e⟩:=zy e
  cases e
  obtain⟨rfl,f1⟩:=J6 h1 e1
  obtain⟨rfl,f2⟩:=V5 h2 e2
  exact⟨e0,by rw [Uv,f1,f2];rfl⟩
mutual
theorem J7:∀ {t:T} {v:V} {e:Dat},IsV W H t v->datO t=some e->IsDt H e v
 | .non,_,_,h,e=>by cases e;exact⟨h,rfl⟩
 | .bl _,_,_,h,e=>by cases e;exact⟨h,rfl⟩
 | .int _,_,_,h,e=>by cases e;exact⟨h,rfl⟩
 | .str _,_,_,h,e=>by cases e;exact⟨h.1,rfl⟩
 | .tp ds,_,_,⟨p,vs,e0,h1,h2⟩,e=>by
  obtain⟨es,e1,rfl⟩:=uu.mp e
  exact⟨p,vs,e0,h1,Qo h2 e1⟩
 | .nd _ .ls ds,_,_,⟨p,vs,o,e0,h1,h2,_,h3⟩,e=>by
  obtain⟨es,e1,rfl⟩:=uu.mp e
  cases h2
  exact⟨p,vs,e0,h1,Qo h3 e1⟩
 | .nd _ (.dc _) _,_,_,_,e=>by cases e
 | .nd _ (.ob _ _) _,_,_,_,e=>by cases e
 | .xo _ _ _,_,_,_,e=>by cases e
 | .ks _ _,_,_,_,e=>by cases e
 | .any,_,_,_,e=>by cases e
theorem Qo:∀ {ts:List T} {vs:List V} {es:List Dat},IsVs W H ts vs->Zh ts=some es->IsDs H es vs
 | [],_,_,h,e=>by cases e;exact h
 | t::ts,_,_,⟨v,r,e0,h1,h2⟩,e=>by
  obtain⟨a,as,e1,e2,e⟩:=zy e
  cases e
  exact⟨v,r,e0,J7 h1 e1,Qo h2 e2⟩
end
theorem V6 {d:Dat}(h:IsV W H t v)(e:datO t=some d)(k:(scO t).isNone=true):∃ p,v=.ref p:=by
 cases t with
 | tp xs=>obtain⟨p,vs,e,_⟩:=h;exact⟨p,e⟩
 | nd o k xs=>obtain⟨p,vs,o,e,_⟩:=h;exact⟨p,e⟩
 | ks l xs=>obtain⟨p,vs,e,_⟩:=h;exact⟨p,e⟩
 | xo c fs xs=>obtain⟨p,vs,e,_⟩:=h;exact⟨p,e⟩
 | any=>cases e
 | _=>cases k
theorem zft {x y:T}{u:V}{k:Bool}(hx:IsV W H x v)(hy:IsV W H y u)(e:eqO x y=some k):(scal v u=true/\decide (v=u)=k)\/∃ d e p q,v=.ref p/\u=.ref q/\IsDt H d (.ref p)/\IsDt H e (.ref q)/\depD d<=50/\eqD d e=k:=by
 rcases zI e with e | e
 ·obtain⟨i,j,e1,e2,e⟩:=zy e
  cases e
  have hx:IsV W H x v:=hx
  rw [J3 e1] at hx;rw [J3 e2] at hy
  rw [show v=_ from hx,show u=_ from hy]
  exact .inl ⟨rfl,by simp⟩
 rcases zI e with e | e
 ·obtain⟨l,m,e1,e2,e⟩:=zy e
  cases e
  rw [zS e1] at hx;rw [zS e2] at hy
  rw [show v=_ from hx.1,show u=_ from hy.1]
  refine .inl ⟨rfl,?_⟩
  by_cases c:l=m
  ·subst c;simp
  ·rw [uo c,uo]
   intro z
   exact c (by have:=congrArg (fun v=>match v with | V.str s=>s.cps.toList | _=>[]) z;simpa [S] using this)
 rcases zI e with e | e
 ·obtain⟨x',y',e1,e2,e⟩:=zy e
  obtain⟨c,e⟩:=zW e
  obtain⟨rfl,_⟩:=J6 hx e1
  obtain⟨rfl,_⟩:=J6 hy e2
  exact .inl ⟨c,e⟩
 ·obtain⟨d,d',e1,e2,e⟩:=zy e
  obtain⟨⟨c,n1,n2⟩,e⟩:=zW e
  obtain⟨p,rfl⟩:=V6 hx e1 n1
  obtain⟨q,rfl⟩:=V6 hy e2 n2
  exact .inr ⟨d,d',p,q,rfl,rfl,J7 hx e1,J7 hy e2,c,e⟩
theorem zaY (n:Bool)(o:CmpOp)(op:∀ X:Cx,X.A.units+64<cLine->OpR X (compareOp o) fun x y H Q=>(scal x y=true/\Q (.bl (cond n (!decide (x=y)) (decide (x=y)))) H)\/∃ d e p q,x=.ref p/\y=.ref q/\IsDt H d (.ref p)/\IsDt H e (.ref q)/\depD d<=50/\Q (.bl (cond n (!eqD d e) (eqD d e))) H):xw W o (xu eqO n):=fun X _ hu=>jB (op X hu) fun x y H Q h=>by
 obtain⟨F,a,b,Γ,z,g,ha,hb,rfl,rfl,e,st,q⟩:=xZ h
 obtain⟨k,e',rfl⟩:=xy e
 replace e:=e'
 rcases zft (ha.now g) (hb.now g) e with⟨h1,h2⟩ | ⟨d,d',p,p',h1,h2,h3,h4,h5,h6⟩
 ·exact .inl ⟨h1,by rw [h2];exact fin_bl st q⟩
 ·exact .inr ⟨d,d',p,p',h1,h2,h3,h4,h5,by rw [h6];exact fin_bl st q⟩
theorem zhm:xw W .Eq oEq:=zaY false .Eq fun X hu=>wG zg0 (ze9 hu)
theorem zhn:xw W .NotEq oNe:=zaY true .NotEq fun X hu=>wG zg1 (zfa hu)
theorem ZM {f:Int->Int->Bool}{o:CmpOp}(op:∀ X:Cx,OpR X (compareOp o) (rI0 fun i j=>.bl (f i j))):xw W o (xu (cmpI f) false):=fun X _ _=>jB (op X) fun x y H Q h=>by
 obtain⟨F,a,b,Γ,z,g,ha,hb,rfl,rfl,e,st,q⟩:=xZ h
 obtain⟨k,e',rfl⟩:=xy e
 replace e:=e'
 obtain⟨i,j,e1,e2,e3⟩:=zy e
 cases e3
 exact⟨i,j,zx ha e1,zx hb e2,fin_bl st q⟩
theorem zho:xw W .Lt oLt:=ZM fun _=>zg2
theorem zhp:xw W .LtE oLe:=ZM fun _=>zg3
theorem zhq:xw W .Gt oGt:=ZM fun _=>zg4
theorem zhr:xw W .GtE oGe:=ZM fun _=>zg5
theorem zaZ {ks:List Key}{kvs:List (Key×V)}{k:Key}(e:kvs.map (·.1)=ks):(valV kvs k).isSome=ks.any fun k'=>decide (k' = k):=by
 subst e
 unfold valV
 induction kvs with
 | nil=>rfl
 | cons a l ih=>
  rw [Uu,ur,Um]
  cases h:decide (a.1=k) with
  | true=>rfl
  | false=>rw [U0];exact ih
theorem Qp {d:List Key×List T}(e:dcO t=some d):∃ o,t=.nd o (.dc d.1) d.2:=by
 cases t with
 | nd o k ys=>cases k<;>cases e;exact⟨o,rfl⟩
 | _=>cases e
theorem za0 {k:Bool}(g:Same F H)(ha:OK W F H a)(hb:OK W F H b)(e:inO (era a) (era b)=some k) :
  (∃ i j,val a=.str i/\val b=.str j/\(!(Builtin.Str.occurrences j i 0 j.length 1).isEmpty)=k)\/(∃ p xs,val b=.ref p/\(SqL W.K H p xs\/SqT W.K H p xs)/\zF (val a)=true/\xs.all zF=true/\inV (val a) xs=k)\/∃ p o,val b=.ref p/\DGet H p (val a) o/\o.isSome=k:=by
 rcases zI e with e | e
 ·obtain⟨y,l,e1,e2,e⟩:=zy e
  cases e
  refine .inl ⟨_,_,(qo ha (zS e1)).1,(qo hb (zS e2)).1,?_⟩
  unfold inS
  split
  ·exact StrLaws.found_one (S l) _
  ·rfl
 rcases zI e with e | e
 ·obtain⟨k',d,e2,e1,e⟩:=zy e
  cases e
  obtain⟨o,e1⟩:=Qp e1
  obtain⟨p,vs,o,h1,h2,⟨kvs,rfl,h3,_⟩,_⟩:=Zk g hb e1
  exact .inr (.inr ⟨p,valV kvs k',h1,by rw [J4 ha e2];exact DGet.k h2,zaZ h3⟩)
 ·obtain⟨x,vs,e1,e2,e⟩:=zy e
  cases e
  obtain⟨ys,e2,e3⟩:=za e2
  obtain⟨h1,h2⟩:=J6 (ha.now g) e1
  obtain⟨p,us,h3,h4,h5⟩:=V3 g hb e2
  obtain⟨rfl,h6⟩:=V5 h5.now e3
  exact .inr (.inl ⟨p,us,h3,h4,by rw [h1];exact h2,h6,by rw [h1]⟩)
theorem zhs:xw W .In oIn:=fun X hK hu=>jB (wG YV (wG (zcF hK) (zfi (by lia)))) fun x y H Q h=>by
 obtain⟨F,a,b,Γ,z,g,ha,hb,rfl,rfl,e,st,q⟩:=xZ h
 obtain⟨k,e',rfl⟩:=xy e
 replace e:=e'
 have fin:Q (.bl k) H:=fin_bl st q
 rcases za0 g ha hb e with⟨i,j,e1,e2,h⟩ | ⟨p,xs,e1,h1,h2,h3,h⟩ | ⟨p,o,e1,h1,h⟩
 ·exact .inl ⟨i,j,e1,e2,by rw [h];exact fin⟩
 ·exact .inr (.inl ⟨p,xs,e1,h1,h2,h3,by rw [uq (by decide),h];exact fin⟩)
 ·exact .inr (.inr ⟨p,o,e1,h1,by rw [uq (by decide),h];exact fin⟩)
theorem zfu:xw W .NotIn oNin:=fun X hK hu=>jB (wG JK (wG (Vi hK) (Kq (by lia)))) fun x y H Q h=>by
 obtain⟨F,a,b,Γ,z,g,ha,hb,rfl,rfl,e,st,q⟩:=xZ h
 obtain⟨k,e',rfl⟩:=xy e
 replace e:=e'
 have fin:Q (.bl (!k)) H:=fin_bl st q
 rcases za0 g ha hb e with⟨i,j,e1,e2,h⟩ | ⟨p,xs,e1,h1,h2,h3,h⟩ | ⟨p,o,e1,h1,h⟩
 ·exact .inl ⟨i,j,e1,e2,by rw [h];exact fin⟩
 ·exact .inr (.inl ⟨p,xs,e1,h1,h2,h3,by rw [uA rfl,h];exact fin⟩)
 ·exact .inr (.inr ⟨p,o,e1,h1,by rw [uA rfl,h];exact fin⟩)
theorem zcU {k:Bool}(h:IsV W H t v)(e:nonO t=some k):decide (v=.non)=k:=by
 cases t with
 | non=>cases e;rw [show v=_ from h];rfl
 | bl _=>cases e;rw [show v=_ from h];rfl
 | int _=>cases e;rw [show v=_ from h];rfl
 | str _=>cases e;rw [show v=_ from h.1];rfl
 | tp _=>cases e;obtain⟨p,vs,e,_⟩:=h;rw [e];rfl
 | nd _ _ _=>cases e;obtain⟨p,vs,o,e,_⟩:=h;rw [e];rfl
 | ks _ _=>cases e;obtain⟨p,vs,e,_⟩:=h;rw [e];rfl
 | xo _ _ _=>cases e;obtain⟨p,vs,e,_⟩:=h;rw [e];rfl
 | any=>cases e
theorem J8 {d:Unit}(e:isNo t=some d):t=.non:=by cases t<;>cases e;rfl
theorem za1 {k:Bool}(g:Same F H)(ha:OK W F H a)(hb:OK W F H b)(e:isO (era a) (era b)=some k):(val b=.non/\decide (val a=.non)=k)\/∃ c,val b=.bl c/\∃ i,val a=.bl i/\(i == c)=k:=by
 rcases zI e with e | e
 ·obtain⟨_,k',e1,e2,e⟩:=zy e
  cases e
  refine .inl ⟨?_,zcU (ha.now g) e2⟩
  have:=hb.now g
  rw [J8 e1] at this
  exact this
 ·obtain⟨c,i,e1,e2,e⟩:=zy e
  cases e
  exact .inr ⟨_,yT hb (kP e1),i,yT ha (kP e2),rfl⟩
theorem zht:xw W .Is oIs:=fun X hK hu=>jB (wG zeM zfe) fun x y H Q h=>by
 obtain⟨F,a,b,Γ,z,g,ha,hb,rfl,rfl,e,st,q⟩:=xZ h
 obtain⟨k,e',rfl⟩:=xy e
 replace e:=e'
 have fin:Q (.bl k) H:=fin_bl st q
 rcases za1 g ha hb e with⟨e1,h⟩ | ⟨c,e1,i,e2,h⟩
 ·exact .inl ⟨e1,by rw [h];exact fin⟩
 ·exact .inr ⟨c,e1,i,e2,by rw [h];exact fin⟩
theorem zfv:xw W .IsNot oIsn:=fun X hK hu=>jB (wG zco Kk) fun x y H Q h=>by
 obtain⟨F,a,b,Γ,z,g,ha,hb,rfl,rfl,e,st,q⟩:=xZ h
 obtain⟨k,e',rfl⟩:=xy e
 replace e:=e'
 have fin:Q (.bl (!k)) H:=fin_bl st q
 rcases za1 g ha hb e with⟨e1,h⟩ | ⟨c,e1,i,e2,h⟩
 ·exact .inl ⟨e1,by rw [h];exact fin⟩
 ·exact .inr ⟨c,e1,i,e2,by rw [h];exact fin⟩
end L5
namespace L5
open PySem L2 PySem.Spec PyProof.Rows
variable {W:Wd} {F H:Hp} {a b:AT} {t:T} {v:V} {X:Cx}
theorem zfw:UnR X (unaryOp .USub) (fun v H Q=>rN W oNeg [v] H Q):=fun pins s σ H x v Q I rx h=>by
 obtain⟨F,a,Γ,z,g,ha,rfl,e,st,q⟩:=Xb h
 obtain⟨i,e1,e⟩:=za e
 cases e
 exact K9 pins s σ H _ v Q I rx ⟨i,zx ha e1,jo st q⟩
theorem za2 {α β:Type}{vs:List α}{xs:List β}(h:vs.length=xs.length):(!xs.isEmpty) = !vs.isEmpty:=by
 cases vs<;>cases xs<;>first | rfl | cases h
theorem zfx {k:Bool}(g:Same F H)(h:OK W F H a)(e:truO (era a)=some k):TruV W.K (val a) H k:=by
 rcases zI e with e | e
 ·obtain⟨i,e1,e⟩:=za e
  cases e
  rw [yT h (kP e1)];rfl
 rcases zI e with e | e
 ·obtain⟨i,e1,e⟩:=za e
  cases e
  rw [zx h e1];rfl
 rcases zI e with e | e
 ·obtain⟨t,e1,e⟩:=za e
  cases e
  obtain⟨k1,k2⟩:=qo h (zS e1)
  rw [k1]
  have e1:(S t).length=t.length:=by simp [S,Str.length]
  refine⟨by rw [e1,sizeLine_eq];exact k2,?_⟩
  rw [e1]
  cases t<;>simp [bne]
  lia
 rcases zI e with e | e
 ·obtain⟨xs,e1,e⟩:=za e
  cases e
  obtain⟨p,vs,k1,k2,k3⟩:=V3 g h e1
  rw [k1]
  rcases k2 with k2 | k2
  ·exact .inl ⟨vs,k2,za2 k3.len⟩
  ·exact .inr (.inl ⟨vs,k2,za2 k3.len⟩)
 rcases zI e with e | e
 ·obtain⟨d,e1,e⟩:=za e
  cases e
  obtain⟨o,e1⟩:=Qp e1
  obtain⟨p,vs,o,k1,k2,⟨kvs,rfl,h3,_⟩,_⟩:=Zk g h e1
  rw [k1]
  refine .inr (.inr ⟨kvs,k2,?_⟩)
  rw [← h3]
  cases kvs<;>rfl
 ·obtain⟨_,e1,e⟩:=za e
  cases e
  have:=h.now g
  rw [J8 e1] at this
  rw [show val a=_ from this];rfl
def BiOk (W:Wd)(x:Str)(f:List T->Option T):Prop:=∀ (X:Cx) (e:Expr) (es:Lg) (t:TA) (p pos:Pos),X.K=W.K->X.calm=true->X.mg x=none->PA X (e::es) t->Gl X x ->
 starEach (e::es) X.env=(false,eval e X.env)::starEach es X.env->(backTo pos (starEach es X.env)).any (·.1)=false->PE X (.Call (.Name x p) (e::es) [] pos) (tCB (rN W f) t)
theorem qR {f:Value}{r r':List V->Hp->VK->Prop}(h:qF X f r)(k:∀ xs H Q,r' xs H Q->r xs H Q):qF X f r':=fun pins s σ H xs us Q I rx z=>h pins s σ H xs us Q I rx (k xs H Q z)
theorem rN1 {f:List T->Option T}{vs:List V}{Q:VK}(h:rN W f vs H Q)(k:∀ z,f []≠some z)(k2:∀ x y r z,f (x::y::r)≠some z):∃ F a Γ z,Same F H/\OK W F H a/\vs=[val a]/\f [era a]=some z/\St W F H Γ/\∀ F' H' w,St W F' H' (w::Γ)->era w=z->Q (val w) H':=by
 obtain⟨F,as,Γ,z,h1,h2,h3,h4,h5⟩:=h
 match as with
 | []=>exact absurd h3 (k z)
 | [a]=>exact⟨F,a,Γ,z,h4.fh,h1.1,h2.symm,h3,h4,h5⟩
 | x::y::r=>exact absurd h3 (k2 _ _ _ z)
theorem rN2 {f:List T->Option T}{vs:List V}{Q:VK}(h:rN W f vs H Q)(k:∀ xs z,f xs=some z->∃ x y,xs=[x,y]):∃ v u,vs=[v,u]/\r2 W f v u H Q:=by
 obtain⟨F,as,Γ,z,h1,h2,h3,h4,h5⟩:=h
 obtain⟨x,y,e⟩:=k _ z h3
 match as,e with
 | [a,b],_=>exact⟨_,_,h2.symm,F,[a,b],Γ,z,h1,rfl,h3,h4,h5⟩
theorem zfy:BiOk W "len" oLen:=fun X e es t p pos hK hc hm ha hg hs h=>wC (qR (Qe (Vc hK) Y6) fun xs H Q h=>by
 obtain⟨F,a,Γ,z,g,ha,rfl,e,st,q⟩:=rN1 h (fun _=>nofun) (fun _ _ _ _=>nofun)
 rcases zI e with e | e
 ·obtain⟨l,e1,e⟩:=za e
  cases e
  obtain⟨k1,k2⟩:=qo ha (zS e1)
  exact .inr ⟨l,by rw [k1],by rw [sizeLine_eq];exact k2,jo st q⟩
 ·obtain⟨xs,e1,e⟩:=za e
  cases e
  obtain⟨p,vs,k1,k2,k3⟩:=V3 g ha e1
  exact .inl ⟨p,vs,by rw [k1],k2,by rw [k3.len];exact jo st q⟩) hg hm ze0 ha (by decide) (by decide) hs h
theorem zcV:BiOk W "int" oInt:=fun X e es t p pos hK hc hm ha hg hs h=>xn (qR (Qe YY Kb) fun xs H Q h=>by
 obtain⟨F,a,Γ,z,g,ha,rfl,e,st,q⟩:=rN1 h (fun _=>nofun) (fun _ _ _ _=>nofun)
 rcases zI e with e | e
 ·obtain⟨l,e1,e⟩:=za e
  cases e
  exact .inl (.inl ⟨l,by rw [zx ha e1],jo st q⟩)
 rcases zI e with e | e
 ·obtain⟨l,e1,e⟩:=za e
  cases e
  exact .inl (.inr ⟨l,by rw [yT ha (kP e1)],by cases l<;>exact jo st q⟩)
 ·obtain⟨l,e1,e⟩:=za e
  obtain⟨i,e2,e⟩:=za e
  cases e
  match l,e1,e2 with
  | [c,d],e1,e2=>
   obtain⟨k,rfl⟩:=zW e2
   exact .inr ⟨c,d,by rw [(qo ha (zS e1)).1],k.1,k.2,jo st q⟩) hg hm zaB ha (by decide) (by decide) hs h
theorem zcW:BiOk W "str" oStr:=fun X e es t p pos hK hc hm ha hg hs h=>xn (qR Y9 fun xs H Q h=>by
 obtain⟨F,a,Γ,z,g,ha,rfl,e,st,q⟩:=rN1 h (fun _=>nofun) (fun _ _ _ _=>nofun)
 obtain⟨i,e1,e⟩:=za e
 obtain⟨k,rfl⟩:=zW e
 refine⟨i.toNat,by rw [zx ha e1,Int.toNat_of_nonneg k.1],by lia,yU st q ?_⟩
 have:∀ m∈List.range 100,(dg m).length<=16777216:=by decide +kernel
 exact this _ (Ux.mpr (by lia))) hg hm zaA ha (by decide) (by decide) hs h
theorem IsVs.signs {l:Lc}:IsVs W F (signs l) (l.map fun c=>.str (S [c]))/\shrs (signs l)=true:=by
 induction l with
 | nil=>exact⟨rfl,rfl⟩
 | cons c l ih=>exact⟨⟨_,_,rfl,⟨rfl,by simp⟩,ih.1⟩,ih.2⟩
theorem zcX:BiOk W "list" zdX:=fun X e es t p pos hK hc hm ha hg hs h=>xn (qR (Qe JS (Vh hc)) fun xs H Q h=>by
 obtain⟨F,a,Γ,z,g,ha,rfl,e,st,q⟩:=rN1 h (fun _=>nofun) (fun _ _ _ _=>nofun)
 rcases zI e with e | e
 ·obtain⟨l,e1,e⟩:=za e
  obtain⟨k,rfl⟩:=zW e
  have sg:=IsVs.signs (W:=W) (F:=F) (l:=l)
  exact .inr ⟨l,by rw [(qo ha (zS e1)).1],k,kQ st q sg.2 sg.1⟩
 ·obtain⟨xs,e1,e⟩:=za e
  cases e
  obtain⟨e1,s⟩:=xc e1
  obtain⟨p,vs,k1,k2,k3⟩:=V3 g ha e1
  exact .inl ⟨p,vs,by rw [k1],by rw [hK];exact k2,kQ st q s (k3.sh s)⟩) hg hm VT ha (by decide) (by decide) hs h
theorem za3:BiOk W "tuple" zaU:=fun X e es t p pos hK hc hm ha hg hs h=>xn (qR yb fun xs H Q h=>by
 obtain⟨F,a,Γ,z,g,ha,rfl,e,st,q⟩:=rN1 h (fun _=>nofun) (fun _ _ _ _=>nofun)
 rcases zI e with e | e
 ·obtain⟨xs,e1,e⟩:=za e
  cases e
  obtain⟨e1,s⟩:=xc e1
  obtain⟨p,vs,k1,k2,k3⟩:=wH g ha e1
  exact⟨p,vs,by rw [k1],.inl ⟨by rw [hK];exact k2,Vo st q s (k3.sh s)⟩⟩
 ·obtain⟨xs,e1,e⟩:=za e
  cases e
  obtain⟨e1,s⟩:=xc e1
  obtain⟨p,vs,k1,k2,k3⟩:=V4 g ha e1
  exact⟨p,vs,by rw [k1],.inr ⟨SqT.of (g _ _ k2),vn st q s ⟨p,vs,rfl,k2,k3.sh s⟩⟩⟩) hg hm Qa ha (by decide) (by decide) hs h
theorem V7:∀ {ts:List T} {vs:List V} {bs:List Bool},IsVs W H ts vs->blOs ts=some bs->vs=bs.map V.bl
 | [],_,_,h,e=>by cases e;exact h
 | t::ts,_,_,⟨v,r,e0,h1,h2⟩,e=>by
  obtain⟨x,xs,e1,e2,e⟩:=zy e
  cases e
  rw [kP e1] at h1
  rw [e0,V7 h2 e2,show v=_ from h1];rfl
theorem zfz:BiOk W "all" oAll:=fun X e es t p pos hK hc hm ha hg hs h=>wC (qR (Kl hc) fun xs H Q h=>by
 obtain⟨F,a,Γ,z,g,ha,rfl,e,st,q⟩:=rN1 h (fun _=>nofun) (fun _ _ _ _=>nofun)
 obtain⟨xs,e1,e⟩:=za e
 obtain⟨bs,e2,e⟩:=za e
 cases e
 obtain⟨p,vs,k1,k2,k3⟩:=Xc g ha e1
 rw [V7 k3.now e2] at k2
 exact⟨p,bs,by rw [k1],k2,fin_bl st q⟩) hg hm zff ha (by decide) (by decide) hs h
theorem Xd {f:Int->Int->Option T}:∀ (xs:List T) (z:T),int2 f xs=some z->∃ x y,xs=[x,y]
 | [],_,e=>by cases e
 | [_],_,e=>by cases e
 | [x,y],_,_=>⟨x,y,rfl⟩
 | _::_::_::_,_,e=>by cases e
theorem zfA:BiOk W "max" oMax:=fun X e es t p pos hK hc hm ha hg hs h=>wC (qR (YW hc) fun xs H Q h=>by
 obtain⟨v,u,rfl,h⟩:=rN2 h Xd
 obtain⟨F,a,b,Γ,z,g,ha,hb,rfl,rfl,e,st,q⟩:=xZ h
 obtain⟨i,j,e1,e2,e⟩:=J5 e ha hb
 cases e
 exact⟨i,j,by rw [e1,e2],jo st q⟩) hg hm ze1 ha (by decide) (by decide) hs h
theorem zfB:BiOk W "min" oMin:=fun X e es t p pos hK hc hm ha hg hs h=>wC (qR (YX hc) fun xs H Q h=>by
 obtain⟨v,u,rfl,h⟩:=rN2 h Xd
 obtain⟨F,a,b,Γ,z,g,ha,hb,rfl,rfl,e,st,q⟩:=xZ h
 obtain⟨i,j,e1,e2,e⟩:=J5 e ha hb
 cases e
 exact⟨i,j,by rw [e1,e2],jo st q⟩) hg hm ze2 ha (by decide) (by decide) hs h
theorem za4 {r r':V->Option Int->Option Int->Hp->VK->Prop}(h:SlR X r)(k:∀ x l u H Q,r' x l u H Q->r x l u H Q):SlR X r':=fun pins s σ H x v vl vu lo hi sl Q I rx hs pl pu z=>h pins s σ H x v vl vu lo hi sl Q I rx hs pl pu (k x lo hi H Q z)
noncomputable def rSl (W:Wd):V->Option Int->Option Int->Hp->VK->Prop:=fun x lo hi H Q=>rN W (fun ts=>match ts with
 | [t]=>slO t lo hi
 | _=>none) [x] H Q
theorem V8 (hK:X.K=W.K):SlR X (rSl W):=za4 (zaO sl_S (zaO (zaz hK) zcQ)) fun x lo hi H Q h=>by
 obtain⟨F,a,Γ,z,g,ha,rfl,e,st,q⟩:=Xb h
 rcases zI e with e | e
 ·obtain⟨l,e1,e⟩:=za e
  cases e
  obtain⟨k1,k2⟩:=qo ha (zS e1)
  exact .inl ⟨l,k1,by rw [sizeLine_eq];exact k2,yU st q (uN (by unfold cutN;rw [Uc,u6];lia) k2)⟩
 rcases zI e with e | e
 ·obtain⟨xs,e1,e⟩:=za e
  cases s:shrs xs<;>rw [s] at e<;>cases e
  obtain⟨p,vs,k1,k2,k3⟩:=wH g ha e1
  exact .inr (.inl ⟨p,vs,k1,k2,kQ st q (yV s Qn) ((k3.sh s).cut lo hi)⟩)
 ·obtain⟨xs,e1,e⟩:=za e
  cases s:shrs xs<;>rw [s] at e<;>cases e
  obtain⟨p,vs,k1,k2,k3⟩:=V4 g ha e1
  have h3:=(k3.sh s).cut lo hi
  refine .inr (.inr ⟨p,vs,k1,g _ _ k2,fun z=>?_,Vo st q (yV s Qn) h3⟩)
  rw [z] at h3
  exact vn st q (yV s Qn) ⟨p,vs,rfl,k2,h3⟩
noncomputable def rMe (W:Wd)(f:Lc->List T->Option T):V->List V->Hp->VK->Prop:=fun v vs H Q=>∃ l,v=.str (S l)/\l.length<=16777216/\rN W (f l) vs H Q
theorem vo {id:String}{r r':V->List V->Hp->VK->Prop}(h:MtR X id r)(k:∀ x xs H Q,r' x xs H Q->r x xs H Q):MtR X id r':=fun pins s σ H x xs v us Q I rx rs z=>h pins s σ H x xs v us Q I rx rs (k x xs H Q z)
theorem rMe1 {f:Lc->T->Option T}{v:V}{vs:List V}{Q:VK}(h:rMe W (fun l=>one1 (f l)) v vs H Q):∃ l F a Γ z,v=.str (S l)/\l.length<=16777216/\Same F H/\OK W F H a/\vs=[val a]/\f l (era a)=some z/\St W F H Γ/\∀ F' H' w,St W F' H' (w::Γ)->era w=z->Q (val w) H':=by
 obtain⟨l,h1,h2,h⟩:=h
 obtain⟨F,a,Γ,z,k1,k2,k3,k4,k5,k6⟩:=rN1 h (fun _=>nofun) (fun _ _ _ _=>nofun)
 exact⟨l,F,a,Γ,z,h1,h2,k1,k2,k3,k4,k5,k6⟩
noncomputable def meN:ME->Str
 | .join=>"join"
 | .index=>"index"
 | .startswith=>"startswith"
 | .zfill=>"zfill"
 | .split=>"split"
 | .find=>"find"
theorem Xe:∀ {ds:List T} {vs:List V} {ts:List (Lc)},IsVs W H ds vs->Jt ds=some ts->vs=ts.map fun l=>V.str (S l)
 | [],_,_,h,e=>by cases e;exact h
 | d::ds,_,_,⟨v,r,e0,h1,h2⟩,e=>by
  obtain⟨b,bs,e1,e2,e⟩:=zy e
  cases e
  rw [zS e1] at h1
  rw [e0,h1.1,Xe h2 e2];rfl
theorem Kt {l:Lc}{n:Nat}(h:undg l=some n):n<100/\dg n=l:=by
 unfold undg at h
 have h1:=List.find?_some h
 have h2:=List.mem_of_find?_eq_some h
 exact⟨Ux.mp h2,by simpa using h1⟩
theorem Vp {l y:Lc}(hy:y≠[]):∀ t∈splits l y,t.length<=l.length:=fun t ht=>by
 obtain⟨s,hs,rfl⟩:=Ur.mp ht
 have yp:0<(S y).length:=by
  rw [jf]
  cases y with
  | nil=>exact absurd rfl hy
  | cons _ _=>simp
 have h:=(Qd (S y) yp (Txt.split (S l) (S y))).2 s hs
 rw [StrLaws.join_split,jf] at h
 simpa [Str.length] using h
theorem zcY {ts:List (Lc)}(h:∀ t∈ts,t.length<=16777216):IsVs W F (ts.map .str) (ts.map fun t=>V.str (S t))/\shrs (ts.map .str)=true:=by
 induction ts with
 | nil=>exact⟨rfl,rfl⟩
 | cons t ts ih=>
  obtain⟨h1,h2⟩:=ih fun x hx=>h x (uk _ hx)
  exact⟨⟨_,_,rfl,⟨rfl,h t ui⟩,h1⟩,h2⟩
theorem zhu {o e:Expr}{es:Lg}{to:TE}{ta:TA}{apos cpos:Pos}(m:ME)(hK:X.K=W.K)(ho:PE X o to)(ha:PA X (e::es) ta)(hb:qH o=true)(hl:(apos.endLine == cpos.line)=true)(hs:noSt (e::es)=true)(hn:(e::es).length<30):PE X (.Call (.Attribute o (meN m) apos) (e::es) [] cpos) (tBM W.K "str" (rMe W (meF m)) to ta):=by
 obtain⟨s1,s2⟩:=zr hs
 cases m
 ·exact xH hK Ub PySem.F.slot_str_join PySem.F.type_str_join (vo (Kc hK) fun x xs H Q h=>by
   obtain⟨l,F,a,Γ,z,h1,h2,g,ha,rfl,e,st,q⟩:=rMe1 h
   obtain⟨ys,e1,e⟩:=za e
   obtain⟨ts,e2,e⟩:=za e
   obtain⟨⟨rfl,k⟩,rfl⟩:=zW e
   obtain⟨p,us,k1,k2,k3⟩:=Xc g ha e1
   rw [Xe k3.now e2] at k2
   exact⟨p,ts,h1,by rw [k1],SqL.of k2,k,yU st q k⟩) ho ha (zG hb) (wc hs hn) hl (ze s1) (zT s2)
 ·exact xH hK Ub PySem.F.slot_str_index PySem.F.type_str_index (fun pins s σ H x xs v us Q I rx rs h=>by
   obtain⟨l,F,a,Γ,z,rfl,h2,g,ha,rfl,e,st,q⟩:=rMe1 h
   obtain⟨y,e1,e⟩:=za e
   obtain⟨i,e2,e⟩:=za e
   cases e
   obtain⟨t,rfl⟩:=rx
   rw [(qo ha (zS e1)).1] at rs
   obtain⟨u,rfl,t',rfl⟩:=vals1 rs
   cases ho:occs l y with
   | nil=>rw [ho] at e2;cases e2
   | cons j r=>
    rw [ho] at e2
    cases e2
    exact SC.index ho ⟨.int (i:Int),H,I.tok _,⟨_,rfl⟩,jo st q⟩) ho ha (zG hb) (wc hs hn) hl (ze s1) (zT s2)
 ·exact xH hK Ub PySem.F.slot_str_startswith PySem.F.type_str_startswith (vo Qb fun x xs H Q h=>by
   obtain⟨l,F,a,Γ,z,h1,h2,g,ha,rfl,e,st,q⟩:=rMe1 h
   obtain⟨y,e1,e⟩:=za e
   cases e
   exact⟨l,y,h1,by rw [(qo ha (zS e1)).1],fin_bl st q⟩) ho ha (zG hb) (wc hs hn) hl (ze s1) (zT s2)
 ·exact xH hK Ub PySem.F.slot_str_zfill PySem.F.type_str_zfill (vo Ka fun x xs H Q h=>by
   obtain⟨l,F,a,Γ,z,h1,h2,g,ha,rfl,e,st,q⟩:=rMe1 h
   obtain⟨n,e1,e⟩:=za e
   split at e
   ·rename_i hn
    obtain⟨k,e2,e⟩:=za e
    cases e
    obtain⟨k1,k2⟩:=Kt e2
    refine⟨k,by rw [h1,k2],by rw [zx ha e1,hn],k1,yU st q ?_⟩
    have:∀ m∈List.range 100,(dg2 m).length<=16777216:=by decide +kernel
    exact this _ (Ux.mpr k1)
   ·cases e) ho ha (zG hb) (wc hs hn) hl (ze s1) (zT s2)
 ·exact xH hK Ub UJ PySem.F.type_str_split (vo Ko fun x xs H Q h=>by
   obtain⟨l,F,a,Γ,z,h1,h2,g,ha,rfl,e,st,q⟩:=rMe1 h
   obtain⟨y,e1,e⟩:=za e
   obtain⟨⟨hne,hl⟩,rfl⟩:=zW e
   obtain⟨t1,t2⟩:=zcY (W:=W) (F:=F) (ts:=splits l y) fun t ht=>uN (Vp hne t ht) (by lia)
   have ee:(splits l y).map (fun t=>V.str (S t))=(Txt.split (S l) (S y)).map V.str:=by
    unfold splits
    rw [Uz]
    exact u9 fun s _=>by show V.str (S s.cps.toList)=_;rw [S_of]
   rw [ee] at t1
   exact⟨l,y,h1,by rw [(qo ha (zS e1)).1],hne,hl,kQ st q t2 t1⟩) ho ha (zG hb) (wc hs hn) hl (ze s1) (zT s2)
 ·exact xH hK Ub PySem.F.slot_str_find PySem.F.type_str_find (vo zaN fun x xs H Q h=>by
   obtain⟨l,h1,h2,h⟩:=h
   obtain⟨v,u,rfl,h⟩:=rN2 h fun ts z e=>by
    match ts,e with
    | [x,y],_=>exact⟨x,y,rfl⟩
   obtain⟨F,a,b,Γ,z,g,ha,hb,rfl,rfl,e,st,q⟩:=xZ h
   obtain⟨y,i,e1,e2,e⟩:=zy e
   cases e
   exact⟨l,y,i,h1,by rw [(qo ha (zS e1)).1,zx hb e2],jo st q⟩) ho ha (zG hb) (wc hs hn) hl (ze s1) (zT s2)
noncomputable def tyN:TyK->String
 | .str=>"str"
 | .int=>"int"
 | .bool=>"bool"
 | .list=>"list"
 | .tuple=>"tuple"
 | .dict=>"dict"
theorem zhv {n:TyK}(h:IsV W H t v)(e:tyO t=some n):TyOf W.K H v (.type (tyN n)):=by
 cases t with
 | bl _=>cases e;rw [show v=_ from h];exact .bl _
 | int _=>cases e;rw [show v=_ from h];exact .int _
 | str _=>cases e;rw [h.1];exact .str _
 | tp _=>cases e;obtain⟨p,vs,e,h1,_⟩:=h;rw [e];exact .tup h1
 | nd o k xs=>
  obtain⟨p,vs,o,e0,h1,h2,_⟩:=h
  cases k with
  | ls=>cases e;cases h2;rw [e0];exact .lst h1
  | dc ks=>cases e;obtain⟨kvs,rfl,_⟩:=h2;rw [e0];exact .dK h1
  | ob _ _=>cases e
 | _=>cases e
theorem zfC {K:Le}{n k:TyK}:PySem.W.kitOne K (.type (tyN n)) (.type (tyN k))=some (k == n||(n == .bool&&k == .int)):=by cases n<;>cases k<;>rfl
theorem zfD {b:Bool}{ks:List TyK}(g:Same F H)(ha:OK W F H a)(e:isiO (era a) ks=some b):∃ t,TyOf W.K H (val a) t/\∃ f:TyK->Bool,(∀ k,PySem.W.kitOne W.K t (.type (tyN k))=some (f k))/\ks.any f=b:=by
 have hn:=ha.now g
 rcases zI e with e | e
 ·obtain⟨_,e1,e⟩:=za e
  cases e
  rw [J8 e1] at hn
  exact⟨.type "NoneType",by rw [show val a=_ from hn];exact .non,fun _=>false,fun k=>by cases k<;>rfl,by rw [List.any_eq_false];exact fun _ _=>nofun⟩
 ·obtain⟨k,e1,e⟩:=za e
  cases e
  exact⟨_,zhv hn e1,_,fun j=>zfC,rfl⟩
theorem V9 {K:Le}{t:Value}{f:TyK->Bool}(h:∀ k,PySem.W.kitOne K t (.type (tyN k))=some (f k)):∀ ks:List TyK,PySem.W.kitAny K t ((ks.map tyN).map Value.type)=some (ks.any f)
 | []=>by simp only [Uy,PySem.W.kitAny,List.any_nil]
 | k::ks=>by
  have h1:=h k
  rw [Um]
  cases e:f k with
  | true=>rw [e] at h1;simp only [ur,PySem.W.kitAny,h1,Bool.true_or]
  | false=>rw [e] at h1;simp only [ur,PySem.W.kitAny,h1,U0];exact V9 h ks
theorem za5 {ks:List TyK}{Q:VK}(h:rN W (oIsi ks) [v] H Q):∃ F a Γ b t f,Same F H/\val a=v/\TyOf W.K H v t/\(∀ k,PySem.W.kitOne W.K t (.type (tyN k))=some (f k))/\ks.any f=b/\St W F H Γ/\∀ F' H',St W F' H' Γ->Q (.bl b) H':=by
 obtain⟨F,a,Γ,z,g,ha,rfl,e,st,q⟩:=Xb h
 obtain⟨b,e1,e⟩:=za e
 cases e
 obtain⟨t,k1,f,k2,k3⟩:=zfD g ha e1
 exact⟨F,a,Γ,b,t,f,g,rfl,k1,k2,k3,st,fun F' H' st'=>q F' H' (.lf (.bl b) (.bl b)) (st'.leaf rfl rfl) rfl⟩
theorem zcZ {k:TyK}{Q:VK}(h:rN W (oIsi [k]) [v] H Q):rIsA W.K (tyN k) [v,.ty (tyN k)] H Q:=by
 obtain⟨F,a,Γ,b,t,f,g,rfl,k1,k2,k3,st,q⟩:=za5 h
 exact⟨_,t,b,rfl,k1,by rw [k2 k,← k3];simp,q F H st⟩
theorem zc0 {ks:List TyK}{Q:VK}(h:rN W (oIsi ks) [v] H Q):∀ p,H p=none->rIsT W.K (ks.map tyN) [v,.ref p] (upd H p (.tup ((ks.map tyN).map V.ty))) Q:=fun p hp=>by
 obtain⟨F,a,Γ,b,t,f,g,rfl,k1,k2,k3,st,q⟩:=za5 h
 exact⟨_,p,t,b,rfl,jz,TyOf.mono (xq hp) k1,by rw [V9 k2,k3],q F _ (st.alloc hp)⟩
structure IsCl (W:Wd)(x:Str)(c:Nat):Prop where
 m:W.mg x=some (.ref (W.cl c))
 cl:Cls W.K (W.cl c)
 ha:PySem.W.findIn W.K (.ref (W.cl c)) "__class__" = some (some (.builtin "object.__class__"))
 hn:PySem.W.specialIn W.K (.builtin "object.__class__") "__get__" = some (some (.builtin "getset_descriptor.__get__"))
 htk:PySem.W.takesIn W.K (.builtin "object.__class__")=some true
 hm:PySem.W.mroIn W.K (W.cl c) (.type "object")=some true
 kit:PySem.W.kitOne W.K (.ref (W.cl c)) (.ref (W.cl c))=some true
noncomputable def rIsC (K:Le)(C:Addr):List V->Hp->VK->Prop:=fun xs H Q=>∃ x,xs=[x,.ref C]/\TyOf K H x (.ref C)/\Q (.bl true) H
theorem za6 {x:Str}{c:Nat}(hK:X.K=W.K)(i:IsCl W x c):qF X (.builtin "isinstance") (rIsC W.K (W.cl c)):=by
 intro pins s σ H xs us Q I r h
 obtain⟨x,rfl,ty,q⟩:=h
 obtain⟨u1,u2,rfl,r1,r2⟩:=vals2 r
 obtain rfl:u2=Value.ref (W.cl c):=r2
 exact Je I r1 (by rw [hK];exact ty) (by rw [hK];exact i.kit) fun tk=>⟨.bl true,H,I.tok _,rfl,q⟩
theorem za7 {d:Nat×Lh×List T}(e:obO t=some d):∃ o,t=.nd o (.ob d.1 d.2.1) d.2.2:=by
 cases t with
 | nd o k ys=>cases k<;>cases e;exact⟨o,rfl⟩
 | _=>cases e
theorem zfE {x:Str}{c:Nat}{Q:VK}(i:IsCl W x c)(h:rN W (oIsc c) [v] H Q):rIsC W.K (W.cl c) [v,.ref (W.cl c)] H Q:=by
 obtain⟨F,a,Γ,z,g,ha,rfl,e,st,q⟩:=Xb h
 obtain⟨o,e1,e⟩:=za e
 obtain⟨rfl,rfl⟩:=zW e
 obtain⟨o',e1⟩:=za7 e1
 obtain⟨p,vs,ob,k1,k2,⟨dx,kvs,rfl,_,_⟩,_⟩:=Zk g ha e1
 exact⟨_,rfl,by rw [k1];exact .ins k2 i.cl i.ha i.hn i.htk i.hm,fin_bl st q⟩
noncomputable def DTr (W:Wd):List (Lc×T)->List (Key×V)->Prop
 | [],kvs=>kvs=[]
 | p::d,kvs=>∃ v r,kvs=(.inr (S p.1),v)::r/\(shr p.2=true/\∀ F:Hp,IsV W F p.2 v)/\DTr W d r
def KGet (W:Wd)(x:Str)(d:List (Lc×T)):Prop:=∃ a kvs,W.mg x=some (.ref a)/\VU W.w W.K a kvs/\DTr W d kvs
theorem Yb {l:Lc}{w:T}{z:V}(hs:shr w=true)(hw:IsV W F w z):∀ {d:List (Lc×T)} {kvs:List (Key×V)},DTr W d kvs->shr (kgO d l w)=true/\IsV W F (kgO d l w) ((valV kvs (.inr (S l))).getD z)
 | [],kvs,h=>by rw [show kvs=[] from h];exact⟨hs,hw⟩
 | p::d,kvs,⟨v,r,e,⟨h0,h1⟩,h2⟩=>by
  subst e
  simp only [kgO]
  split
  ·rename_i z
   rw [vi (by rw [z])]
   exact⟨h0,h1 F⟩
  ·rename_i z
   rw [xr (fun y=>z (zdV (Sum.inr.inj y)))]
   exact Yb hs hw h2
theorem zc1 {d:List (Lc×T)}{kvs:List (Key×V)}{vs:List V}{Q:VK}(hd:DTr W d kvs)(h:rN W (zdY d) vs H Q):∃ k z,vs=[kV k,z]/\Q ((valV kvs k).getD z) H:=by
 obtain⟨v,u,rfl,h⟩:=rN2 h fun ts z e=>by
  match ts,e with
  | [x,y],_=>exact⟨x,y,rfl⟩
 obtain⟨F,a,b,Γ,z,g,ha,hb,rfl,rfl,e,st,q⟩:=xZ h
 obtain⟨l,e1,e⟩:=za e
 cases s:shr (era b)<;>rw [s] at e<;>cases e
 obtain⟨k1,k2⟩:=Yb (F:=F) (l:=l) s (hb.leaf s).2 hd
 exact⟨.inr (S l),val b,by rw [(qo ha (zS e1)).1];rfl,vn st q k1 k2⟩
theorem zl {e:Expr}{t t':TE}(h:PE X e t)(k:∀ σ H Q,t' σ H Q->t σ H Q):PE X e t':=fun pins s σ H Q I z=>h pins s σ H Q I (k σ H Q z)
theorem ZN {e:Expr}{t t':TT}(h:PT X e t)(k:∀ σ H Q,t' σ H Q->t σ H Q):PT X e t':=fun pins s σ H Q I z=>h pins s σ H Q I (k σ H Q z)
theorem Yc {e:Expr}{t t':TT}(h:PW X e t)(k:∀ σ H Q,t' σ H Q->t σ H Q):PW X e t':=fun wh pins s σ H Q I z=>h wh pins s σ H Q I (k σ H Q z)
theorem Yd {es:Lg}{t t':TA}(h:PA X es t)(k:∀ σ H Q,t' σ H Q->t σ H Q):PA X es t':=fun pos pins s σ H Q I z=>h pos pins s σ H Q I (k σ H Q z)
end L5
namespace L5
open PySem L2 PySem.Spec PyProof.Rows
variable {W:Wd} {E:XS} {F H:Hp} {s τ:Sl} {σ:L2.St} {vs:List V} {γ:List AT} {K:KP} {X4:XP} {Q:VK}
def IsX (W:Wd)(F:Hp)(x:Exn)(c:Value)(d:Option Addr):Prop:=c=.ref (W.cl x.c)/\∃ dd kvs,d=some dd/\F dd=some (.xd kvs)/\kvs.map (·.1)=x.fs/\shrs x.ts=true/\IsVs W F x.ts (kvs.map (·.2))
def XK (W:Wd)(E:XS)(σ:L2.St)(vs:List V)(γ:List AT)(X4:XP):Prop:=∀ x F' H' s' τ' ws c d,Rep W F' H' s' τ' σ (ws++vs) γ->IsX W F' x c d->X4 x s' τ'->E c d σ H'
theorem XK.app (h:XK W E σ vs γ X4)(us:List V):XK W E σ (us++vs) γ X4:=fun x F' H' s' τ' ws c d R=>h x F' H' s' τ' (ws++us) c d (by rw [uc];exact R)
noncomputable def E5 (W:Wd)(E:XS)(c:Xp):TE:=fun σ H Q=>∃ F s τ vs γ K X4,Rep W F H s τ σ vs γ/\WE c s τ K X4/\(∀ F' H' s' x τ' v,Rep W F' H' s' (x::τ') σ (v::vs) γ->K s' (x::τ')->Q v H')/\XK W E σ vs γ X4
noncomputable def T5 (W:Wd)(E:XS)(c:Xp):TT:=fun σ H Q=>∃ F s τ vs γ K X4,Rep W F H s τ σ vs γ/\WT c s τ K X4/\(∀ b F' H' s' τ',Rep W F' H' s' τ' σ vs γ->K b s' τ'->Q b H')/\XK W E σ vs γ X4
noncomputable def A5 (W:Wd)(E:XS)(cs:List Xp):TA:=fun σ H Q=>∃ F s τ vs γ K X4,Rep W F H s τ σ vs γ/\WEs cs s τ K X4/\(∀ F' H' s' τ' us,us.length=cs.length->Rep W F' H' s' τ' σ (us.reverse++vs) γ->K s' τ'->Q us H')/\XK W E σ vs γ X4
theorem ji {c:Xp}{Q Q':VK}(h:E5 W E c σ H Q)(k:∀ v H,Q v H->Q' v H):E5 W E c σ H Q':=by
 obtain⟨F,s,τ,vs,γ,K,X4,R,h,q,x⟩:=h
 exact⟨F,s,τ,vs,γ,K,X4,R,h,fun F' H' s' y τ' v R' h'=>k v H' (q F' H' s' y τ' v R' h'),x⟩
theorem zfF {cs:List Xp}{Q Q':List V->Hp->Prop}(h:A5 W E cs σ H Q)(k:∀ v H,Q v H->Q' v H):A5 W E cs σ H Q':=by
 obtain⟨F,s,τ,vs,γ,K,X4,R,h,q,x⟩:=h
 exact⟨F,s,τ,vs,γ,K,X4,R,h,fun F' H' s' τ' us hl R' h'=>k us H' (q F' H' s' τ' us hl R' h'),x⟩
theorem kR {Q:List V->Hp->Prop}(h:A5 W E [] σ H Q):tNil σ H Q:=by
 obtain⟨F,s,τ,vs,γ,K,X4,R,h,q,x⟩:=h
 exact q F H s τ [] rfl R h
theorem zc2 {c:Xp}{cs:List Xp}{Q:List V->Hp->Prop}(h:A5 W E (c::cs) σ H Q):zdM (E5 W E c) (A5 W E cs) σ H Q:=by
 obtain⟨F,s,τ,vs,γ,K,X4,R,h,q,x⟩:=h
 refine⟨F,s,τ,vs,γ,_,X4,R,h,fun F' H' s' y τ' v R' h'=>?_,x⟩
 refine⟨F',s',y::τ',v::vs,γ,K,X4,R',h',fun F2 H2 s2 τ2 us hl R2 h2=>?_,x.app [v]⟩
 exact q F2 H2 s2 τ2 (v::us) (congrArg (· + 1) hl) (by rw [Ul,uc];exact R2) h2
theorem yr {c:Xp}{Q:List V->Hp->Prop}(h:A5 W E [c] σ H Q):E5 W E c σ H fun x H1=>Q [x] H1:=by
 obtain⟨F,s,τ,vs,γ,K,X4,R,h,q,x⟩:=h
 exact⟨F,s,τ,vs,γ,_,X4,R,h,fun F' H' s' y τ' v R' h'=>q F' H' s' _ [v] rfl R' h',x⟩
theorem Qq {c d:Xp}{Q:List V->Hp->Prop}(h:A5 W E [c,d] σ H Q):E5 W E c σ H fun x H1=>E5 W E d σ H1 fun y H2=>Q [x,y] H2:=by
 obtain⟨F,s,τ,vs,γ,K,X4,R,h,q,x⟩:=h
 refine⟨F,s,τ,vs,γ,_,X4,R,h,fun F' H' s' y τ' v R' h'=>?_,x⟩
 exact⟨F',s',y::τ',v::vs,γ,_,X4,R',h',fun F2 H2 s2 y2 τ2 u R2 h2=>q F2 H2 s2 _ [v,u] rfl R2 h2,x.app [v]⟩
theorem yX {c:Xp}{Q Q':List V->Hp->Prop}(h:A5 W E [c] σ H Q)(k:∀ v H,Q [v] H->Q' [v] H):A5 W E [c] σ H Q':=by
 obtain⟨F,s,τ,vs,γ,K,X4,R,h,q,x⟩:=h
 refine⟨F,s,τ,vs,γ,K,X4,R,h,fun F' H' s' τ' us hl R' h'=>?_,x⟩
 match us,hl with
 | [v],hl=>exact k v H' (q F' H' s' τ' [v] hl R' h')
theorem Ye {c d:Xp}{Q Q':List V->Hp->Prop}(h:A5 W E [c,d] σ H Q)(k:∀ v u H,Q [v,u] H->Q' [v,u] H):A5 W E [c,d] σ H Q':=by
 obtain⟨F,s,τ,vs,γ,K,X4,R,h,q,x⟩:=h
 refine⟨F,s,τ,vs,γ,K,X4,R,h,fun F' H' s' τ' us hl R' h'=>?_,x⟩
 match us,hl with
 | [v,u],hl=>exact k v u H' (q F' H' s' τ' [v,u] hl R' h')
theorem vp {n:Nat}{τ':Sl}{us ws:List V}{ts:List T}(R:Rep W F H s τ σ (us.reverse++ws) γ)(e:popT s n τ []=some (ts,τ'))(hl:us.length=n):∃ cs,ts=eras cs/\vals cs=us/\OKs W F H cs/\Rep W F H s τ' σ ws γ:=by
 obtain⟨cs,ws',h1,h2,h3,h4,h5⟩:=R.popT e
 obtain⟨e1,e2⟩:=gQ h3 (by simp [hl,h2])
 rw [List.reverse_inj] at e1
 exact⟨cs,by rw [h1,uw],e1.symm,h4,by rw [e2];exact h5⟩
theorem vR {n:Nat}{τ':Sl}{us ws:List V}{ts:List T}(R:Rep W F H s τ σ (us.reverse++ws) γ)(e:popO n τ []=some (ts,τ'))(hl:us.length=n):∃ cs,ts=eras cs/\vals cs=us/\Rep W F H s τ' σ ws (cs++γ):=by
 obtain⟨cs,ws',h1,h2,h3,h5⟩:=R.popO e
 obtain⟨e1,e2⟩:=gQ h3 (by simp [hl,h2])
 rw [List.reverse_inj] at e1
 exact⟨cs,by rw [h1,uw],e1.symm,by rw [e2];exact h5⟩
theorem Yg {f:List T->Option T}{cs:List AT}{z:T}(hc:OKs W F H cs)(e:f (eras cs)=some z)(R:Rep W F H s τ σ vs γ)(q:∀ F' H' v,Rep W F' H' s (.own z::τ) σ (v::vs) γ->Q v H'):rN W f (vals cs) H Q:=by
 obtain⟨Γ,st,back⟩:=R.all
 refine⟨F,cs,γ++Γ,z,hc,rfl,e,st,fun F' H' w st' ew=>?_⟩
 have:=(back (γ':=w::γ) st').push
 rw [ew] at this
 exact q F' H' _ this
theorem zhw {o:Op}{es:List Xp}(h:E5 W E (.ap o es) σ H Q):A5 W E es σ H fun us H'=>rN W (opF o) us H' Q:=by
 obtain⟨F,s,τ,vs,γ,K,X4,R,h,q,x⟩:=h
 refine⟨F,s,τ,vs,γ,_,X4,R,h,fun F' H' s' τ' us hl R' h'=>?_,x⟩
 obtain⟨ts,τ2,e1,h'⟩:=zj h'
 obtain⟨z,e2,h2⟩:=zo h'
 obtain⟨cs,rfl,rfl,hc,R2⟩:=vp R' e1 hl
 exact Yg hc e2 R2 fun F2 H2 v R3=>q F2 H2 s' _ _ v R3 h2
theorem e5_v {i:Nat}(h:E5 W E (.v i) σ H Q):tVar i σ H Q:=by
 obtain⟨F,s,τ,vs,γ,K,X4,R,h,q,x⟩:=h
 obtain⟨z,e,h⟩:=zo h
 obtain⟨v,k1,k2⟩:=R.rd e
 exact⟨v,k1,q F H s _ _ v k2 h⟩
theorem za8 {t:T}{v:V}{c:Xp}(hc:∀ s τ K X,WE c s τ K X->K s (.own t::τ))(hs:shr t=true)(hv:∀ F:Hp,IsV W F t v)(h:E5 W E c σ H Q):tC v σ H Q:=by
 obtain⟨F,s,τ,vs,γ,K,X4,R,h,q,x⟩:=h
 exact q F H s _ _ v (R.leaf hs (hv F)) (hc s τ K X4 h)
theorem za9 {i:Nat}{s s' τ τ':Sl}{x:Slot}{as bs:List AT}{a:AT}{o:Option V}{vs:List V}(h1:Ms as s σ as)(h2:Ms as τ (vs.map some) bs)(hx:M1 as x o a)(hi:i<as.length)(e:Zg s τ i x=some (s',τ')):Ms (as.set i a) s' (σ.set i o) (as.set i a)/\Ms (as.set i a) τ' (vs.map some) bs:=by
 obtain⟨x',k0,e⟩:=za e
 obtain⟨s1,k1,e⟩:=za e
 obtain⟨s2,k2,e⟩:=za e
 obtain⟨τ1,k3,e⟩:=za e
 cases e
 have pp:∀ j q u,(j=i->q.length<0)->getS j q as=some u->∃ u',getS j q (as.set i a)=some u'/\val u' = val u:=fun j q u hl hu=>by
  have ij:i≠j:=fun z=>absurd (hl z.symm) (gR _)
  exact⟨u,by unfold getS at hu ⊢;rw [Uk ij];exact hu,rfl⟩
 obtain⟨_,rfl⟩:=yR k2
 have mx:M1 (as.set i a) x' o a:=by
  cases x with
  | no=>cases k0;exact hx
  | own t=>cases k0;exact hx
  | al j q=>
   simp only [jN] at k0
   cases c:(j == i&&Nat.ble 0 q.length) with
   | true=>rw [c] at k0;cases k0;exact hx.1
   | false=>
    rw [c] at k0;cases k0
    obtain⟨hn,u,hu,ho⟩:=hx
    obtain⟨u',g1,g2⟩:=pp j q u (fun z=>by subst z;rw [uQ,UN,gj (uF _)] at c;cases c) hu
    exact⟨hn,u',g1,by rw [g2];exact ho⟩
 exact⟨(h1.kill pp k1).set mx,h2.kill pp k3⟩
theorem j6 {as δ:List AT}{i:Nat}{a b:AT}(h:as[i]? = some b):(b::(as.set i a++δ)).Perm (a::(as++δ)):=by
 have:=yS (y:=a) h
 have p1:(b::(as.set i a)).Perm (a::as):=(uz (l₁:=[b])).trans (this.trans uz)
 exact p1.append_right δ
theorem Rep.setTop {i:Nat}{x:Slot}{v:V}{s' τ':Sl}(R:Rep W F H s (x::τ) σ (v::vs) γ)(e:Zg s τ i x=some (s',τ')):Rep W F H s' τ' (σ.set i (some v)) vs γ:=by
 obtain⟨as,bs,R⟩:=R
 obtain⟨b,bs',rfl,m,st,R'⟩:=R.uncons
 have hi:i<as.length:=by
  rw [R'.ls.len.2]
  obtain⟨_,_,e⟩:=za e
  obtain⟨s1,k1,e⟩:=za e
  obtain⟨s2,k2,e⟩:=za e
  obtain⟨h,_⟩:=yR k2
  have:∀ {s s1:Sl},mapO (jN i 0) s=some s1->s1.length=s.length:=fun {s s1} h=>by
   induction s generalizing s1 with
   | nil=>cases h;rfl
   | cons y s ih=>
    obtain⟨z,zs,_,h2,h⟩:=zy h
    cases h
    exact congrArg (· + 1) (ih h2)
  rw [← this k1];exact h
 obtain⟨m1,m2⟩:=za9 R'.ls R'.ts m hi e
 refine⟨as.set i b,bs',?_,m1,m2⟩
 have:=st.perm (j6 (a:=b) (δ:=bs'++γ) (um hi)).symm
 exact this.tail
theorem Rep.mv {i:Nat}{s' τ':Sl}(R:Rep W F H s τ σ vs γ)(e:mvS s τ i=some (s',τ')):∃ v x τ'',τ' = x::τ''/\σ[i]? = some (some v)/\Rep W F H s' τ' σ (v::vs) γ:=by
 obtain⟨y,e1,e⟩:=za e
 obtain⟨t,e2,e⟩:=za e
 obtain⟨r,e3,e⟩:=za e
 cases e
 cases y with
 | no=>cases e2
 | al _ _=>cases e2
 | own t'=>
  cases e2
  obtain⟨as,bs,R⟩:=R
  obtain⟨o,a,g1,g2,g3,g4⟩:=R.ls.get e1
  subst g4
  obtain⟨m1,m2⟩:=za9 (o:=some (val a)) (x:=.no) (a:=nilA) R.ls R.ts rfl (xX g2) e3
  rw [Qj g1] at m1
  refine⟨val a,_,_,rfl,g1,as.set i nilA,a::bs,?_,m1,_,_,_,_,rfl,rfl,⟨g3,rfl⟩,m2⟩
  have:=R.st.nil.perm (j6 g2).symm
  exact this.perm xt
theorem e5_m {i:Nat}(h:E5 W E (.m i) σ H Q):tVar i σ H Q:=by
 obtain⟨F,s,τ,vs,γ,K,X4,R,h,q,x⟩:=h
 obtain⟨s',τ',e,h⟩:=zj h
 obtain⟨v,y,τ'',rfl,k1,k2⟩:=R.mv e
 exact⟨v,k1,q F H s' _ _ v k2 h⟩
theorem qu {α:Type}{a b:α}{l:List α}:(a::b::l).Perm (b::a::l):=List.Perm.swap b a l
theorem St.outS {i:Nat}{p:Lc}{as δ:List AT}{u:AT}(st:St W F H (as++δ))(e:getS i p as=some u):St W F H (u::(setS i p as (hole u)++δ)):=by
 obtain⟨a,e1,e2,e3⟩:=ja e
 rw [e3]
 have h1:(a::(as.set i (setA p a (hole u))++δ)).Perm (setA p a (hole u)::(as++δ)):=j6 e1
 have h2:(a::(as.set i nilA++δ)).Perm (nilA::(as++δ)):=j6 e1
 have st1:=(st.nil.perm h2.symm).out e2
 have h3:(nilA::(as.set i (setA p a (hole u))++δ)).Perm (setA p a (hole u)::(as.set i nilA++δ)):=by
  have:=j6 (as:=as.set i nilA) (a:=setA p a (hole u)) (b:=nilA) (δ:=δ) (i:=i) (by rw [uO (xX e1)])
  rw [gI] at this
  exact this
 exact(st1.perm ((h3.symm.cons u).trans qu)).tail
theorem St.inS {i:Nat}{p:Lc}{as δ:List AT}{u w:AT}(st:St W F H (w::(as++δ)))(e:getS i p as=some u)(hu:ads u=[])(hv:val w=val u):St W F H (setS i p as w++δ):=by
 obtain⟨a,e1,e2,e3⟩:=ja e
 rw [e3]
 have h2:(a::(as.set i nilA++δ)).Perm (nilA::(as++δ)):=j6 e1
 have st1:St W F H (w::a::(as.set i nilA++δ)):=by
  have:=(st.nil.perm (qu.trans (h2.symm.cons w)))
  exact this
 have st2:=st1.into e2 hu hv
 have h3:(nilA::(as.set i (setA p a w)++δ)).Perm (setA p a w::(as.set i nilA++δ)):=by
  have:=j6 (as:=as.set i nilA) (a:=setA p a w) (b:=nilA) (δ:=δ) (i:=i) (by rw [uO (xX e1)])
  rw [gI] at this
  exact this
 exact(st2.perm h3.symm).tail
theorem vq {i:Nat}{p:Lc}{as:List AT}{u w:AT}(e:getS i p as=some u):getS i p (setS i p as w)=some w/\∀ z,setS i p (setS i p as w) z=setS i p as z:=by
 obtain⟨a,e1,e2,e3⟩:=ja e
 have e4:(as.set i (setA p a w))[i]? = some (setA p a w):=by rw [uO (xX e1)]
 rw [e3]
 refine⟨by unfold getS;rw [e4];exact get_set e2,fun z=>?_⟩
 rw [e3]
 unfold setS
 rw [e4]
 show(as.set i (setA p a w)).set i (setA p (setA p a w) z)=_
 rw [gI,set_set e2]
theorem Rp.place {i:Nat}{p:Lc}{v:V}{t:T}{as bs:List AT}(R:Rp W F H s (.al i p::τ) σ (v::vs) γ as bs)(e:getP s i p=some t):∃ u bs',bs=nilA::bs'/\getS i p as=some u/\era u=t/\val u=v/\St W F H (u::(setS i p as (hole u)++(bs'++γ))) /\
  ∀ {F' H' γ' w s' τ'},St W F' H' (w::(setS i p as (hole u)++(bs'++γ')))->val w=v->putSt s τ i p (era w)=some (s',τ')->Rep W F' H' s' τ' σ vs γ':=by
 obtain⟨b,bs',rfl,m,st,R'⟩:=R.uncons
 obtain⟨rfl,u,hu,hv⟩:=m
 cases hv
 obtain⟨a,e1,e2,e3⟩:=ja hu
 have et:era u=t:=by
  obtain⟨y,k1,e⟩:=za e
  obtain⟨r,k2,e⟩:=za e
  cases y with
  | no=>cases k2
  | al _ _=>cases k2
  | own r'=>
   cases k2
   obtain⟨o,a',g1,g2,g3,g4⟩:=R'.ls.get k1
   rw [e1] at g2;cases g2
   subst g3
   have e:getT p (era a)=some t:=e
   rw [ZL e2] at e;cases e;rfl
 refine⟨u,bs',rfl,hu,et,rfl,R'.st.outS hu,fun {F' H' γ' w s' τ'} st' hw ep=>?_⟩
 obtain⟨g1,g2⟩:=vq (w:=hole u) hu
 have:=st'.inS g1 rfl hw
 rw [g2] at this
 obtain⟨m1,m2⟩:=kN R'.ls R'.ts hu hw ep
 exact⟨_,bs',this,m1,m2⟩
end L5
namespace L5
open PySem L2 PySem.Spec PyProof.Rows
variable {W:Wd} {E:XS} {F H:Hp} {s τ:Sl} {σ:L2.St} {vs:List V} {γ:List AT} {K:KP} {X4:XP} {Q:VK}
theorem Rep.frz {x:Slot}{v:V}{s' τ':Sl}(R:Rep W F H s (x::τ) σ (v::vs) γ)(e:frzS s (x::τ)=some (s',τ')):∃ F' y τ'',τ' = y::τ''/\Rep W F' H s' τ' σ (v::vs) γ:=by
 cases x with
 | no=>cases e
 | own t=>
  cases c:shr t with
  | true=>simp only [frzS,c] at e;cases e;exact⟨F,_,_,rfl,R⟩
  | false=>
   simp only [frzS,c] at e;cases e
   obtain⟨as,bs,R⟩:=R
   obtain⟨b,bs',rfl,m,st,R'⟩:=R.uncons
   cases m.2
   obtain⟨F',g,st'⟩:=st.frz
   rw [m.1] at st'
   have R2:Rp W F' H s τ σ vs γ as bs':=⟨st'.tail,R'.ls,R'.ts⟩
   exact⟨F',_,_,rfl,as,_,R2.cons st' ⟨rfl,rfl⟩⟩
 | al i p=>
  obtain⟨t,e1,e⟩:=za e
  obtain⟨q,e2,e⟩:=za e
  cases e
  obtain⟨as,bs,R⟩:=R
  obtain⟨u,bs',rfl,hu,et,ev,st,back⟩:=R.place e1
  obtain⟨F',g,st'⟩:=st.frz
  rw [et,ev] at st'
  have R2:=back (w:=.lf (L5.frz t) v) st' rfl e2
  exact⟨F',_,_,rfl,R2.leaf (yQ t) st'.ok.1.2⟩
theorem zhx {c:Xp}(h:E5 W E (.fz c) σ H Q):E5 W E c σ H Q:=by
 obtain⟨F,s,τ,vs,γ,K,X4,R,h,q,x⟩:=h
 refine⟨F,s,τ,vs,γ,_,X4,R,h,fun F' H' s' y τ' v R' h'=>?_,x⟩
 obtain⟨s2,τ2,e,h2⟩:=zj h'
 obtain⟨F2,y2,τ3,rfl,R2⟩:=R'.frz e
 exact q F2 H' s2 y2 τ3 v R2 h2
theorem Rep.node {k:Kd}{o:HO}{cs:List AT}{p:Addr}(R:Rep W F H s τ σ vs (cs++γ))(hp:H p=none)(ob:ObK W k (vals cs) o):Rep W F (upd H p o) s (.own (.nd true k (eras cs))::τ) σ (.ref p::vs) γ:=by
 obtain⟨Γ,st,back⟩:=R.all
 rw [uc] at st
 exact(back (γ':=.nd p k cs::γ) (st.node hp ob)).push
theorem Rep.tuple {cs:List AT}{p:Addr}(R:Rep W F H s τ σ vs (cs++γ))(hp:H p=none):Rep W (upd F p (.tup (vals cs))) (upd H p (.tup (vals cs))) s (.own (.tp (eras cs))::τ) σ (.ref p::vs) γ:=by
 obtain⟨Γ,st,back⟩:=R.all
 rw [uc] at st
 exact(back (γ':=.tp p cs::γ) (st.tuple hp)).push
theorem zfG {es:List Xp}(hl:es.length<=16777216)(h:E5 W E (.lst es) σ H Q):tLst (A5 W E es) σ H Q:=by
 obtain⟨F,s,τ,vs,γ,K,X4,R,h,q,x⟩:=h
 refine⟨F,s,τ,vs,γ,_,X4,R,h,fun F' H' s' τ' us hn R' h'=>⟨by rw [hn,sizeLine_eq];exact hl,fun p hp=>?_⟩,x⟩
 obtain⟨ts,τ2,e,h2⟩:=zj h'
 obtain⟨cs,rfl,rfl,R2⟩:=vR R' e hn
 exact q _ _ s' _ _ _ (R2.node (k:=.ls) hp rfl) h2
theorem zfH {es:List Xp}(hl:es.length<=16777216)(h:E5 W E (.tup es) σ H Q):tTup (A5 W E es) σ H Q:=by
 obtain⟨F,s,τ,vs,γ,K,X4,R,h,q,x⟩:=h
 refine⟨F,s,τ,vs,γ,_,X4,R,h,fun F' H' s' τ' us hn R' h'=>⟨by rw [hn,sizeLine_eq];exact hl,fun p hp=>?_⟩,x⟩
 obtain⟨ts,τ2,e,h2⟩:=zj h'
 obtain⟨cs,rfl,rfl,R2⟩:=vR R' e hn
 exact q _ _ s' _ _ _ (R2.tuple hp) h2
theorem zfI (h:E5 W E .dct σ H Q):tD0 σ H Q:=by
 obtain⟨F,s,τ,vs,γ,K,X4,R,h,q,x⟩:=h
 exact fun p hp=>q _ _ s _ _ _ (Rep.node (k:=.dc []) (cs:=[]) R hp ⟨[],rfl,rfl,rfl⟩) h
theorem Rep.opened {t:T}{v:V}(R:Rep W F H s (.own t::τ) σ (v::vs) γ):∃ b,era b=t/\val b=v/\OK W F H b/\Rep W F H s τ σ vs (b::γ):=by
 obtain⟨as,bs,R⟩:=R
 obtain⟨b,bs',rfl,m,st,R'⟩:=R.uncons
 cases m.2
 exact⟨b,m.1,rfl,st.ok.1,as,bs',st.perm (by rw [← uc,← uc];exact uB.symm),R'.ls,R'.ts⟩
theorem zfJ {c:Xp}(h:E5 W E (.tpl c) σ H Q):E5 W E c σ H fun v H1=>∃ p ys,v=.ref p/\SqL W.K H1 p ys/\∀ l,H1 l=none->Q (.ref l) (upd H1 l (.tup ys)):=by
 obtain⟨F,s,τ,vs,γ,K,X4,R,h,q,x⟩:=h
 refine⟨F,s,τ,vs,γ,_,X4,R,h,fun F' H' s' y τ' v R' h'=>?_,x⟩
 obtain⟨t,τ2,e,h3⟩:=zj h'
 obtain⟨ts,e2,h2⟩:=zo h3
 clear h3
 cases y<;>cases e
 obtain⟨b,rfl,rfl,hb,R2⟩:=R'.opened
 have g:=R2.fh
 cases b with
 | tp p ys=>cases e2
 | nd p k ys=>
  cases k<;>cases e2
  obtain⟨⟨o,h1,rfl⟩,h3⟩:=hb
  obtain⟨Γ,st,back⟩:=R2.all
  have R3:Rep W F' H' s' τ' σ vs (ys++γ):=back (by rw [uc];exact St.open st)
  exact⟨p,vals ys,rfl,SqL.of h1,fun l hl=>q _ _ s' _ _ _ (Rep.tuple (cs:=ys) R3 hl) h2⟩
 | lf t v=>
  obtain⟨p,us,k1,k2,k3⟩:=wH g hb e2
  refine⟨p,us,k1,k2,fun l hl=>?_⟩
  have sh:shrs ts=true:=by
   have e2:lsO t=some ts:=e2
   unfold lsO at e2
   split at e2
   ·cases e2
    obtain⟨hs,_,_,_,_,_,_,h4,_⟩:=hb
    exact h4 (by simpa [shr] using hs)
   ·cases e2
    obtain⟨_,_,_,_,_,h4,_⟩:=hb
    exact h4
   ·cases e2
  obtain⟨Γ,st,back⟩:=R2.all
  obtain⟨k4,k5,k6⟩:=(St.tail (a:=.lf t v) (γ:=γ++Γ) st).leaves (k3.sh sh) sh
  have:=Rep.tuple (cs:=leaves ts us) (back (γ':=leaves ts us++γ) (by rw [uc];exact k4)) hl
  rw [k5,k6] at this
  exact q _ _ s' _ _ _ this h2
def zba (W:Wd)(H:Hp)(t:T)(p:Addr)(vs:List V):Prop:=
 match t with
 | .nd _ .ls _=>SqL W.K H p vs
 | .nd _ (.dc ks) _=>∃ kvs,H p=some (.dK kvs)/\kvs.map (·.1)=ks/\kvs.map (·.2)=vs
 | .nd _ (.ob c fs) _=>∃ dx kvs,H p=some (.ins (W.cl c) dx kvs)/\kvs.map (·.1)=fs/\kvs.map (·.2)=vs
 | .tp _=>SqT W.K H p vs
 | .ks l _=>if l=true then SqL W.K H p vs else SqT W.K H p vs
 | _=>False
theorem Yh {o:Bool}{k:Kd}{xs:List T}{p:Addr}{us:List V}{ob:HO}(h:H p=some ob)(hk:ObK W k us ob):zba W H (.nd o k xs) p us:=by
 cases k with
 | ls=>cases hk;exact SqL.of h
 | dc ks=>obtain⟨kvs,rfl,h1,h2⟩:=hk;exact⟨kvs,h,h1,h2⟩
 | ob c fs=>obtain⟨dx,kvs,rfl,h1,h2⟩:=hk;exact⟨dx,kvs,h,h1,h2⟩
theorem Qr {b:AT}{xs:List T}(g:Same F H)(h:OK W F H b)(e:parts (era b)=some xs):∃ p us,val b=.ref p/\zba W H (era b) p us/\Sq W F H xs us/\((shrs xs=true)\/∃ ys,kidA b=some ys/\eras ys=xs/\vals ys=us):=by
 cases b with
 | tp p ys=>cases e;exact⟨p,_,rfl,SqT.of (g _ _ h.1),Xa g h.2,.inr ⟨ys,rfl,rfl,rfl⟩⟩
 | nd p k ys=>
  cases e
  obtain⟨⟨ob,h1,h2⟩,h3⟩:=h
  exact⟨p,_,rfl,Yh h1 h2,Xa g h3,.inr ⟨ys,rfl,rfl,rfl⟩⟩
 | lf t v=>
  cases t with
  | tp ys=>cases e;obtain⟨hs,p,us,h1,h2,h3⟩:=h;exact⟨p,us,h1,SqT.of (g _ _ h2),Zi g h3,.inl hs⟩
  | nd o k ys=>
   cases e
   obtain⟨hs,p,us,ob,h1,h2,h3,h4,h5⟩:=h
   exact⟨p,us,h1,Yh (g _ _ h2) h3,Zi g h5,.inl (h4 (by simpa [shr] using hs))⟩
  | ks l ys=>
   cases e
   obtain⟨hs,p,us,h1,h2,h4,h5⟩:=h
   refine⟨p,us,h1,?_,Zi g h5,.inl h4⟩
   cases l
   ·exact Qg g h2
   ·exact Qf g h2
  | _=>cases e
theorem kS {n:Nat}{c:AT}{ys:List AT}:∀ {p:Lc} {a u:AT},getA p a=some u->kidA u=some ys->ys[n]? = some c->getA (p++[n]) a=some c
 | [],_,_,h,e1,e2=>by cases h;simp only [UE,getA,e1,uJ,e2]
 | j::p,a,u,h,e1,e2=>by
  obtain⟨xs,x,k1,k2,k3,_⟩:=qd h
  simp only [List.cons_append,getA,k1,uJ,k2]
  exact kS k3 e1 e2
theorem Rep.part {x z:Slot}{v:V}{J:T->Option Nat}(R:Rep W F H s (x::τ) σ (v::vs) γ)(e:ye s x J=some z):∃ t p us n w,v=.ref p/\J t=some n/\zba W H t p us/\us[n]? = some w/\(∃ xs,parts t=some xs/\us.length=xs.length)/\Rep W F H s (z::τ) σ (w::vs) γ:=by
 cases x with
 | no=>cases e
 | own t=>
  obtain⟨n,e1,e⟩:=za e
  obtain⟨xs,e2,e⟩:=za e
  obtain⟨u,e3,e⟩:=za e
  cases e
  obtain⟨b,rfl,rfl,hb,R2⟩:=R.opened
  obtain⟨p,us,k1,k2,k3,k4⟩:=Qr R2.fh hb e2
  rcases k4 with k4 | ⟨ys,k4,rfl,rfl⟩
  ·obtain⟨w,g1,g2⟩:=(k3.sh k4).get e3
   exact⟨_,p,us,n,w,k1,e1,k2,g1,⟨xs,e2,k3.len⟩,R.pop.leaf (zK.mp k4 u (uH e3)) g2⟩
  ·rw [zk,uv] at e3
   obtain⟨c,e4,rfl⟩:=uu.mp e3
   refine⟨_,p,_,n,val c,k1,e1,k2,by rw [uv,e4];rfl,⟨_,e2,k3.len⟩,Rep.push ?_⟩
   obtain⟨Γ,st,back⟩:=R2.all
   have st2:St W F H (ys++(γ++Γ)):=by
    cases b with
    | lf _ _=>cases k4
    | tp _ _=>cases k4;exact St.openT st
    | nd _ _ _=>cases k4;exact St.open st
   refine back (γ':=c::γ) ?_
   exact((st2.nil.perm (j6 e4).symm).perm (uB.symm:(c::(ys.set n nilA++(γ++Γ))).Perm (ys.set n nilA++c::(γ++Γ)))).right
 | al i q=>
  obtain⟨t,e0,ea⟩:=za e
  obtain⟨n,e1,eb⟩:=za ea
  obtain⟨xs,e2,ec⟩:=za eb
  obtain⟨u,e3,ez⟩:=za ec
  clear e ea eb ec
  obtain⟨as,bs,Rp⟩:=R
  obtain⟨b,bs',rfl,m,st,R'⟩:=Rp.uncons
  obtain⟨rfl,u0,hu,hv⟩:=m
  cases hv
  obtain⟨a',f1,f2,f3,f5,f6,f7,_⟩:=Rp.place e0
  rw [hu] at f3;cases f3
  subst f5
  have hb:OK W F H u0:=by
   obtain⟨a,g1,g2,_⟩:=ja hu
   exact kM (zw.mp R'.st.left a (uH g1)) g2
  obtain⟨p,us,k1,k2,k3,k4⟩:=Qr R'.st.fh hb e2
  have R0:Rep W F H s τ σ vs γ:=⟨as,bs',R'⟩
  cases c:shr u with
  | true=>
   rw [c] at ez;cases ez
   obtain⟨w,g1,g2⟩:=k3.now.get e3
   refine⟨_,p,us,n,w,k1,e1,k2,g1,⟨xs,e2,k3.len⟩,R0.leaf c ?_⟩
   rcases k4 with k4 | ⟨ys,k4,rfl,rfl⟩
   ·obtain⟨w',g3,g4⟩:=(k3.sh k4).get e3
    rw [g1] at g3;cases g3
    exact g4
   ·rw [zk,uv] at e3
    obtain⟨ch,e4,rfl⟩:=uu.mp e3
    rw [uv,e4] at g1
    cases g1
    have:OK W F H ch:=kM (p:=[n]) hb (by simp only [getA,k4,uJ,e4])
    exact(this.leaf c).2
  | false=>
   rw [c] at ez;cases ez
   rcases k4 with k4 | ⟨ys,k4,rfl,rfl⟩
   ·rw [zK.mp k4 u (uH e3)] at c;cases c
   ·rw [zk,uv] at e3
    obtain⟨ch,e4,rfl⟩:=uu.mp e3
    refine⟨_,p,_,n,val ch,k1,e1,k2,by rw [uv,e4];rfl,⟨_,e2,k3.len⟩,as,_,R'.cons R'.st.nil ⟨rfl,ch,?_,rfl⟩⟩
    obtain⟨a,g1,g2,_⟩:=ja hu
    unfold getS
    rw [g1]
    exact kS g2 k4 e4
end L5
namespace L5
open PySem L2 PySem.Spec PyProof.Rows
variable {W:Wd} {E:XS} {F H:Hp} {s τ:Sl} {σ:L2.St} {vs:List V} {γ:List AT} {K:KP} {X4:XP} {Q:VK}
theorem Rep.bl {b:Bool}(R:Rep W F H s τ σ vs γ):Rep W F H s (.own (.bl b)::τ) σ (.bl b::vs) γ:=R.leaf (t:=.bl b) rfl rfl
theorem Rep.str1 {c:Nat}(R:Rep W F H s τ σ vs γ):Rep W F H s (.own (.str [c])::τ) σ (.str (S [c])::vs) γ:=R.leaf (t:=.str [c]) rfl ⟨rfl,by simp⟩
noncomputable def ixR (K:Le):R2:=fun x y H Q=>rIxL K x y H Q\/rIxT K x y H Q\/zdO x y H Q\/rIxD x y H Q
theorem zfK {X:Cx}{K:Le}(hK:X.K=K)(hu:X.A.units+64<cLine):IxR X (ixR K):=Vj (zay hK) (Vj (zcD hK) (Vj ix_S (zcR (by lia))))
theorem J9 {us:List V}{xs:List T}{n:Nat}{i:Int}{w:V}(hl:us.length=xs.length)(e:ixN xs.length i=some n)(k:us[n]? = some w):atI us i=some w:=by
 unfold atI
 rw [hl,e];exact k
theorem Yi {kvs:List (Key×V)}{k:Key}{n:Nat}{w:V}(h:(kvs.map (·.1)).findIdx? (fun k'=>decide (k' = k))=some n)(e:(kvs.map (·.2))[n]? = some w):valV kvs k=some w:=by
 induction kvs generalizing n with
 | nil=>cases h
 | cons a l ih=>
  rw [ur,Ue] at h
  cases c:decide (a.1=k) with
  | true=>
   rw [c] at h;cases h;cases e
   exact vi (uK c)
  | false=>
   rw [c] at h
   obtain⟨m,h1,rfl⟩:=uu.mp h
   rw [xr (uW c)]
   exact ih h1 e
theorem zbb {kvs:List (Str×V)}{f:Str}{n:Nat}{w:V}(h:(kvs.map (·.1)).findIdx? (fun k'=>decide (k' = f))=some n)(e:(kvs.map (·.2))[n]? = some w):kvs.lookup f=some w:=by
 induction kvs generalizing n with
 | nil=>cases h
 | cons a l ih=>
  rw [ur,Ue] at h
  cases c:decide (a.1=f) with
  | true=>
   rw [c] at h;cases h;cases e
   rw [uP,← uK c,uQ]
  | false=>
   rw [c] at h
   obtain⟨m,h1,rfl⟩:=uu.mp h
   rw [uP,uZ.mpr (fun z=>uW c z.symm)]
   exact ih h1 e
theorem zhy {a k:Xp}(h:E5 W E (.ix a k) σ H Q):tOp (ixR W.K) (E5 W E a) (E5 W E k) σ H Q:=by
 obtain⟨F,s,τ,vs,γ,K,X4,R,h,q,x⟩:=h
 refine⟨F,s,τ,vs,γ,_,X4,R,h,fun F1 H1 s1 y1 τ1 v1 R1 h1=>?_,x⟩
 refine⟨F1,s1,y1::τ1,v1::vs,γ,_,X4,R1,h1,fun F2 H2 s2 y τ2 u R2 h2=>?_,x.app [v1]⟩
 obtain⟨τ3,e,h3⟩:=zo h2
 cases τ2 with
 | nil=>cases e
 | cons y0 τ2=>
  obtain⟨tk,e1,e⟩:=za e
  obtain⟨as,bs,Rk⟩:=id R2
  obtain⟨bk,k1,k2,k3⟩:=Rk.res e1
  subst k3
  have R3:=R2.pop
  rcases zI e with e | e
  ·obtain⟨t,i,e2,e3,e⟩:=zy e
   obtain⟨l,e4,e⟩:=za e
   obtain⟨c,e5,e⟩:=za e
   cases e
   cases y0<;>cases e2
   obtain⟨b,rfl,rfl,hb,R4⟩:=R3.opened
   obtain⟨g1,g2⟩:=qo hb (zS e4)
   exact .inr (.inr (.inl ⟨l,i,c,g1,zx k1 (by rw [k2];exact e3),by rw [sizeLine_eq];exact g2,e5,q F2 H2 s2 _ _ _ R3.pop.str1 h3⟩))
  ·obtain⟨z,e2,e⟩:=za e
   cases e
   obtain⟨t,p,us,n,w,g1,g2,g3,g4,⟨xs,g5,g6⟩,R4⟩:=R3.part e2
   have fin:=q F2 H2 s2 _ _ _ R4 h3
   unfold ixJ at g2
   split at g2
   ·cases g5
    obtain⟨i,g7,g8⟩:=za g2
    exact .inl ⟨p,us,i,w,g1,zx k1 (by rw [k2];exact g7),g3,J9 g6 g8 g4,fin⟩
   ·cases g5
    obtain⟨i,g7,g8⟩:=za g2
    exact .inr (.inl ⟨p,us,i,w,g1,zx k1 (by rw [k2];exact g7),g3,J9 g6 g8 g4,fin⟩)
   ·rename_i l xs'
    cases g5
    obtain⟨i,g7,g8⟩:=za g2
    cases l
    ·exact .inr (.inl ⟨p,us,i,w,g1,zx k1 (by rw [k2];exact g7),g3,J9 g6 g8 g4,fin⟩)
    ·exact .inl ⟨p,us,i,w,g1,zx k1 (by rw [k2];exact g7),g3,J9 g6 g8 g4,fin⟩
   ·obtain⟨key,g7,g8⟩:=za g2
    obtain⟨kvs,c1,rfl,rfl⟩:=g3
    have hk:=J4 k1 (by rw [k2];exact g7)
    refine .inr (.inr (.inr ⟨p,w,g1,?_,fin⟩))
    rw [hk,← Yi g8 g4]
    exact DGet.k c1
   ·cases g2
theorem zhz {a:Xp}{c:Nat}{f:Str}(hc:Cls W.K (W.cl c))(hn:qM W.K (W.cl c) f)(h:E5 W E (.at a c f) σ H Q):tFld W.K (E5 W E a) f σ H Q:=by
 obtain⟨F,s,τ,vs,γ,K,X4,R,h,q,x⟩:=h
 refine⟨F,s,τ,vs,γ,_,X4,R,h,fun F1 H1 s1 y τ1 v1 R1 h1=>?_,x⟩
 obtain⟨τ3,e,h3⟩:=zo h1
 obtain⟨z,e2,e⟩:=za e
 cases e
 obtain⟨t,p,us,n,w,g1,g2,g3,g4,_,R4⟩:=R1.part e2
 unfold fldJ at g2
 split at g2
 ·rename_i c' fs xs _
  cases cc:c' == c with
  | false=>rw [cc] at g2;cases g2
  | true=>
   rw [cc] at g2
   obtain⟨dx,kvs,c1,rfl,rfl⟩:=g3
   have:c' = c:=eq_of_beq cc
   subst this
   exact⟨p,_,dx,kvs,w,g1,c1,hc,hn,zbb g2 g4,q F1 H1 s1 _ _ _ R4 h3⟩
 ·cases g2
theorem jC {b:Bool}{p q:Prop}(h:brn b p q):(b=true/\p)\/(b=false/\q):=by
 cases b with
 | true=>exact .inl ⟨rfl,h⟩
 | false=>exact .inr ⟨rfl,h⟩
theorem zhA {m:ME}{o:Xp}{es:List Xp}(h:E5 W E (.me m o es) σ H Q):tBM W.K "str" (rMe W (meF m)) (E5 W E o) (A5 W E es) σ H Q:=by
 obtain⟨F,s,τ,vs,γ,K,X4,R,h,q,x⟩:=h
 refine⟨F,s,τ,vs,γ,_,X4,R,h,fun F1 H1 s1 y τ1 v1 R1 h1=>?_,x⟩
 rcases jC h1 with⟨c,h1⟩ | ⟨_,z⟩
 ·refine⟨?_,F1,s1,y::τ1,v1::vs,γ,_,X4,R1,h1,fun F2 H2 s2 τ2 us hl R2 h2=>?_,x.app [v1]⟩
  ·match y,c with
   | .own (.str l),_=>
    obtain⟨b,e,rfl,hb,_⟩:=R1.opened
    rw [(qo hb e).1]
    exact rfl
  ·obtain⟨ts,τ3,e1,h2⟩:=zj h2
   obtain⟨l,τ4,e2,h2⟩:=zj h2
   obtain⟨z,e3,h3⟩:=zo h2
   obtain⟨cs,rfl,rfl,hc,R3⟩:=vp R2 e1 hl
   match τ3,e2 with
   | .own (.str _)::_,e2=>
    cases e2
    obtain⟨b,e,rfl,hb,_⟩:=R3.opened
    obtain⟨g1,g2⟩:=qo hb e
    exact⟨l,g1,g2,Yg hc e3 R3.pop fun F4 H4 v R4=>q F4 H4 s2 _ _ v R4 h3⟩
 ·exact z.elim
theorem zfL {a:Xp}(h:E5 W E (.not a) σ H Q):zdH (E5 W E a) σ H Q:=by
 obtain⟨F,s,τ,vs,γ,K,X4,R,h,q,x⟩:=h
 refine⟨F,s,τ,vs,γ,_,X4,R,h,fun F1 H1 s1 y τ1 v1 R1 h1=>?_,x⟩
 obtain⟨b,τ2,e,h2⟩:=zj h1
 match y,e with
 | .own (.bl _),e=>
  cases e
  obtain⟨b',e,rfl,hb,_⟩:=R1.opened
  exact⟨b,yT hb e,q F1 H1 s1 _ _ _ R1.pop.bl h2⟩
noncomputable def B5 (W:Wd)(E:XS)(k:Bool)(es:List Xp):TE:=fun σ H Q=>∃ F s τ vs γ K X4,Rep W F H s τ σ vs γ/\WB k es s τ K X4/\(∀ F' H' s' x τ' v,Rep W F' H' s' (x::τ') σ (v::vs) γ->K s' (x::τ')->Q v H')/\XK W E σ vs γ X4
theorem zfM {e e2:Xp}{es:List Xp}(h:B5 W E true (e::e2::es) σ H Q):zdG (E5 W E e) (B5 W E true (e2::es)) σ H Q:=by
 obtain⟨F,s,τ,vs,γ,K,X4,R,h,q,x⟩:=h
 refine⟨F,s,τ,vs,γ,_,X4,R,h,fun F1 H1 s1 y τ1 v1 R1 h1=>?_,x⟩
 obtain⟨b,τ2,e,h2⟩:=zj h1
 match y,e with
 | .own (.bl _),e=>
  cases e
  obtain⟨b',e,rfl,hb,_⟩:=R1.opened
  refine⟨b,yT hb e,?_⟩
  rcases jC h2 with⟨rfl,h3⟩ | ⟨rfl,h3⟩
  ·exact⟨F1,s1,τ1,vs,γ,K,X4,R1.pop,h3,q,x⟩
  ·exact q F1 H1 s1 _ _ _ R1.pop.bl h3
theorem zhB {e e2:Xp}{es:List Xp}(h:B5 W E false (e::e2::es) σ H Q):tOrV (E5 W E e) (B5 W E false (e2::es)) σ H Q:=by
 obtain⟨F,s,τ,vs,γ,K,X4,R,h,q,x⟩:=h
 refine⟨F,s,τ,vs,γ,_,X4,R,h,fun F1 H1 s1 y τ1 v1 R1 h1=>?_,x⟩
 obtain⟨b,τ2,e,h2⟩:=zj h1
 match y,e with
 | .own (.bl _),e=>
  cases e
  obtain⟨b',e,rfl,hb,_⟩:=R1.opened
  refine⟨b,yT hb e,?_⟩
  rcases jC h2 with⟨rfl,h3⟩ | ⟨rfl,h3⟩
  ·exact q F1 H1 s1 _ _ _ R1.pop.bl h3
  ·exact⟨F1,s1,τ1,vs,γ,K,X4,R1.pop,h3,q,x⟩
section
variable {Q:Bool->Hp->Prop}
theorem t5_t {a:Xp}(h:T5 W E (.t a) σ H Q):zdT W.K (E5 W E a) σ H Q:=by
 obtain⟨F,s,τ,vs,γ,K,X4,R,h,q,x⟩:=h
 refine⟨F,s,τ,vs,γ,_,X4,R,h,fun F1 H1 s1 y τ1 v1 R1 h1=>?_,x⟩
 obtain⟨ts,τ2,e,h2⟩:=zj h1
 obtain⟨b,e2,h3⟩:=zo h2
 obtain⟨cs,rfl,g1,g2,g3⟩:=vp (us:=[v1]) (ws:=vs) R1 e rfl
 match cs,g1,g2,e2 with
 | [c],g1,g2,e2=>
  cases g1
  exact⟨b,zfx g3.fh g2.1 e2,q b F1 H1 s1 _ g3 h3⟩
theorem zhC {a:Xp}(h:T5 W E (.tn a) σ H Q):tNot (T5 W E a) σ H Q:=by
 obtain⟨F,s,τ,vs,γ,K,X4,R,h,q,x⟩:=h
 exact⟨F,s,τ,vs,γ,_,X4,R,h,fun b F1 H1 s1 τ1 R1 h1=>q (!b) F1 H1 s1 τ1 R1 h1,x⟩
noncomputable def TB5 (W:Wd)(E:XS)(k:Bool)(es:List Xp):TT:=fun σ H Q=>∃ F s τ vs γ K X4,Rep W F H s τ σ vs γ/\WTb k es s τ K X4/\(∀ b F' H' s' τ',Rep W F' H' s' τ' σ vs γ->K b s' τ'->Q b H')/\XK W E σ vs γ X4
theorem zfN {e e2:Xp}{es:List Xp}(h:TB5 W E true (e::e2::es) σ H Q):tAnd (T5 W E e) (TB5 W E true (e2::es)) σ H Q:=by
 obtain⟨F,s,τ,vs,γ,K,X4,R,h,q,x⟩:=h
 refine⟨F,s,τ,vs,γ,_,X4,R,h,fun b F1 H1 s1 τ1 R1 h1=>?_,x⟩
 rcases jC h1 with⟨rfl,h3⟩ | ⟨rfl,h3⟩
 ·exact⟨F1,s1,τ1,vs,γ,K,X4,R1,h3,q,x⟩
 ·exact q false F1 H1 s1 _ R1 h3
theorem zhD {e e2:Xp}{es:List Xp}(h:TB5 W E false (e::e2::es) σ H Q):tOr (T5 W E e) (TB5 W E false (e2::es)) σ H Q:=by
 obtain⟨F,s,τ,vs,γ,K,X4,R,h,q,x⟩:=h
 refine⟨F,s,τ,vs,γ,_,X4,R,h,fun b F1 H1 s1 τ1 R1 h1=>?_,x⟩
 rcases jC h1 with⟨rfl,h3⟩ | ⟨rfl,h3⟩
 ·exact q true F1 H1 s1 _ R1 h3
 ·exact⟨F1,s1,τ1,vs,γ,K,X4,R1,h3,q,x⟩
theorem Yj {f:List T->Option T}{cs:List AT}{z:T}{b:Bool}(hc:OKs W F H cs)(e:f (eras cs)=some z)(e2:blO z=some b)(R:Rep W F H s τ σ vs γ){Q:VK}(q:∀ F' H',Rep W F' H' s τ σ vs γ->Q (.bl b) H'):rN W f (vals cs) H Q:=Yg hc e R fun F' H' v R'=>by
 obtain⟨b',e',rfl,hb,_⟩:=R'.opened
 rw [yT hb (by rw [e',kP e2])]
 exact q F' H' R'.pop
theorem zhE {o:Op}{es:List Xp}(h:T5 W E (.ap o es) σ H Q):A5 W E es σ H fun us H'=>rN W (opF o) us H' fun x H1=>∃ k,x=.bl k/\Q k H1:=by
 obtain⟨F,s,τ,vs,γ,K,X4,R,h,q,x⟩:=h
 refine⟨F,s,τ,vs,γ,_,X4,R,h,fun F' H' s' τ' us hl R' h'=>?_,x⟩
 obtain⟨ts,τ2,e1,h'⟩:=zj h'
 obtain⟨z,e2,h2⟩:=zo h'
 obtain⟨b,e3,h3⟩:=zo h2
 obtain⟨cs,rfl,rfl,hc,R2⟩:=vp R' e1 hl
 exact Yj hc e2 e3 R2 fun F2 H2 R3=>⟨b,rfl,q b F2 H2 s' _ R3 h3⟩
end
theorem yY {x y:Slot}{v u:V}{ts:List T}{τ':Sl}(R:Rep W F H s (y::x::τ) σ (u::v::vs) γ)(e:popT s 2 (y::x::τ) []=some (ts,τ')):∃ a b,ts=[era a,era b]/\val a=v/\val b=u/\OKs W F H [a,b]/\τ' = τ:=by
 have e2:τ' = τ:=by
  obtain⟨t,_,e⟩:=za e
  obtain⟨t',_,e⟩:=za e
  cases e;rfl
 obtain⟨cs,rfl,g1,g2,g3⟩:=vp (us:=[v,u]) (ws:=vs) R e rfl
 match cs,g1,g2 with
 | [a,b],g1,g2=>cases g1;exact⟨a,b,rfl,rfl,rfl,g2,e2⟩
theorem zfO {o1 o2:Op}{a b c:Xp}(h:E5 W E (.chn o1 o2 a b c) σ H Q):kD (r2 W (opF o1)) (r2 W (opF o2)) (E5 W E a) (E5 W E b) (E5 W E c) σ H Q:=by
 obtain⟨F,s,τ,vs,γ,K,X4,R,h,q,x⟩:=h
 refine⟨F,s,τ,vs,γ,_,X4,R,h,fun F1 H1 s1 y1 τ1 v1 R1 h1=>?_,x⟩
 refine⟨F1,s1,y1::τ1,v1::vs,γ,_,X4,R1,h1,fun F2 H2 s2 y2 τ2 v2 R2 h2=>?_,x.app [v1]⟩
 obtain⟨ts,τ3,e1,h2'⟩:=zj h2
 obtain⟨z,e2,h2''⟩:=zo h2'
 obtain⟨k,e3,h2'''⟩:=zo h2''
 clear h2 h2' h2''
 have h2:=h2'''
 clear h2'''
 cases τ2 with
 | nil=>obtain⟨_,_,e⟩:=za e1;cases e
 | cons y0 τ2=>
  obtain⟨A,B,rfl,rfl,rfl,hc,rfl⟩:=yY R2 e1
  refine Yj (cs:=[A,B]) hc e2 e3 R2 fun F3 H3 R3=>⟨k,rfl,?_⟩
  rcases jC h2 with⟨rfl,h2⟩ | ⟨rfl,h2⟩
  ·rw [uA rfl]
   refine⟨F3,s2,_,_,γ,_,X4,R3,h2,fun F4 H4 s4 y4 τ4 v4 R4 h4=>?_,x.app [_,_]⟩
   obtain⟨ts,τ5,e4,h4'⟩:=zj h4
   obtain⟨z,e5,h4''⟩:=zo h4'
   obtain⟨_,τ6,e6,h5⟩:=zj h4''
   clear h4 h4' h4''
   cases τ4 with
   | nil=>obtain⟨_,_,e⟩:=za e4;cases e
   | cons y5 τ4=>
    obtain⟨A',B',rfl,g1,g2,hc',rfl⟩:=yY R4 e4
    have R5:=R4.pop.pop
    cases τ5 with
    | nil=>cases e6
    | cons y6 τ5=>
     cases e6
     have:=Yg (f:=opF o2) hc' e5 R5.pop fun F6 H6 v6 R6=>q F6 H6 s4 _ _ v6 R6 h5
     rw [show vals [A',B']=[val B,v4] by simp [vals,g1,g2]] at this
     exact this
  ·rw [uq (by decide)]
   exact q F3 H3 s2 _ _ _ R3.pop.pop.bl h2
theorem zfP {o1 o2:Op}{a b c:Xp}{Q:Bool->Hp->Prop}(h:T5 W E (.chn o1 o2 a b c) σ H Q):VM (kD (r2 W (opF o1)) (r2 W (opF o2)) (E5 W E a) (E5 W E b) (E5 W E c)) σ H Q:=by
 obtain⟨F,s,τ,vs,γ,K,X4,R,h,q,x⟩:=h
 refine⟨F,s,τ,vs,γ,_,X4,R,h,fun F1 H1 s1 y1 τ1 v1 R1 h1=>?_,x⟩
 refine⟨F1,s1,y1::τ1,v1::vs,γ,_,X4,R1,h1,fun F2 H2 s2 y2 τ2 v2 R2 h2=>?_,x.app [v1]⟩
 obtain⟨ts,τ3,e1,h2'⟩:=zj h2
 obtain⟨z,e2,h2''⟩:=zo h2'
 obtain⟨k,e3,h2'''⟩:=zo h2''
 clear h2 h2' h2''
 have h2:=h2'''
 clear h2'''
 cases τ2 with
 | nil=>obtain⟨_,_,e⟩:=za e1;cases e
 | cons y0 τ2=>
  obtain⟨A,B,rfl,rfl,rfl,hc,rfl⟩:=yY R2 e1
  refine Yj (cs:=[A,B]) hc e2 e3 R2 fun F3 H3 R3=>⟨k,rfl,?_⟩
  rcases jC h2 with⟨rfl,h2⟩ | ⟨rfl,h2⟩
  ·rw [uA rfl]
   refine⟨F3,s2,_,_,γ,_,X4,R3,h2,fun F4 H4 s4 y4 τ4 v4 R4 h4=>?_,x.app [_,_]⟩
   obtain⟨ts,τ5,e4,h4'⟩:=zj h4
   obtain⟨z,e5,h4''⟩:=zo h4'
   obtain⟨_,τ6,e6,h4'''⟩:=zj h4''
   obtain⟨b,e7,h5⟩:=zo h4'''
   clear h4 h4' h4'' h4'''
   cases τ4 with
   | nil=>obtain⟨_,_,e⟩:=za e4;cases e
   | cons y5 τ4=>
    obtain⟨A',B',rfl,g1,g2,hc',rfl⟩:=yY R4 e4
    have R5:=R4.pop.pop
    cases τ5 with
    | nil=>cases e6
    | cons y6 τ5=>
     cases e6
     have:=Yj (f:=opF o2) (Q:=fun x H1=>∃ k,x=.bl k/\Q k H1) hc' e5 e7 R5.pop fun F6 H6 R6=>⟨b,rfl,q b F6 H6 s4 _ R6 h5⟩
     rw [show vals [A',B']=[val B,v4] by simp [vals,g1,g2]] at this
     exact this
  ·rw [uq (by decide)]
   exact⟨false,rfl,q false F3 H3 s2 _ R3.pop.pop h2⟩
theorem zfQ {t a b:Xp}(h:E5 W E (.ife t a b) σ H Q):tIf (T5 W E t) (E5 W E a) (E5 W E b) σ H Q:=by
 obtain⟨F,s,τ,vs,γ,K,X4,R,h,q,x⟩:=h
 refine⟨F,s,τ,vs,γ,_,X4,R,h,fun c F1 H1 s1 τ1 R1 h1=>?_,x⟩
 rcases jC h1 with⟨rfl,h1⟩ | ⟨rfl,h1⟩
 ·exact⟨F1,s1,τ1,vs,γ,K,X4,R1,h1,q,x⟩
 ·exact⟨F1,s1,τ1,vs,γ,K,X4,R1,h1,q,x⟩
noncomputable def muR:MU->V->List V->Hp->VK->Prop
 | .append=>VP
 | .extend=>VQ
 | .pop=>rPop
 | .popI=>zan
 | .clear=>zap
 | .insert=>fun _ _ _ _=>False
theorem Jw {α:Type}:∀ {xs:List α} {j:Nat} {r:α×List α},Vm xs j=some r->xs[j]? = some r.1/\r.2=xs.eraseIdx j
 | [],_,_,h=>by cases h
 | _::xs,0,_,h=>by cases h;exact⟨rfl,rfl⟩
 | x::xs,j+1,r,h=>by
  obtain⟨r',e,h⟩:=za h
  cases h
  obtain⟨h1,h2⟩:=Jw e
  exact⟨h1,by rw [h2];rfl⟩
theorem yt {α:Type}:∀ {l:List α} {j:Nat} {x:α},l[j]? = some x->l.Perm (l.eraseIdx j++[x])
 | [],_,_,h=>by cases h
 | z::l,0,x,h=>by cases h;exact(uz (l₁:=[z]))
 | z::l,j+1,x,h=>(yt (l:=l) (j:=j) h).cons z
theorem Vq {α β:Type}(f:α->β):∀ (l:List α) (j:Nat),(l.eraseIdx j).map f=(l.map f).eraseIdx j
 | [],_=>rfl
 | _::_,0=>rfl
 | x::l,j+1=>congrArg (f x::·) (Vq f l j)
theorem zhF {m:MU}{p:Addr}{xs cs Γ:List AT}{ys:List T}{r:T}(st:St W F H (.nd p .ls xs::(cs++Γ)))(e:muF m (eras xs) (eras cs)=some (ys,r))(q:∀ F' H' us w,St W F' H' (.nd p .ls us::w::Γ)->eras us=ys->era w=r->Q (val w) H'):muR m (.ref p) (vals cs) H Q:=by
 obtain⟨⟨o,h1,rfl⟩,h2⟩:=st.ok.1
 have el:(vals xs).length=(eras xs).length:=by rw [zk,ug,ug]
 have one:∀ {t:T},arg1 (eras cs)=some t->∃ c,cs=[c]/\era c=t:=fun {t} h=>by
  match cs,h with
  | [c],h=>exact⟨c,rfl,uG h⟩
 have zero:∀ {u:Unit},arg0 (eras cs)=some u->cs=[]:=fun {u} h=>by
  match cs,h with
  | [],_=>rfl
 have non:∀ {F' H' us},St W F' H' (.nd p .ls us::Γ)->St W F' H' (.nd p .ls us::.lf .non .non::Γ):=fun st=>(St.leaf st (t:=.non) (v:=.non) rfl rfl).perm qu
 cases m with
 | append=>
  obtain⟨y,e1,e⟩:=za e
  obtain⟨hl,e⟩:=zW e
  cases e
  obtain⟨c,rfl,rfl⟩:=one e1
  have:=st.mut (k':=.ls) (o:=.lst (vals (xs++[c]))) (ys:=[c]) (zs:=xs++[c]) (ws:=[]) (by rw [uw]) rfl
  refine⟨p,vals xs,val c,rfl,rfl,h1,by rw [el,sizeLine_eq];exact hl,?_⟩
  have e2:vals xs++[val c]=vals (xs++[c]):=by simp [vals]
  rw [e2]
  exact q F _ (xs++[c]) (.lf .non .non) (non this) (by rw [zk,zk,uD];rfl) rfl
 | extend=>
  obtain⟨y,e1,e⟩:=za e
  obtain⟨zs,e2,e⟩:=za e
  obtain⟨⟨hl,sh⟩,e⟩:=zW e
  cases e
  obtain⟨c,rfl,rfl⟩:=one e1
  obtain⟨pc,us,k1,k2,k3⟩:=Xc st.fh st.ok.2.1 e2
  have st1:St W F H (.nd p .ls xs::Γ):=(st.perm qu).tail
  obtain⟨k4,k5,k6⟩:=st1.leaves (k3.sh sh) sh
  have st2:St W F H (.nd p .ls xs::(leaves zs us++Γ)):=k4.perm uB
  have:=st2.mut (k':=.ls) (o:=.lst (vals (xs++leaves zs us))) (ys:=leaves zs us) (zs:=xs++leaves zs us) (ws:=[]) (by rw [uw]) rfl
  refine⟨p,pc,vals xs,us,rfl,by show [val c]=_;rw [k1],h1,k2,by rw [el,k3.len,sizeLine_eq];exact hl,?_⟩
  have e2:vals xs++us=vals (xs++leaves zs us):=by rw [vals,vals,uD];rw [show(leaves zs us).map val=us from k6]
  rw [e2]
  exact q F _ (xs++leaves zs us) (.lf .non .non) (non this) (by rw [zk,uD,← zk,← zk,k5]) rfl
 | pop=>
  obtain⟨_,e1,e⟩:=za e
  obtain⟨d,e2,e⟩:=za e
  cases e
  cases zero e1
  rw [List.getLast?_eq_getElem?] at e2
  rw [zk,uv,ug] at e2
  obtain⟨c,e3,rfl⟩:=uu.mp e2
  have pm:=yt e3
  have ed:xs.eraseIdx (xs.length - 1)=xs.dropLast:=by rw [List.eraseIdx_length_sub_one]
  rw [ed] at pm
  have:=st.mut (k':=.ls) (o:=.lst (vals xs.dropLast)) (ys:=[]) (zs:=xs.dropLast) (ws:=[c]) (by rw [uw];exact pm) rfl
  refine⟨p,vals xs,val c,rfl,rfl,h1,by rw [ug,uv,e3];rfl,?_⟩
  rw [show(vals xs).dropLast=vals xs.dropLast from(List.map_dropLast).symm]
  exact q F _ xs.dropLast c this (by rw [zk,zk,List.map_dropLast]) rfl
 | popI=>
  obtain⟨y,e1,e⟩:=za e
  obtain⟨i,e2,e⟩:=za e
  obtain⟨j,e3,e⟩:=za e
  obtain⟨r',e4,e⟩:=za e
  obtain⟨hl,e⟩:=zW e
  cases e
  obtain⟨c,rfl,rfl⟩:=one e1
  obtain⟨e5,e6⟩:=Jw e4
  rw [zk,uv] at e5
  obtain⟨d,e7,e8⟩:=uu.mp e5
  have:=(st.perm (qu.trans (gX _))).tail
  have:=St.mut (k':=.ls) (o:=.lst (vals (xs.eraseIdx j))) (ys:=[]) (zs:=xs.eraseIdx j) (ws:=[d]) this (by rw [uw];exact yt e7) rfl
  have hj:=xX e7
  have hv:=zx st.ok.2.1 e2
  have hi:-(2 ^ 63)<=i/\i<2 ^ 63/\seqIndex? i (vals xs).length=some j:=by
   rw [← el] at e3 hl
   obtain⟨h1,h2,h3,h4⟩:=JM e3
   exact⟨by lia,by lia,h1⟩
  refine⟨p,vals xs,i,j,val d,rfl,by show [val c]=_;rw [hv],h1,hi.1,hi.2.1,hi.2.2,by rw [uv,e7];rfl,?_⟩
  rw [show(vals xs).eraseIdx j=vals (xs.eraseIdx j) from(Vq ..).symm]
  exact q F _ (xs.eraseIdx j) d this (by rw [e6,zk,zk,Vq]) e8
 | clear=>
  obtain⟨_,e1,e⟩:=za e
  cases e
  cases zero e1
  have:=st.mut (k':=.ls) (o:=.lst []) (ys:=[]) (zs:=[]) (ws:=xs) (by rw [uw];exact gX _) rfl
  have this2:St W F (upd H p (.lst [])) (.nd p .ls []::Γ):=by
   have:=this.perm (uB.symm:(AT.nd p .ls []::(xs++Γ)).Perm (xs++AT.nd p .ls []::Γ))
   exact this.right
  exact⟨p,vals xs,rfl,rfl,h1,q F _ [] (.lf .non .non) (non this2) rfl rfl⟩
 | insert=>cases e
theorem zfR {m:MU}{us:List V}{v:V}{es:Nat}{ts:List T}{τ3 s' τ':Sl}(R:Rep W F H s τ σ (us.reverse++(v::vs)) γ)(e1:popO es τ []=some (ts,τ3))(hl:us.length=es)(e2:muS m s τ3 ts=some (s',τ'))(q:∀ F' H' y τ'' w,τ' = y::τ''->Rep W F' H' s' τ' σ (w::vs) γ->Q w H'):muR m v us H Q:=by
 obtain⟨cs,rfl,rfl,R2⟩:=vR R e1 hl
 match τ3,e2 with
 | .al i p::τ4,e2=>
  obtain⟨t,e3,e2⟩:=za e2
  match t,e3,e2 with
  | .nd true .ls xs,e3,e2=>
   obtain⟨r,e4,e2⟩:=za e2
   obtain⟨q',e5,e2⟩:=za e2
   cases e2
   obtain⟨as,bs,R3⟩:=R2
   obtain⟨u,bs',rfl,hu,et,rfl,st,back⟩:=R3.place e3
   cases u with
   | lf t' v'=>
    have:=st.ok.1.1
    rw [show t' = _ from et] at this
    cases this
   | tp _ _=>cases et
   | nd pa k ys=>
    cases et
    have pm:(AT.nd pa .ls ys::(setS i p as (hole (.nd pa .ls ys))++(bs'++(cs++γ)))).Perm (AT.nd pa .ls ys::(cs++(setS i p as (hole (.nd pa .ls ys))++(bs'++γ)))):=by
     refine List.Perm.cons _ ?_
     rw [← uc,← uc,← uc,← uc]
     refine UK _ ?_
     rw [uc cs]
     exact uz
    refine zhF (st.perm pm) e4 fun F' H' us' w st' eu ew=>?_
    have st2:St W F' H' (.nd pa .ls us'::(setS i p as (hole (.nd pa .ls ys))++(bs'++(w::γ)))):=st'.perm (List.Perm.cons _ (by
     rw [← uc,← uc]
     exact uB.symm))
    have:=(back (γ':=w::γ) st2 rfl (by rw [show era (.nd pa .ls us')=.nd true .ls r.1 by rw [← eu];rfl];exact e5)).push
    rw [ew] at this
    exact q F' H' _ _ _ rfl this
theorem zhG {m:MU}{p:Xp}{es:List Xp}(h:E5 W E (.mu m p es) σ H Q):E5 W E p σ H fun x H1=>tyV W.K "list" x H1/\A5 W E es σ H1 fun us H2=>muR m x us H2 Q:=by
 obtain⟨F,s,τ,vs,γ,K,X4,R,h,q,x⟩:=h
 refine⟨F,s,τ,vs,γ,_,X4,R,h,fun F1 H1 s1 y τ1 v1 R1 h1=>?_,x⟩
 rcases jC h1 with⟨c,h1⟩ | ⟨_,z⟩
 ·refine⟨?_,F1,s1,y::τ1,v1::vs,γ,_,X4,R1,h1,fun F2 H2 s2 τ2 us hl R2 h2=>?_,x.app [v1]⟩
  ·cases y with
   | no=>cases c
   | own t=>cases c
   | al i p=>
    obtain⟨as,bs,Rp⟩:=id R1
    obtain⟨xs,e⟩:∃ xs,getP s1 i p=some (.nd true .ls xs):=by
     simp only [ckL] at c
     split at c
     ·exact⟨_,by assumption⟩
     ·cases c
    obtain⟨a,g1,g2,g3⟩:=Rp.res (x:=.al i p) e
    obtain⟨pa,us,o,k1,k2,rfl,_⟩:=Zk R1.fh g1 g2
    rw [← g3,k1]
    exact .inl ⟨rfl,us,SqL.of k2⟩
  ·obtain⟨ts,τ3,e1,h2'⟩:=zj h2
   obtain⟨s3,τ4,e2,h3⟩:=zj h2'
   exact zfR R2 e1 hl e2 fun F' H' y' τ'' w e R3=>by subst e;exact q F' H' s3 y' τ'' w R3 h3
 ·exact z.elim
end L5
namespace L5
open PySem L2 PySem.Spec PyProof.Rows
variable {W:Wd} {E:XS} {F H:Hp} {s τ:Sl} {σ:L2.St} {vs:List V} {γ:List AT} {K:KP} {X4:XP} {Q:VK}
theorem Zm:∀ {more kvs:List (Key×V)},((kvs++more).map (·.1)).Nodup->yn kvs more=kvs++more
 | [],kvs,_=>(uw _).symm
 | p::more,kvs,h=>by
  have h':=h
  rw [uD,ur,gG] at h'
  have hn:¬ (kvs.any fun kv=>decide (kv.1=p.1))=true:=fun z=>by
   obtain⟨kv,h1,h2⟩:=List.any_eq_true.mp z
   exact h'.2.2 kv.1 (Ur.mpr ⟨kv,h1,rfl⟩) p.1 ui (uK h2)
  have e:putK kvs p.1 p.2=kvs++[p]:=by
   unfold putK
   rw [uq hn]
  show yn (putK kvs p.1 p.2) more=_
  rw [e,Zm (by rw [uc];exact h),uc]
  rfl
noncomputable def Dsp (W:Wd):List (Lc×T)->List (Key×V)->Prop
 | [],kvs=>kvs=[]
 | p::d,kvs=>∃ v r,kvs=(.inr (S p.1),v)::r/\p.1.length<=16777216/\shr p.2=true/\(∀ F:Hp,IsV W F p.2 v)/\Dsp W d r
theorem Dsp.all:∀ {d:List (Lc×T)} {kvs:List (Key×V)},Dsp W d kvs->kvs.map (·.1)=d.map (fun p=>.inr (S p.1))/\IsVs W F (d.map (·.2)) (kvs.map (·.2))/\shrs (d.map (·.2))=true/\kvs.length=d.length
 | [],_,h=>by rw [show _=[] from h];exact⟨rfl,rfl,rfl,rfl⟩
 | p::d,_,⟨v,r,e,_,h1,h2,h3⟩=>by
  subst e
  obtain⟨k1,k2,k3,k4⟩:=Dsp.all h3
  exact⟨congrArg _ k1,⟨v,_,rfl,h2 F,k2⟩,uV.mpr ⟨h1,k3⟩,congrArg (· + 1) k4⟩
noncomputable def cTrs (kvs:List (Key×V)):List (TE×TE):=kvs.map fun kv=>(tC (kV kv.1),tC kv.2)
theorem Yk:∀ {kvs:List (Key×V)} {Q:List (V×V)->Hp->Prop},Q (kvs.map fun kv=>(kV kv.1,kv.2)) H->JV (cTrs kvs) σ H Q
 | [],_,h=>h
 | kv::kvs,_,h=>Yk (kvs:=kvs) h
theorem zfS {d:List (Lc×T)}{kvs:List (Key×V)}(hd:Dsp W d kvs)(hn:(kvs.map (·.1)).Nodup)(h15:d.length<=15)(h:E5 W E (.dsp d) σ H Q):zdS (cTrs kvs) σ H Q:=by
 obtain⟨F,s,τ,vs,γ,K,X4,R,h,q,x⟩:=h
 intro p hp
 obtain⟨k1,k2,k3,k4⟩:=Dsp.all (F:=F) hd
 refine Yk ⟨jz,kvs,rfl,by rw [k4];exact h15,?_⟩
 rw [zce,Zm (by rw [UE];exact hn),UE]
 obtain⟨Γ,st,back⟩:=R.all
 obtain⟨g1,g2,g3⟩:=st.leaves k2 k3
 have st2:=St.node (k:=.dc (kvs.map (·.1))) (o:=.dK kvs) g1 hp ⟨kvs,rfl,rfl,g3.symm⟩
 have R2:=(back (γ':=.nd p (.dc (kvs.map (·.1))) (leaves _ _)::γ) st2).push
 rw [era,g2,k1] at R2
 exact q F _ s _ _ _ R2 h
theorem Rep.under {x y:Slot}{v u:V}(R:Rep W F H s (x::y::τ) σ (v::u::vs) γ):Rep W F H s (x::τ) σ (v::vs) γ:=by
 obtain⟨as,bs,R⟩:=R
 obtain⟨b,bs',rfl,m,st,R'⟩:=R.uncons
 obtain⟨b2,bs2,rfl,m2,st2,R2⟩:=R'.uncons
 refine⟨as,_,R2.cons ?_ m⟩
 have pm:(b::(as++(b2::bs2++γ))).Perm (b2::b::(as++(bs2++γ))):=(List.Perm.cons b xt.symm).trans qu
 exact(st.perm pm).tail
theorem zbc {kvs:List (Key×V)}{k:Key}(h:(kvs.map (·.1)).findIdx? (fun k'=>decide (k' = k))=none):valV kvs k=none:=by
 induction kvs with
 | nil=>rfl
 | cons a l ih=>
  rw [ur,Ue] at h
  cases c:decide (a.1=k) with
  | true=>rw [c] at h;cases h
  | false=>
   rw [c] at h
   rw [xr (uW c)]
   exact ih (by simpa using h)
theorem zhH {a k w:Xp}(h:E5 W E (.dg a k w) σ H Q):zaI (E5 W E a) (E5 W E k) (E5 W E w) σ H Q:=by
 obtain⟨F,s,τ,vs,γ,K,X4,R,h,q,x⟩:=h
 refine⟨F,s,τ,vs,γ,_,X4,R,h,fun F1 H1 s1 y1 τ1 v1 R1 h1=>?_,x⟩
 rcases jC h1 with⟨c,h1⟩ | ⟨_,z⟩
 case inr=>exact z.elim
 obtain⟨d,hd⟩:=gZ.mp (show((res s1 y1).bind dcO).isSome=true from c)
 obtain⟨t,e1,e2⟩:=za hd
 obtain⟨as,bs,Rp⟩:=id R1
 obtain⟨b,g1,rfl,rfl⟩:=Rp.res e1
 obtain⟨o',e3⟩:=Qp e2
 obtain⟨p,us,oo,k1,k2,⟨kvs,rfl,_,_⟩,_⟩:=Zk R1.fh g1 e3
 refine⟨p,k1,.inl ⟨kvs,.inl k2⟩,?_⟩
 refine⟨F1,s1,_,_,γ,_,X4,R1,h1,fun F2 H2 s2 y2 τ2 v2 R2 h2=>?_,x.app [_]⟩
 refine⟨F2,s2,_,_,γ,_,X4,R2,h2,fun F3 H3 s3 y3 τ3 v3 R3 h3=>?_,x.app [_,_]⟩
 obtain⟨τ4,f1,h4⟩:=zo h3
 match τ3,f1 with
 | y::x'::τ5,f1=>
  obtain⟨kt,f2,f1a⟩:=za f1
  obtain⟨key,f3,f1b⟩:=za f1a
  obtain⟨tt,f4,f1c⟩:=za f1b
  obtain⟨dd,f5,f1d⟩:=za f1c
  clear f1 f1a f1b f1c
  obtain⟨as2,bs2,Rk⟩:=id R3.pop
  obtain⟨ck,j1,rfl,rfl⟩:=Rk.res f2
  obtain⟨as3,bs3,Rd⟩:=id R3.pop.pop
  obtain⟨cd,j2,rfl,j3⟩:=Rd.res f4
  obtain⟨o2,f6⟩:=Qp f5
  obtain⟨p2,us2,oo2,l1,l2,⟨kvs2,rfl,l3,l4⟩,_⟩:=Zk R3.fh j2 f6
  have ep:p2=p:=by
   rw [j3,k1] at l1;cases l1;rfl
  subst ep
  have hk:=J4 j1 f3
  have fj:dcJ key (era cd)=dd.1.findIdx? fun k'=>decide (k' = key):=by unfold dcJ;rw [f5];rfl
  rw [fj] at f1d
  cases fi:dd.1.findIdx? fun k'=>decide (k' = key) with
  | none=>
   rw [fi] at f1d
   cases f1d
   refine⟨none,?_,q F3 H3 s3 _ _ _ R3.under.under h4⟩
   rw [hk,← zbc (kvs:=kvs2) (k:=key) (by rw [l3];exact fi)]
   exact DGet.k l2
  | some n=>
   rw [fi] at f1d
   obtain⟨z,f7,f1d⟩:=za f1d
   cases f1d
   obtain⟨t',p',us',n',w',r1,r2,r3,r4,_,R4⟩:=R3.pop.pop.part f7
   rw [k1] at r1;cases r1
   refine⟨some w',?_,q F3 H3 s3 _ _ _ R4 h4⟩
   rw [hk]
   obtain⟨d',r5,r6⟩:=za r2
   obtain⟨o3,rfl⟩:=Qp r5
   obtain⟨kvs3,c1,c2,rfl⟩:=r3
   rw [← Yi (by rw [c2];exact r6) r4]
   exact DGet.k c1
end L5
namespace L5
open PySem L2 PySem.Spec PyProof.Rows
variable {W:Wd} {E:XS} {F H:Hp} {s τ:Sl} {σ:L2.St} {vs:List V} {γ:List AT} {K:KP} {X4:XP} {Q:VK}
noncomputable def yf:List Md->List V->List AT->Prop
 | .mu::ms,v::vs,bs=>∃ b bs',bs=b::bs'/\val b=v/\yf ms vs bs'
 | .mv::ms,_::vs,bs=>∃ b bs',bs=b::bs'/\b=.lf .non .non/\yf ms vs bs'
 | _,_,bs=>bs=[]
noncomputable def SpM (W:Wd)(ms:List Md)(f:Fn):Sp:=fun vs H Q E=>∃ F as γ Q4 X4,St W F H (as++γ)/\vals as=vs/\as.length=ms.length/\f (eras as) Q4 X4 /\
 (∀ F' H' r bs,St W F' H' (r::(bs++γ))->yf ms vs bs->Q4 (era r) (eras bs)->Q (val r) H') /\
 ∀ x F' H' bs c d,St W F' H' (bs++γ)->yf ms vs bs->IsX W F' x c d->X4 x (eras bs)->E c d H'
theorem Ms.root {as as':List AT}{i:Nat}(h:∀ j,j≠i->as'[j]? = as[j]?):∀ {xs xs':Sl} {ρ:List (Option V)} {cs:List AT},Ms as xs ρ cs->mapO (jN i 0) xs=some xs'->Ms as' xs' ρ cs/\∀ q,Slot.al i q∉xs':=fun {xs xs' ρ cs} m e=>by
 refine⟨m.kill (i:=i) (n:=0) (fun j q u hl hu=>⟨u,?_,rfl⟩) e,fun q=>?_⟩
 ·have:j≠i:=fun z=>absurd (hl z) (gR _)
  unfold getS at hu ⊢
  rw [h j this];exact hu
 ·clear m
  induction xs generalizing xs' with
  | nil=>cases e;intro z;cases z
  | cons x xs ih=>
   obtain⟨y,ys,k1,k2,k⟩:=zy e
   cases k
   intro z
   rcases uh.mp z with z | z
   ·subst z
    cases x with
    | no=>cases k1
    | own _=>cases k1
    | al j p=>
     simp only [jN] at k1
     cases c:(j == i&&Nat.ble 0 p.length) with
     | true=>rw [c] at k1;cases k1
     | false=>
      rw [c] at k1;cases k1
      rw [uQ,UN,gj (uF _)] at c
      cases c
   ·exact ih k2 z
theorem pm3 {α:Type}{x:α}{a b c:List α}:(x::(a++(b++c))).Perm (a++(b++(x::c))):=by
 rw [← uc,← uc]
 exact uB.symm
theorem pm4 {α:Type}{x:α}{a b c d:List α}:(x::(a++(b++(c++d)))).Perm (a++(b++(c++(x::d)))):=by
 rw [← uc,← uc,← uc,← uc]
 exact uB.symm
theorem Xf {i n j:Nat}{q:Lc}:∀ {xs xs':Sl},mapO (jN i n) xs=some xs'->Slot.al j q∈xs'->Slot.al j q∈xs
 | [],_,e,z=>by cases e;cases z
 | x::xs,_,e,z=>by
  obtain⟨y,ys,g1,g2,g⟩:=zy e
  cases g
  rcases uh.mp z with z | z
  ·subst z
   cases x with
   | no=>cases g1
   | own _=>cases g1
   | al j' p'=>
    simp only [jN] at g1
    cases cc:(j' == i&&n.ble p'.length)<;>rw [cc] at g1<;>cases g1
    exact ui
  ·exact uk _ (Xf g2 z)
theorem Wa {i j:Nat}{p:Lc}{as:List AT}{w:AT}(h:j≠i):(setS i p as w)[j]? = as[j]?:=by
 unfold setS
 split
 ·rw [Uk (Ne.symm h)]
 ·rfl
theorem zc3 {i:Nat}{p:Lc}{as:List AT}{t:T}{u:AT}(m:Ms as s σ as)(e:getP s i p=some t)(hu:getS i p as=some u):era u=t:=by
 obtain⟨y,k1,e⟩:=za e
 obtain⟨r,k2,e⟩:=za e
 obtain⟨a,e1,e2,_⟩:=ja hu
 cases y with
 | no=>cases k2
 | al _ _=>cases k2
 | own r'=>
  cases k2
  obtain⟨o,a',g1,g2,g3,g4⟩:=m.get k1
  rw [e1] at g2;cases g2
  subst g3
  have e:getT p (era a)=some t:=e
  rw [ZL e2] at e;cases e;rfl
theorem take_ok:∀ {ms:List Md} {xs s τ s' τ':Sl} {us:List V} {as cs bs γ:List AT} {ts:List T} {ps:Pl},St W F H (as++(cs++(bs++γ)))->Ms as s σ as->Ms as xs (us.map some) cs->Ms as τ (vs.map some) bs->xY ms xs s τ=some ((ts,ps),(s',τ')) ->
  ∃ A as',eras A=ts/\vals A=us/\A.length=ms.length/\St W F H (A++(as'++(bs++γ)))/\Ms as' s' σ as'/\Ms as' τ' (vs.map some) bs/\(∀ j,(∀ q,Slot.al j q∉xs)->as'[j]? = as[j]?) /\
   ∀ {F' H' Bs γ' s2 τ2},St W F' H' (Bs++(as'++(bs++γ')))->yf ms us Bs->j5 ps (eras Bs) s' τ' = some (s2,τ2)->∃ as2,St W F' H' (as2++(bs++γ'))/\Ms as2 s2 σ as2/\Ms as2 τ2 (vs.map some) bs/\∀ j,(∀ q,Slot.al j q∉xs)->as2[j]? = as'[j]?
 | [],[],s,τ,s',τ',us,as,cs,bs,γ,ts,ps,st,m1,m2,m3,e=>by
  cases e
  obtain⟨e1,rfl⟩:=m2
  have:us=[]:=by cases us with | nil=>rfl | cons _ _=>cases e1
  subst this
  refine⟨[],as,rfl,rfl,rfl,st,m1,m3,fun _ _=>rfl,fun {F' H' Bs γ' s2 τ2} st' hb e=>?_⟩
  cases hb
  cases e
  exact⟨as,st',m1,m3,fun _ _=>rfl⟩
 | [],_::_,s,τ,s',τ',us,as,cs,bs,γ,ts,ps,st,m1,m2,m3,e=>by cases e
 | m::ms,[],s,τ,s',τ',us,as,cs,bs,γ,ts,ps,st,m1,m2,m3,e=>by cases m<;>cases e
 | m::ms,.no::xs,s,τ,s',τ',us,as,cs,bs,γ,ts,ps,st,m1,m2,m3,e=>by cases m<;>cases e
 | m::ms,.own t::xs,s,τ,s',τ',us,as,cs,bs,γ,ts,ps,st,m1,m2,m3,e=>by
  have e:((xY ms xs s τ).bind fun r=>some ((t::r.1.1,none::r.1.2),r.2))=some ((ts,ps),(s',τ')):=by cases m<;>exact e
  obtain⟨r,e1,e⟩:=za e
  obtain⟨⟨ts1,ps1⟩,⟨s1,τ1⟩⟩:=r
  cases e
  obtain⟨o,ρ,c,cs',k1,k2,k3,k4⟩:=m2
  cases us with
  | nil=>cases k1
  | cons v us=>
   cases k1
   subst k2
   cases k3.2
   have pm:(as++(c::cs'++(bs++γ))).Perm (as++(cs'++(bs++(c::γ)))):=gk _ pm3
   obtain⟨A,as',h1,h2,h3,h4,h5,h6,h7,h8⟩:=take_ok (st.perm pm) m1 k4 m3 e1
   have pm2:(A++(as'++(bs++(c::γ)))).Perm (c::A++(as'++(bs++γ))):=pm4.symm
   refine⟨c::A,as',by rw [eras,h1,k3.1],by rw [vals,ur];exact congrArg _ h2,congrArg (· + 1) h3,h4.perm pm2,h5,h6,fun j hj=>h7 j fun q z=>hj q (uk _ z),fun {F' H' Bs γ' s2 τ2} st' hb e=>?_⟩
   have:∃ b bs',Bs=b::bs'/\yf ms us bs':=by cases m<;>(obtain⟨b,bs',e,_,h⟩:=hb;exact⟨b,bs',e,h⟩)
   obtain⟨b,Bs',rfl,hb'⟩:=this
   obtain⟨as2,g1,g2,g3,g4⟩:=h8 (St.tail st') hb' e
   exact⟨as2,g1,g2,g3,fun j hj=>g4 j fun q z=>hj q (uk _ z)⟩
 | .mv::ms,.al i p::xs,s,τ,s',τ',us,as,cs,bs,γ,ts,ps,st,m1,m2,m3,e=>by cases e
 | .mu::ms,.al i p::xs,s,τ,s',τ',us,as,cs,bs,γ,ts,ps,st,m1,m2,m3,e=>by
  obtain⟨t,e1,e⟩:=za e
  obtain⟨q1,e2,e⟩:=za e
  obtain⟨xs',e3,e⟩:=za e
  obtain⟨r,e4,e⟩:=za e
  obtain⟨⟨ts1,ps1⟩,⟨s1,τ1⟩⟩:=r
  cases e
  obtain⟨o,ρ,c,cs',k1,k2,⟨rfl,u,hu,hv⟩,k4⟩:=m2
  cases us with
  | nil=>cases k1
  | cons v us=>
   cases k1
   subst k2
   cases hv
   have et:=zc3 m1 e1 hu
   obtain⟨n1,n2⟩:=kN (w:=hole u) m1 m3 hu rfl e2
   obtain⟨n3,n4⟩:=k4.root (as':=setS i p as (hole u)) (fun j hj=>Wa hj) e3
   have st1:St W F H (as++(cs'++(bs++γ))):=(st.perm (uB:(as++(nilA::cs'++(bs++γ))).Perm (nilA::(as++(cs'++(bs++γ)))))).tail
   have st2:=st1.outS hu
   have pm:(u::(setS i p as (hole u)++(cs'++(bs++γ)))).Perm (setS i p as (hole u)++(cs'++(bs++(u::γ)))):=pm4
   obtain⟨A,as',h1,h2,h3,h4,h5,h6,h7,h8⟩:=take_ok (st2.perm pm) n1 n3 n2 e4
   have pm2:(A++(as'++(bs++(u::γ)))).Perm (u::A++(as'++(bs++γ))):=pm4.symm
   have keep:∀ {j},(∀ q,Slot.al j q∉Slot.al i p::xs)->j≠i/\∀ q,Slot.al j q∉xs':=fun {j} hj=>by
    refine⟨fun z=>hj p (by rw [z];exact ui),fun q z=>hj q (uk _ ?_)⟩
    exact Xf e3 z
   refine⟨u::A,as',by rw [eras,h1,et],by rw [vals,ur];exact congrArg _ h2,congrArg (· + 1) h3,h4.perm pm2,h5,h6,fun j hj=>?_,fun {F' H' Bs γ' s2 τ2} st' hb e=>?_⟩
   ·obtain⟨j1,j2⟩:=keep hj
    rw [h7 j j2,Wa j1]
   ·obtain⟨b,Bs',rfl,hbv,hb'⟩:=hb
    obtain⟨q2,f1,e⟩:=za e
    obtain⟨t',f2,e⟩:=za e
    obtain⟨_,f3,e⟩:=za e
    have pmB:(b::Bs'++(as'++(bs++γ'))).Perm (Bs'++(as'++(bs++(b::γ')))):=pm4
    obtain⟨as2,g1,g2,g3,g4⟩:=h8 (st'.perm pmB) hb' f1
    have hi2:as2[i]? = (setS i p as (hole u))[i]?:=by rw [g4 i n4,h7 i n4]
    have gs:getS i p as2=some (hole u):=by
     have:=(vq (w:=hole u) hu).1
     unfold getS at this ⊢
     rw [hi2];exact this
    have st4:St W F' H' (b::(as2++(bs++γ'))):=g1.perm pm3.symm
    have:=st4.inS gs rfl hbv
    obtain⟨p1,p2⟩:=kN (w:=b) g2 g3 gs hbv e
    refine⟨_,this,p1,p2,fun j hj=>?_⟩
    obtain⟨j1,j2⟩:=keep hj
    rw [Wa j1,g4 j j2]
end L5
namespace L5
open PySem L2 PySem.Spec PyProof.Rows
variable {W:Wd} {E:XS} {F H:Hp} {s τ:Sl} {σ:L2.St} {vs:List V} {γ:List AT} {K:KP} {X4:XP} {Q:VK}
theorem Yl {as:List AT}:∀ {n:Nat} {τ τ' acc xs:Sl} {us ws av:List V} {bs ac:List AT},Ms as τ ((us.reverse++ws).map some) bs->Ms as acc (av.map some) ac->popS n τ acc=some (xs,τ')->us.length=n->∃ cs bs',Ms as xs ((us++av).map some) cs/\Ms as τ' (ws.map some) bs'/\(bs++ac).Perm (cs++bs')
 | 0,τ,τ',acc,xs,us,ws,av,bs,ac,m1,m2,e,hl=>by
  cases e
  have:us=[]:=gO hl
  subst this
  exact⟨ac,bs,m2,m1,uz⟩
 | n+1,[],τ',acc,xs,us,ws,av,bs,ac,m1,m2,e,hl=>by cases e
 | n+1,x::τ,τ',acc,xs,us,ws,av,bs,ac,m1,m2,e,hl=>by
  obtain⟨us0,u,rfl⟩:∃ us0 u,us=us0++[u]:=⟨us.dropLast,us.getLast (fun z=>by rw [z] at hl;cases hl),(List.dropLast_concat_getLast _).symm⟩
  rw [gA] at m1
  obtain⟨o,ρ,b,bs',e1,e2,h1,h2⟩:=m1
  cases e1
  subst e2
  have hl':us0.length=n:=by simpa using hl
  obtain⟨cs,bs2,g1,g2,g3⟩:=Yl (us:=us0) (ws:=ws) (acc:=x::acc) (av:=u::av) (ac:=b::ac) h2 ⟨_,_,_,_,rfl,rfl,h1,m2⟩ e hl'
  refine⟨cs,bs2,by rw [uc];exact g1,g2,List.Perm.trans ?_ g3⟩
  exact uB.symm
theorem Ym {n:Nat}{ms:List Md}{us:List V}{xs τ1 s' τ':Sl}{ts:List T}{ps:Pl}(R:Rep W F H s τ σ (us.reverse++vs) γ)(e1:popS n τ []=some (xs,τ1))(hl:us.length=n)(e2:xY ms xs s τ1=some ((ts,ps),(s',τ'))) :
  ∃ A δ,eras A=ts/\vals A=us/\A.length=ms.length/\St W F H (A++(δ++γ))/\∀ {F' H' Bs γ' s2 τ2},St W F' H' (Bs++(δ++γ'))->yf ms us Bs->j5 ps (eras Bs) s' τ' = some (s2,τ2)->Rep W F' H' s2 τ2 σ vs γ':=by
 obtain⟨as,bs,R⟩:=R
 obtain⟨cs,bs',m2,m3,pm⟩:=Yl (acc:=[]) (av:=[]) (ac:=[]) R.ts ⟨rfl,rfl⟩ e1 hl
 rw [uw] at m2 pm
 have st:St W F H (as++(cs++(bs'++γ))):=R.st.perm (gk _ (by rw [← uc];exact pm.append_right _))
 obtain⟨A,as',h1,h2,h3,h4,h5,h6,_,h8⟩:=take_ok st R.ls m2 m3 e2
 refine⟨A,as'++bs',h1,h2,h3,by rw [uc];exact h4,fun {F' H' Bs γ' s2 τ2} st' hb e=>?_⟩
 rw [uc] at st'
 obtain⟨as2,g1,g2,g3,_⟩:=h8 st' hb e
 exact⟨as2,bs',g1,g2,g3⟩
theorem pmA {α:Type}{r:α}{a b c:List α}:(r::(a++(b++c))).Perm (a++(b++(r::c))):=pm3
theorem zd1 {n:Nat}{ms:List Md}{f:Fn}{us:List V}{xs τ1 s' τ':Sl}{ts:List T}{ps:Pl}(R:Rep W F H s τ σ (us.reverse++vs) γ)(e1:popS n τ []=some (xs,τ1))(hl:us.length=n)(e2:xY ms xs s τ1=some ((ts,ps),(s',τ')))
  (h:f ts (fun r ts'=>bnd2 (j5 ps ts' s' τ') fun s3 τ4=>K s3 (.own r::τ4)) (fun x ts'=>bnd2 (j5 ps ts' s' τ') (X4 x))) (q:∀ F' H' s' x τ' v,Rep W F' H' s' (x::τ') σ (v::vs) γ->K s' (x::τ')->Q v H') (x:XK W E σ vs γ X4):SpM W ms f us H Q fun c d H'=>E c d σ H':=by
 obtain⟨A,δ,h1,h2,h3,h4,h5⟩:=Ym R e1 hl e2
 subst h1
 refine⟨F,A,δ++γ,_,_,h4,h2,h3,h,fun F' H' r bs st hb hq=>?_,fun ex F' H' bs c d st hb hx hq=>?_⟩
 ·obtain⟨s3,τ4,e,hq⟩:=zj hq
  exact q F' H' s3 _ _ _ (h5 (γ':=r::γ) (st.perm pmA) hb e).push hq
 ·obtain⟨s3,τ4,e,hq⟩:=zj hq
  exact x ex F' H' s3 τ4 [] c d (h5 st hb e) hx hq
theorem Yn {y:Str}{ms:List Md}{f:Fn}{es:List Xp}(h:E5 W E (.call (.fn y) ms f es) σ H Q):Z3 (SpM W ms f) E (A5 W E es) σ H Q:=by
 obtain⟨F,s,τ,vs,γ,K,X4,R,h,q,x⟩:=h
 have hh:WEs es s τ (fun s1 τ1=>bnd2 (popS es.length τ1 []) fun xs τ2=>bndT (xY ms xs s1 τ2) fun ts ps s2 τ3=>f ts (fun r ts'=>bnd2 (j5 ps ts' s2 τ3) fun s3 τ4=>K s3 (.own r::τ4)) (fun x ts'=>bnd2 (j5 ps ts' s2 τ3) (X4 x))) X4:=by
  cases es with
  | nil=>exact h
  | cons e es=>exact h
 refine⟨F,s,τ,vs,γ,_,X4,R,hh,fun F1 H1 s1 τ1 us hl R1 h1=>?_,x⟩
 obtain⟨xs,τ2,e1,h1⟩:=zj h1
 obtain⟨ts,ps,s2,τ3,e2,h1⟩:=J2 h1
 exact zd1 R1 e1 hl e2 h1 q x
noncomputable def ckV (W:Wd)(c:Nat)(m:Str):V->Hp->Prop:=fun x H=>∃ a dx fs,x=.ref a/\H a=some (.ins (W.cl c) dx fs)/\fs.lookup m=none
noncomputable def tCk (ck:V->Hp->Prop)(to:TE)(t:TA):TA:=fun σ H Q=>to σ H fun x H1=>ck x H1/\t σ H1 fun xs H2=>Q (x::xs) H2
theorem Ku {kvs:List (Str×V)}{m:Str}(h:(kvs.map (·.1)).contains m=false):kvs.lookup m=none:=by
 induction kvs with
 | nil=>rfl
 | cons a l ih=>
  rw [ur,List.contains_cons,Bool.or_eq_false_iff] at h
  rw [uP,h.1]
  exact ih h.2
theorem zc4 {c:Nat}{y:Str}{ms:List Md}{f:Fn}{o:Xp}{es:List Xp}(h:E5 W E (.call (.mt c y) ms f (o::es)) σ H Q):Z3 (SpM W ms f) E (tCk (ckV W c y) (E5 W E o) (A5 W E es)) σ H Q:=by
 obtain⟨F,s,τ,vs,γ,K,X4,R,h,q,x⟩:=h
 refine⟨F,s,τ,vs,γ,_,X4,R,h,fun F1 H1 s1 z τ1 v R1 h1=>?_,x⟩
 rcases jC h1 with⟨ck,h1⟩ | ⟨_,z⟩
 ·refine⟨?_,F1,s1,z::τ1,v::vs,γ,_,X4,R1,h1,fun F2 H2 s2 τ2 us hl R2 h2=>?_,x.app [v]⟩
  ·have ck:(match (res s1 z).bind obO with
    | some o=>o.1 == c&&!o.2.1.contains y
    | none=>false)=true:=ck
   cases e:(res s1 z).bind obO with
   | none=>rw [e] at ck;cases ck
   | some ob=>
    rw [e] at ck
    have ck:(ob.1 == c&&!ob.2.1.contains y)=true:=ck
    rw [uI,Bool.not_eq_true'] at ck
    obtain⟨t,e1,e2⟩:=za e
    obtain⟨as,bs,Rp⟩:=id R1
    obtain⟨a,g1,rfl,rfl⟩:=Rp.res e1
    obtain⟨o',e3⟩:=za7 e2
    obtain⟨p,us,oo,k1,k2,⟨dx,kvs,rfl,k3,_⟩,_⟩:=Zk R1.fh g1 e3
    exact⟨p,dx,kvs,k1,by rw [k2,eq_of_beq ck.1],Ku (by rw [k3];exact ck.2)⟩
  ·obtain⟨xs,τ3,e1,h2⟩:=zj h2
   obtain⟨ts,ps,s4,τ4,e2,h2⟩:=J2 h2
   exact zd1 (us:=v::us) (by rw [Ul,uc];exact R2) e1 (congrArg (· + 1) hl) e2 h2 q x
 ·exact z.elim
noncomputable def zbd (C:Addr)(sp:Sp)(E:XS)(t:TA):TE:=fun σ H Q=>t σ H fun vs H1=>∀ x dx,H1 x=none->H1 dx=none->dx≠x ->
 sp (.ref x::vs) (upd (upd H1 dx (.own x)) x (.ins C dx [])) (fun v H2=>v=.non/\Q (.ref x) H2) fun c d H'=>E c d σ H'
theorem zc5 {c:Nat}{y:Str}{ms:List Md}{f:Fn}{es:List Xp}(h:E5 W E (.call (.mk c y) ms f es) σ H Q):zbd (W.cl c) (SpM W (.mu::ms) f) E (A5 W E es) σ H Q:=by
 obtain⟨F,s,τ,vs,γ,K,X4,R,h,q,x⟩:=h
 have hh:WEs es s τ (fun s1 τ1=>bnd2 (popS es.length τ1 []) fun xs τ2=>bndT (xY ms xs s1 τ2) fun ts ps s2 τ3=>f (.nd true (.ob c []) []::ts) (fun r ts'=>match r,ts' with
     | .non,o::os=>bnd2 (j5 ps os s2 τ3) fun s3 τ4=>K s3 (.own o::τ4)
     | _,_=>False) (fun x ts'=>bnd2 (j5 ps ts'.tail s2 τ3) (X4 x))) X4:=by
  cases es with
  | nil=>exact h
  | cons e es=>exact h
 refine⟨F,s,τ,vs,γ,_,X4,R,hh,fun F1 H1 s1 τ1 us hl R1 h1=>?_,x⟩
 obtain⟨xs,τ2,e1,h1⟩:=zj h1
 obtain⟨ts,ps,s2,τ3,e2,h1⟩:=J2 h1
 intro a dx n1 n2 ne
 obtain⟨A,δ,g1,g2,g3,g4,g5⟩:=Ym R1 e1 hl e2
 subst g1
 have st1:St W F1 (upd H1 dx (.own a)) (A++(δ++γ)):=g4.alloc n2
 have st2:=St.node (as:=[]) (k:=.ob c []) (o:=.ins (W.cl c) dx []) st1 (by rw [zP (Ne.symm ne)];exact n1) ⟨dx,[],rfl,rfl,rfl⟩
 refine⟨F1,.nd a (.ob c []) []::A,δ++γ,_,_,st2,by rw [vals,ur];exact congrArg _ g2,congrArg (· + 1) g3,h1,fun F' H' r bs st hb hq=>?_,fun ex F' H' bs cc d st hb hx hq=>?_⟩
 ·obtain⟨b,bs',rfl,hbv,hb'⟩:=hb
  match er:era r,hq with
  | .non,hq=>
   have hv:val r=.non:=by
    cases r with
    | lf t v=>cases er;exact st.ok.1.2
    | tp _ _=>cases er
    | nd _ _ _=>cases er
   obtain⟨s3,τ4,e,hq⟩:=zj hq
   refine⟨hv,?_⟩
   rw [← hbv]
   exact q F' H' s3 _ _ _ (g5 (γ':=b::γ) ((St.tail st).perm pmA) hb' e).push hq
 ·obtain⟨b,bs',rfl,hbv,hb'⟩:=hb
  obtain⟨s3,τ4,e,hq⟩:=zj hq
  exact x ex F' H' s3 τ4 [] cc d (g5 (St.tail st) hb' e) hx hq
end L5
namespace L5
open PySem L2 PySem.Spec PyProof.Rows
variable {W:Wd} {E:XS} {F H:Hp} {s τ:Sl} {σ:L2.St} {vs:List V} {γ:List AT} {K:KP} {X4:XP} {Q:VK}
structure ItOk (W:Wd)(J:It)(us:List AT)(ds:List T):Prop where
 sh:shrs ds=true
 go:∀ i F H,i<ds.length->Same F H->OKs W F H us->J.go i H
 yld:∀ i F H x H',i<ds.length->Same F H->OKs W F H us->J.yld i H x H'->∃ d,ds[i]? = some d/\∀ γ,St W F H γ->∃ F',St W F' H' γ/\IsV W F' d x
 stop:∀ F H,Same F H->OKs W F H us->J.stop ds.length H
theorem xf {xs:List T}{us:List V}(q:Sq W F H xs us)(s:shrs xs=true){i:Nat}(hi:i<xs.length):∃ d v,xs[i]? = some d/\us[i]? = some v/\IsV W F d v:=by
 obtain⟨v,h1,h2⟩:=(q.sh s).get (um hi)
 exact⟨_,v,um hi,h1,h2⟩
theorem zhI {u:AT}{p:Addr}{ds:List T}(hp:val u=.ref p)(s:shrs ds=true)(e:lsO (era u)=some ds):ItOk W (Itl W.K p) [u] ds:=by
 have key:∀ F H,Same F H->OKs W F H [u]->∃ vs,SqL W.K H p vs/\Sq W F H ds vs:=fun F H g h=>by
  obtain⟨p',vs,h1,h2,h3⟩:=wH g h.1 e
  rw [hp] at h1;cases h1
  exact⟨vs,h2,h3⟩
 refine⟨s,fun i F H hi g h=>?_,fun i F H x H' hi g h y=>?_,fun F H g h=>?_⟩
 ·obtain⟨vs,h1,h2⟩:=key F H g h
  obtain⟨d,v,_,h4,_⟩:=xf h2 s hi
  exact⟨vs,v,h1,h4⟩
 ·obtain⟨rfl,y⟩:=y
  obtain⟨vs,h1,h2⟩:=key F _ g h
  obtain⟨d,v,h3,h4,h5⟩:=xf h2 s hi
  have:=y vs h1
  rw [h4] at this;cases this
  exact⟨d,h3,fun γ st=>⟨F,st,h5⟩⟩
 ·obtain⟨vs,h1,h2⟩:=key F H g h
  exact⟨vs,h1,UI h2.len⟩
theorem zhJ {u:AT}{p:Addr}{ds:List T}(hp:val u=.ref p)(s:shrs ds=true)(e:tpO (era u)=some ds):ItOk W (Itt W.K p) [u] ds:=by
 have key:∀ F H,Same F H->OKs W F H [u]->∃ vs,SqT W.K H p vs/\Sq W F H ds vs:=fun F H g h=>by
  obtain⟨p',vs,h1,h2,h3,_⟩:=Zj g h.1 e
  rw [hp] at h1;cases h1
  exact⟨vs,h2,h3⟩
 refine⟨s,fun i F H hi g h=>?_,fun i F H x H' hi g h y=>?_,fun F H g h=>?_⟩
 ·obtain⟨vs,h1,h2⟩:=key F H g h
  obtain⟨d,v,_,h4,_⟩:=xf h2 s hi
  exact⟨vs,v,h1,h4⟩
 ·obtain⟨rfl,y⟩:=y
  obtain⟨vs,h1,h2⟩:=key F _ g h
  obtain⟨d,v,h3,h4,h5⟩:=xf h2 s hi
  have:=y vs h1
  rw [h4] at this;cases this
  exact⟨d,h3,fun γ st=>⟨F,st,h5⟩⟩
 ·obtain⟨vs,h1,h2⟩:=key F H g h
  exact⟨vs,h1,UI h2.len⟩
theorem signs_at {l:Lc}{i:Nat}(hi:i<(signs l).length):∃ c,l[i]? = some c/\(signs l)[i]? = some (.str [c]):=by
 unfold signs at hi ⊢
 rw [ug] at hi
 exact⟨l[i],um hi,by rw [uv,um hi];rfl⟩
theorem zfT {u:List AT}{l:Lc}:ItOk W (Its (S l)) u (signs l):=by
 refine⟨(IsVs.signs (W:=W) (F:=fun _=>none)).2,fun i F H hi g h=>?_,fun i F H x H' hi g h y=>?_,fun F H g h=>?_⟩
 ·unfold signs at hi;rw [ug] at hi;exact(by simpa [Its,S] using hi)
 ·obtain⟨rfl,c,ec,rfl⟩:=y
  obtain⟨c',h1,h2⟩:=signs_at hi
  have ec:l[i]? = some c:=by simpa [S] using ec
  rw [ec] at h1;cases h1
  exact⟨_,h2,fun γ st=>⟨F,st,rfl,by simp⟩⟩
 ·unfold signs;rw [ug];exact(by simp [Its,S])
theorem zbe {n:Nat}{f:Nat->Int}:shrs ((List.range n).map fun k=>T.int (f k))=true:=zK.mpr fun t ht=>by
 obtain⟨k,_,rfl⟩:=Ur.mp ht;rfl
theorem zbf {u:List AT}{lo:Int}{n:Nat}:ItOk W (Itr lo n) u ((List.range n).map fun(k:Nat)=>.int (lo+(k:Int))):=by
 refine⟨zbe,fun i F H hi g _=>?_,fun i F H x H' hi g _ y=>?_,fun F H g _=>?_⟩
 ·simpa [Itr] using hi
 ·obtain⟨rfl,rfl⟩:=y
  have hi':i<n:=by simpa using hi
  exact⟨.int (lo+i),by simp [hi'],fun γ st=>⟨F,st,rfl⟩⟩
 ·simp [Itr]
theorem jP:∀ (ds:List T) (n:Nat),(vm n ds).length=ds.length
 | [],_=>rfl
 | _::ds,n=>by simp only [vm,ua,jP ds]
theorem Qs:∀ (ds:List T) (n i:Nat),(vm n ds)[i]? = (ds[i]?).map fun d=>.tp [.int ((n+i:Nat):Int),d]
 | [],_,_=>rfl
 | d::ds,n,0=>rfl
 | d::ds,n,i+1=>by
  simp only [vm,U8]
  rw [Qs ds (n+1) i,show n+1+i=n+(i+1) by lia]
theorem Qt:∀ {ds:List T} {n:Nat},shrs ds=true->shrs (vm n ds)=true
 | [],_,_=>rfl
 | d::ds,n,h=>by
  obtain⟨h1,h2⟩:=uV.mp h
  exact uV.mpr ⟨by show(true&&(shr d&&true))=true;rw [h1];rfl,Qt h2⟩
theorem Wb {p:Addr}{a b:T}{va vb:V}(st:St W F H γ)(hp:H p=none)(ha:IsV W F a va)(hb:IsV W F b vb):∃ F',St W F' (upd H p (.tup [va,vb])) γ/\IsV W F' (.tp [a,b]) (.ref p):=by
 have g:=xq (o:=HO.tup [va,vb]) (yq st.fh hp)
 exact⟨_,st.allocF hp,p,_,rfl,jz,_,_,rfl,ha.mono g,_,_,rfl,hb.mono g,rfl⟩
theorem zbg {u:AT}{p:Addr}{ds:List T}(hp:val u=.ref p)(s:shrs ds=true)(e:lsO (era u)=some ds):ItOk W (Ite (goL W.K p) (yvL W.K p) (stL0 W.K p)) [u] (vm 0 ds):=by
 have key:∀ F H,Same F H->OKs W F H [u]->∃ vs,SqL W.K H p vs/\Sq W F H ds vs:=fun F H g h=>by
  obtain⟨p',vs,h1,h2,h3⟩:=wH g h.1 e
  rw [hp] at h1;cases h1
  exact⟨vs,h2,h3⟩
 refine⟨Qt s,fun i F H hi g h=>?_,fun i F H x H' hi g h y=>?_,fun F H g h=>?_⟩
 ·rw [jP] at hi
  obtain⟨vs,h1,h2⟩:=key F H g h
  obtain⟨d,v,_,h4,_⟩:=xf h2 s hi
  exact⟨vs,v,h1,h4⟩
 ·rw [jP] at hi
  obtain⟨p',v,hp',y,rfl,rfl⟩:=y
  obtain⟨vs,h1,h2⟩:=key F _ g h
  obtain⟨d,w,h3,h4,h5⟩:=xf h2 s hi
  have:=y vs h1
  rw [h4] at this;cases this
  exact⟨_,by rw [Qs,h3,Us];rfl,fun γ st=>Wb st hp' (a:=.int i) rfl h5⟩
 ·obtain⟨vs,h1,h2⟩:=key F H g h
  exact⟨vs,h1,by rw [h2.len,jP]⟩
theorem zbh {u:List AT}{l:Lc}:ItOk W (Ite (goS (S l)) (yvS (S l)) (stS (S l))) u (vm 0 (signs l)):=by
 refine⟨Qt (IsVs.signs (W:=W) (F:=fun _=>none)).2,fun i F H hi g _=>?_,fun i F H x H' hi g _ y=>?_,fun F H g _=>?_⟩
 ·rw [jP] at hi;unfold signs at hi;rw [ug] at hi;exact(by simpa [Ite,goS,S] using hi)
 ·rw [jP] at hi
  obtain⟨p',v,hp,⟨c,ec,rfl⟩,rfl,rfl⟩:=y
  obtain⟨c',h1,h2⟩:=signs_at hi
  have ec:l[i]? = some c:=by simpa [S] using ec
  rw [ec] at h1;cases h1
  exact⟨_,by rw [Qs,h2,Us];rfl,fun γ st=>Wb st hp (a:=.int i) (b:=.str [c]) rfl ⟨rfl,by simp⟩⟩
 ·rw [jP];unfold signs;rw [ug];exact(by simp [Ite,stS,S])
theorem Qu {ds:List T}(s:shrs ds=true):shrs ds.reverse=true:=yV s fun y hy=>List.mem_reverse.mp hy
theorem zc6 {u:AT}{p:Addr}{ds:List T}{n:Nat}(hp:val u=.ref p)(s:shrs ds=true)(e:lsO (era u)=some ds)(hn:n=ds.length):ItOk W (ItRL W.K p n) [u] ds.reverse:=by
 have key:∀ F H,Same F H->OKs W F H [u]->∃ vs,SqL W.K H p vs/\Sq W F H ds vs:=fun F H g h=>by
  obtain⟨p',vs,h1,h2,h3⟩:=wH g h.1 e
  rw [hp] at h1;cases h1
  exact⟨vs,h2,h3⟩
 subst hn
 have at_:∀ {F H vs i},Sq W F H ds vs->i<ds.reverse.length->∃ d v,ds.reverse[i]? = some d/\vs.reverse[i]? = some v/\IsV W F d v:=fun {F H vs i} q hi=>by
  obtain⟨v,h1,h2⟩:=(q.sh s).rev.get (um hi)
  exact⟨_,v,um hi,h1,h2⟩
 refine⟨Qu s,fun i F H hi g h=>?_,fun i F H x H' hi g h y=>?_,fun F H g h=>by show _=_;rw [UC]⟩
 ·obtain⟨vs,h1,h2⟩:=key F H g h
  obtain⟨d,v,_,h4,_⟩:=at_ h2 hi
  exact⟨vs,v,h1,h2.len,h4⟩
 ·obtain⟨rfl,y⟩:=y
  obtain⟨vs,h1,h2⟩:=key F _ g h
  obtain⟨d,v,h3,h4,h5⟩:=at_ h2 hi
  have:=y vs h1
  rw [h4] at this;cases this
  exact⟨d,h3,fun γ st=>⟨F,st,h5⟩⟩
theorem zc7 {u:AT}{p:Addr}{ds:List T}{n:Nat}(hp:val u=.ref p)(s:shrs ds=true)(e:tpO (era u)=some ds)(hn:n=ds.length):ItOk W (ItRT W.K p n) [u] ds.reverse:=by
 have key:∀ F H,Same F H->OKs W F H [u]->∃ vs,SqT W.K H p vs/\Sq W F H ds vs:=fun F H g h=>by
  obtain⟨p',vs,h1,h2,h3,_⟩:=Zj g h.1 e
  rw [hp] at h1;cases h1
  exact⟨vs,h2,h3⟩
 subst hn
 have at_:∀ {F H vs i},Sq W F H ds vs->i<ds.reverse.length->∃ d v,ds.reverse[i]? = some d/\vs.reverse[i]? = some v/\IsV W F d v:=fun {F H vs i} q hi=>by
  obtain⟨v,h1,h2⟩:=(q.sh s).rev.get (um hi)
  exact⟨_,v,um hi,h1,h2⟩
 refine⟨Qu s,fun i F H hi g h=>?_,fun i F H x H' hi g h y=>?_,fun F H g h=>by show _=_;rw [UC]⟩
 ·obtain⟨vs,h1,h2⟩:=key F H g h
  obtain⟨d,v,_,h4,_⟩:=at_ h2 hi
  exact⟨vs,v,h1,h2.len,h4⟩
 ·obtain⟨rfl,y⟩:=y
  obtain⟨vs,h1,h2⟩:=key F _ g h
  obtain⟨d,v,h3,h4,h5⟩:=at_ h2 hi
  have:=y vs h1
  rw [h4] at this;cases this
  exact⟨d,h3,fun γ st=>⟨F,st,h5⟩⟩
theorem zfU {u w:AT}{p q:Addr}{xs ys:List T}(hp:val u=.ref p)(hq:val w=.ref q)(s1:shrs xs=true)(s2:shrs ys=true)(e1:lsO (era u)=some xs)(e2:lsO (era w)=some ys):ItOk W (Itz W.K p q) [u,w] ((xs.zip ys).map fun p=>.tp [p.1,p.2]):=by
 have key:∀ F H,Same F H->OKs W F H [u,w]->∃ vs us,SqL W.K H p vs/\Sq W F H xs vs/\SqL W.K H q us/\Sq W F H ys us:=fun F H g h=>by
  obtain⟨p',vs,h1,h2,h3⟩:=wH g h.1 e1
  rw [hp] at h1;cases h1
  obtain⟨p',us,h4,h5,h6⟩:=wH g h.2.1 e2
  rw [hq] at h4;cases h4
  exact⟨vs,us,h2,h3,h5,h6⟩
 have lt:∀ i,i<((xs.zip ys).map fun p=>T.tp [p.1,p.2]).length->i<xs.length/\i<ys.length:=fun i hi=>by
  rw [ug,List.length_zip] at hi;lia
 refine⟨zK.mpr fun t ht=>?_,fun i F H hi g h=>?_,fun i F H x H' hi g h y=>?_,fun F H g h=>?_⟩
 ·obtain⟨⟨a,b⟩,h1,rfl⟩:=Ur.mp ht
  obtain⟨h2,h3⟩:=UR h1
  show(shr a&&(shr b&&true))=true
  rw [zK.mp s1 a h2,zK.mp s2 b h3];rfl
 ·obtain⟨l1,l2⟩:=lt i hi
  obtain⟨vs,us,h1,h2,h3,h4⟩:=key F H g h
  obtain⟨_,v,_,k1,_⟩:=xf h2 s1 l1
  obtain⟨_,v',_,k2,_⟩:=xf h4 s2 l2
  exact⟨vs,us,v,v',h1,h3,k1,k2⟩
 ·obtain⟨l1,l2⟩:=lt i hi
  obtain⟨p',a,b,hp',y1,y2,rfl,rfl⟩:=y
  obtain⟨vs,us,h1,h2,h3,h4⟩:=key F _ g h
  obtain⟨d,v,c1,k1,k2⟩:=xf h2 s1 l1
  obtain⟨d',v',c2,k3,k4⟩:=xf h4 s2 l2
  have:=y1 vs h1
  rw [k1] at this;cases this
  have:=y2 us h3
  rw [k3] at this;cases this
  exact⟨.tp [d,d'],by rw [uv,(List.getElem?_zip_eq_some (z:=(d,d'))).mpr ⟨c1,c2⟩];rfl,fun γ st=>Wb st hp' k2 k4⟩
 ·obtain⟨vs,us,h1,h2,h3,h4⟩:=key F H g h
  exact⟨vs,us,h1,h3,by rw [ug,List.length_zip,h2.len,h4.len];lia⟩
def Xg (o:Option T)(us:List AT)(vs vs':List V):Prop:=(o=none/\vs' = vs)\/∃ u,o=some (era u)/\us=[u]/\vs' = val u::vs
theorem Rep.dropG {us:List AT}(R:Rep W F H s τ σ vs (us++γ)):Rep W F H s τ σ vs γ:=by
 obtain⟨Γ,st,back⟩:=R.all
 rw [uc] at st
 exact back st.right
theorem Rep.lend {i:Nat}{p:Lc}{v:V}{t:T}{s' τ':Sl}(R:Rep W F H s (.al i p::τ) σ (v::vs) γ)(e:getP s i p=some t)(e2:putSt s τ i p .any=some (s',τ')):∃ u,era u=t/\val u=v/\Rep W F H s' (.al i p::τ') σ (v::vs) (u::γ):=by
 obtain⟨as,bs,R⟩:=R
 obtain⟨u,bs',rfl,hu,et,ev,st,_⟩:=R.place e
 obtain⟨_,bs2,e0,_,_,R'⟩:=R.uncons
 cases e0
 obtain⟨m1,m2⟩:=kN (w:=hole u) R'.ls R'.ts hu rfl e2
 refine⟨u,et,ev,setS i p as (hole u),nilA::bs',?_,m1,_,_,_,_,rfl,rfl,⟨rfl,hole u,(vq hu).1,by rw [← ev];rfl⟩,m2⟩
 exact(st.perm pm3).nil.perm xt
theorem Rep.unlend {o:Option T}{us:List AT}{vs':List V}{s' τ':Sl}(R:Rep W F H s τ σ vs' (us++γ))(l:Xg o us vs vs')(e:unS o s τ=some (s',τ')):Rep W F H s' τ' σ vs γ:=by
 rcases l with⟨rfl,rfl⟩ | ⟨u,rfl,rfl,rfl⟩
 ·cases e;exact R.dropG
 ·match τ,e with
  | .no::τ1,e=>cases e;exact R.pop.dropG
  | .al i p::τ1,e=>
   obtain⟨t,e1,e⟩:=za e
   obtain⟨_,e2,e⟩:=za e
   obtain⟨as,bs,R⟩:=R
   obtain⟨u0,bs',rfl,hu,et,ev,st,back⟩:=R.place e1
   have st2:St W F H (u::(setS i p as (hole u0)++(bs'++γ))):=st.tail.perm pm3.symm
   exact back st2 rfl e
theorem zfV {k:IK}{n:Nat}{us:List V}{ds:List T}{o:Option T}{s' τ':Sl}(R:Rep W F H s τ σ (us.reverse++vs) γ)(hl:us.length=n)(e:itS k n s τ=some ((ds,o),(s',τ'))):∃ cs vs',vals cs=us/\itF k (eras cs)=some ds/\OKs W F H cs/\Xg o cs vs vs'/\Rep W F H s' τ' σ vs' (cs++γ):=by
 have own:∀ {r ds'},popO n τ []=some r->itF k r.1=some ds'->((ds',none),(s,r.2))=((ds,o),(s',τ'))->∃ cs vs',vals cs=us/\itF k (eras cs)=some ds/\OKs W F H cs/\Xg o cs vs vs'/\Rep W F H s' τ' σ vs' (cs++γ):=fun {r ds'} e1 e2 e3=>by
  obtain⟨ts,τ2⟩:=r
  cases e3
  obtain⟨cs,rfl,h2,R2⟩:=vR R e1 hl
  obtain⟨Γ,st,_⟩:=R2.all
  rw [uc] at st
  exact⟨cs,vs,h2,e2,st.left,.inl ⟨rfl,rfl⟩,R2⟩
 unfold itS at e
 split at e
 ·rename_i i p τ1
  obtain⟨t,e1,e⟩:=za e
  obtain⟨ds',e2,e⟩:=za e
  obtain⟨q,e3,e⟩:=za e
  cases e
  match us,hl with
  | [v],_=>
   obtain⟨u,rfl,rfl,R2⟩:=Rep.lend (vs:=vs) R e1 e3
   obtain⟨Γ,st,_⟩:=R2.all
   exact⟨[u],_,rfl,e2,⟨st.ok.1,trivial⟩,.inr ⟨u,rfl,rfl,rfl⟩,R2⟩
 ·obtain⟨r,e1,e⟩:=za e
  obtain⟨ds',e2,e⟩:=za e
  exact own e1 e2 (uG e)
noncomputable def I5 (W:Wd)(E:XS)(k:IK)(its:List Xp):TI:=fun σ H R=>∃ F s τ vs γ K X4,Rep W F H s τ σ vs γ/\WEs its s τ (fun s1 τ1=>bndI (itS k its.length s1 τ1) K) X4 /\
 (∀ ds o s' τ' F' H' J us vs',ItOk W J us ds->Xg o us vs vs'->Rep W F' H' s' τ' σ vs' (us++γ)->K ds o s' τ'->R J H')/\XK W E σ vs γ X4
def itR (W:Wd)(k:IK)(us:List V)(H:Hp)(R:It->Hp->Prop):Prop:=∃ F cs ds,Same F H/\vals cs=us/\itF k (eras cs)=some ds/\OKs W F H cs/\∀ J,ItOk W J cs ds->R J H
theorem Zn {k:IK}{its:List Xp}{R:It->Hp->Prop}(h:I5 W E k its σ H R):A5 W E its σ H fun us H'=>itR W k us H' R:=by
 obtain⟨F,s,τ,vs,γ,K,X4,R0,h,q,x⟩:=h
 refine⟨F,s,τ,vs,γ,_,X4,R0,h,fun F' H' s' τ' us hl R' h'=>?_,x⟩
 obtain⟨ds,o,s2,τ2,e,h'⟩:=zcT h'
 obtain⟨cs,vs',h1,h2,h3,h4,R2⟩:=zfV R' hl e
 exact⟨F',cs,ds,R2.fh,h1,h2,h3,fun J it=>q ds o s2 τ2 F' H' J cs vs' it h4 R2 h'⟩
section
variable {R:It->Hp->Prop}
theorem it1 {k:IK}{v:V}(h:itR W k [v] H R):∃ F c ds,Same F H/\val c=v/\itF k [era c]=some ds/\OK W F H c/\∀ J,ItOk W J [c] ds->R J H:=by
 obtain⟨F,cs,ds,g,h1,h2,h3,h4⟩:=h
 match cs,h1 with
 | [c],h1=>cases h1;exact⟨F,c,ds,g,rfl,h2,h3.1,h4⟩
theorem it2 {k:IK}{v w:V}(h:itR W k [v,w] H R):∃ F c d ds,Same F H/\val c=v/\val d=w/\itF k [era c,era d]=some ds/\OK W F H c/\OK W F H d/\∀ J,ItOk W J [c,d] ds->R J H:=by
 obtain⟨F,cs,ds,g,h1,h2,h3,h4⟩:=h
 match cs,h1 with
 | [c,d],h1=>cases h1;exact⟨F,c,d,ds,g,rfl,rfl,h2,h3.1,h3.2.1,h4⟩
theorem zc8 {v:V}(h:itR W .seq [v] H R):(∃ a,v=.ref a/\(∃ xs,SqL W.K H a xs)/\R (Itl W.K a) H)\/(∃ z,v=.str z/\R (Its z) H)\/∃ a,v=.ref a/\(∃ xs,SqT W.K H a xs)/\R (Itt W.K a) H:=by
 obtain⟨F,c,ds,g,rfl,e,hc,q⟩:=it1 h
 rcases zI e with e | e
 ·obtain⟨l,e1,e⟩:=za e
  cases e
  exact .inr (.inl ⟨_,(qo hc (zS e1)).1,q _ zfT⟩)
 ·obtain⟨e,s⟩:=xc e
  rcases zaW e with e | e
  ·obtain⟨p,us,h1,h2,_⟩:=wH g hc e
   exact .inl ⟨p,h1,⟨us,h2⟩,q _ (zhI h1 s e)⟩
  ·obtain⟨p,us,h1,h2,_⟩:=Zj g hc e
   exact .inr (.inr ⟨p,h1,⟨us,h2⟩,q _ (zhJ h1 s e)⟩)
theorem zbi {v:V}(h:itR W .rng [v] H R):∃ j:Int,[v]=[.int j]/\-(2 ^ 62)<=j/\j<2 ^ 62/\R (Itr 0 j.toNat) H:=by
 obtain⟨F,c,ds,g,rfl,e,hc,q⟩:=it1 h
 obtain⟨j,e1,e⟩:=za e
 obtain⟨hb,rfl⟩:=zW e
 have:=zbf (W:=W) (u:=[c]) (lo:=0) (n:=j.toNat)
 simp only [Int.zero_add] at this
 exact⟨j,by rw [zx hc e1],hb.1,hb.2,q _ this⟩
theorem zbj {v w:V}(h:itR W .rng [v,w] H R):∃ i j:Int,[v,w]=[.int i,.int j]/\(-(2 ^ 62)<=i/\i<2 ^ 62/\-(2 ^ 62)<=j/\j<2 ^ 62)/\R (Itr i (j - i).toNat) H:=by
 obtain⟨F,c,d,ds,g,rfl,rfl,e,hc,hd,q⟩:=it2 h
 obtain⟨i,j,e1,e2,e⟩:=zy e
 obtain⟨hb,rfl⟩:=zW e
 exact⟨i,j,by rw [zx hc e1,zx hd e2],⟨hb.1.1,hb.1.2,hb.2.1,hb.2.2⟩,q _ zbf⟩
theorem Kv {v:V}(h:itR W .enumL [v] H R):∃ l xs,[v]=[.ref l]/\SqL W.K H l xs/\R (Ite (goL W.K l) (yvL W.K l) (stL0 W.K l)) H:=by
 obtain⟨F,c,ds,g,rfl,e,hc,q⟩:=it1 h
 obtain⟨xs,e1,e⟩:=za e
 cases e
 obtain⟨e1,s⟩:=xc e1
 obtain⟨p,us,h1,h2,_⟩:=wH g hc e1
 exact⟨p,us,by rw [h1],h2,q _ (zbg h1 s e1)⟩
theorem Kw {v:V}(h:itR W .enumS [v] H R):∃ z,[v]=[.str z]/\R (Ite (goS z) (yvS z) (stS z)) H:=by
 obtain⟨F,c,ds,g,rfl,e,hc,q⟩:=it1 h
 obtain⟨l,e1,e⟩:=za e
 cases e
 exact⟨_,by rw [(qo hc (zS e1)).1],q _ zbh⟩
theorem zbk {v:V}(h:itR W .rvdL [v] H R):∃ l xs,[v]=[.ref l]/\SqL W.K H l xs/\R (ItRL W.K l xs.length) H:=by
 obtain⟨F,c,ds,g,rfl,e,hc,q⟩:=it1 h
 obtain⟨xs,e1,e⟩:=za e
 cases e
 obtain⟨e1,s⟩:=xc e1
 obtain⟨p,us,h1,h2,h3⟩:=wH g hc e1
 exact⟨p,us,by rw [h1],h2,q _ (zc6 h1 s e1 h3.len)⟩
theorem zbl {v:V}(h:itR W .rvdT [v] H R):∃ l xs,[v]=[.ref l]/\SqT W.K H l xs/\R (ItRT W.K l xs.length) H:=by
 obtain⟨F,c,ds,g,rfl,e,hc,q⟩:=it1 h
 obtain⟨xs,e1,e⟩:=za e
 cases e
 obtain⟨e1,s⟩:=xc e1
 obtain⟨p,us,h1,h2,h3,_⟩:=Zj g hc e1
 exact⟨p,us,by rw [h1],h2,q _ (zc7 h1 s e1 h3.len)⟩
theorem zc9 {v w:V}(h:itR W .zip [v,w] H R):∃ l1 l2,[v,w]=[.ref l1,.ref l2]/\(∃ xs,SqL W.K H l1 xs)/\(∃ ys,SqL W.K H l2 ys)/\R (Itz W.K l1 l2) H:=by
 obtain⟨F,c,d,ds,g,rfl,rfl,e,hc,hd,q⟩:=it2 h
 obtain⟨xs,ys,e1,e2,e⟩:=zy e
 cases e
 obtain⟨e1,s1⟩:=xc e1
 obtain⟨e2,s2⟩:=xc e2
 obtain⟨p,us,h1,h2,_⟩:=wH g hc e1
 obtain⟨p',us',h3,h4,_⟩:=wH g hd e2
 exact⟨p,p',by rw [h1,h3],⟨us,h2⟩,⟨us',h4⟩,q _ (zfU h1 h3 s1 s2 e1 e2)⟩
end
end L5
namespace L5
open PySem L2 PySem.Spec PyProof.Rows
def lcB (bnd:V->Hp->(List V->Prop)->Prop)(J:It)(tt:TT)(te:TE)(σ:L2.St)(H1:Hp)(Q:VK):Prop:=∀ D,H1 D=none->∃ I:Nat->Nat->List V->Hp->Prop,(∃ m,I 0 m [] (upd H1 D (.lst [])))/\∀ i m ys H',I i m ys H'->H' D=some (.lst ys) /\
 ((J.stop i H'/\Q (.ref D) H')\/(J.go i H'/\∀ v H2,J.yld i H' v H2->bnd v H2 fun us=>tt (us.map some++σ) H2 fun b H3=>
  if b=true then te (us.map some++σ) H3 fun y H4=>H4 D=some (.lst ys)/\ys.length<sizeLine/\∃ m',m' < m/\I (i+1) m' (ys++[y]) (upd H4 D (.lst (ys++[y]))) else ∃ m',m' < m/\I (i+1) m' ys H3))
end L5
namespace L2
open PySem PySem.Spec PyProof.Rows
noncomputable def renL (xs:Lh)(y:Str):Str:=if y∈xs then Str.ofString "" else y
structure vt (X:Cx)(xs:Lh)(scope:Scope):Prop where
 nd:(xs++X.N.map (renL xs)).Nodup
 kind:scope.kind=.function
 cell:∀ y∈scope.names,y.2≠.cell
 names:∀ y∈scope.names,y.2=.local->scope.names.lookup y.1=some .local
 var:∀ x∈xs,scope.names.lookup x=some .local
 free:∀ y∈scope.names,y.2=.free->X.env.kindOf y.1=some .cell
 out:∀ y∈X.N.map (renL xs),scope.names.lookup y≠some .local
 blank:scope.names.lookup (Str.ofString "")=none
 calm:X.calm=true
noncomputable def blkG (X:Cx)(xs:Lh)(scope:Scope)(cl:List (Str×Addr))(C:Addr)(s3:Shared)(H3:Hp)(fp:Ld):Cx:=
 { X with N:=xs++X.N.map (renL xs),s₀:=s3,H₀:=H3,env:=compEnvC scope cl C X.env,outer:=X.stack,ex:=fp,fn:=fun _=>false,pn:=[],xe:=fun _ _=>False }
section
variable {X:Cx} {elt iter tg:Expr} {xs:Lh} {pos:Pos} {ifs:Lg} {scope:Scope} {wi:TI} {tt:TT} {te:TE} {g:TG} {bnd:V->Hp->(List V->Prop)->Prop}
theorem Xh {pins:List (Addr×Obj)}{σ:St}{H:Hp}{s:Shared}{E:Value->Shared->Prop}{Q:Value->Shared->Prop}{use:Option (Value->Sem Unit)}{QV:VK}(L:vt X xs scope)(I:Inv X pins σ H s)
  (hi:wpAny (model X.prog X.w) X.A (eval iter X.env) (fun v s1=>wpAny (model X.prog X.w) X.A (pyIter v) (PIE X pins σ (tg) (fun J H1=>∀ D,H1 D=none->∃ W:Nat->Nat->List V->Hp->Prop,(∃ m,W 0 m [] (upd H1 D (.lst [])))/\∀ i m ys H',W i m ys H'->H' D=some (.lst ys) /\
 ((J.stop i H'/\QV (.ref D) H')\/(J.go i H'/\∀ v H2,J.yld i H' v H2->bnd v H2 fun us=>tt (us.map some++σ) H2 fun b H3=>
  if b=true then te (us.map some++σ) H3 fun y H4=>H4 D=some (.lst ys)/\ys.length<sizeLine/\∃ m',m' < m/\W (i+1) m' (ys++[y]) (upd H4 D (.lst (ys++[y]))) else ∃ m',m' < m/\W (i+1) m' ys H3)))) E s1) E s)
  (ht:∀ cl C s3 H3 fp,PTs (blkG X xs scope cl C s3 H3 fp) ifs tt) (he:∀ cl C s3 H3 fp,PE (blkG X xs scope cl C s3 H3 fp) elt te)
  (hg:∀ cl C s3 H3 fp,PG (blkG X xs scope cl C s3 H3 fp) tg g) (hb:∀ v H (os:St) (K:List V->Prop),os.length=xs.length->bnd v H K->g v (os++σ) H fun σ' H'=>∃ us,us.length=xs.length/\σ' = us.map some++σ/\H' = H/\K us)
  (hs:∀ x,foldedSetIterable iter X.env x=pure x)
  (fin:∀ (D C:Addr) (H':Hp) (s':Shared) (m:La),Inv X pins σ H' s'->FpOk X pins H' C->s'.heap.Ns C m->QV (.ref D) H'->compPost (model X.prog X.w) X.A E use Q (.ref D) C (.ok .next) s') :
  wpAny (model X.prog X.w) X.A (comprehension (.ListComp elt [⟨tg,iter,ifs,0⟩] scope pos) scope X.env (firstIterPos [⟨tg,iter,ifs,0⟩] pos) (newList []) false (eval iter X.env) use) Q E s:=by
 obtain⟨cl,hcl,cl1,cl2⟩:=Vb (env:=X.env) (scope:=scope) (fun y hy hf=>I.ok.has y.1 (.inl (L.free y hy hf)))
 refine wpAny_comprehension_free (use:=use) rfl hs hcl L.kind L.names (wpAny_mono hi (fun xv s₁ h₁=>wpAny_mono h₁ (fun it s2 h₂=>?_) fun _ _ e=>e) fun _ _ e=>e)
 obtain⟨it,fp,tn,J,H2,rfl,I2,T,st2,f2,hW⟩:=h₂
 have fr2:H2 s2.heap.objs.size=none:=I2.hok.fresh (uf _)
 obtain⟨W,⟨m0,w0⟩,turn⟩:=hW _ fr2
 refine wpAny_newObj_type ?_
 have I3:Inv X pins σ (upd H2 s2.heap.objs.size (.lst [])) { s2 with heap:=s2.heap.push { cls:=.type "list",dict:=none,data:=.seq ([]:Lf).toArray } }:=
  I2.laid (t':=s2.toks) (o:=.lst []) (fun b ob q=>Heap.get?_push_of_some _ q) (uf _) ⟨uF _,[],0,.nil,Heap.get?_push_size _ rfl⟩
 generalize hD:s2.heap.objs.size=D at I3 turn w0 fr2 ⊢
 generalize hH3:upd H2 D (.lst [])=H3 at I3 w0
 generalize hs3:({ s2 with heap:=s2.heap.push { cls:=.type "list",dict:=none,data:=.seq ([]:Lf).toArray } }:Shared)=s3 at I3 ⊢
 have k23:∀ b o,s2.heap.get? b=some o->s3.heap.get? b=some o:=fun b o e=>by rw [← hs3];exact Heap.get?_push_of_some _ e
 have os3:s3.os=s2.os:=by rw [← hs3]
 have fpD:∀ b∈fp,b≠D:=fun b hb z=>by
  obtain⟨o,e,_⟩:=T.obj _ _ st2 b hb
  exact absurd (Heap.lt_size e) (by rw [z,← hD];exact u4 _)
 have f3:∀ b∈fp,FpOk X pins H3 b:=fun b hb=>⟨by rw [← hH3,zP (fpD b hb)];exact(f2 b hb).1,(f2 b hb).2⟩
 have st3:tn 0 s3.heap:=T.keep _ _ _ st2 fun b hb o e=>k23 b o e
 refine wpAny_newFunctionEnv L.cell (fun y hy=>by simp at hy) (fun h₁ hns₁ hsb₁=>?_) L.kind
 generalize hC:s3.heap.objs.size=C at hns₁ hsb₁ ⊢
 have k34:∀ b o,s3.heap.get? b=some o->h₁.get? b=some o:=fun b o e=>hsb₁.extBut b o (by rintro rfl;exact absurd (Heap.lt_size e) (by rw [hC];exact u4 _)) (Heap.get?_push_of_some _ e)
 let X':Cx:=blkG X xs scope cl C s3 H3 fp
 have relab:∀ y,X'.env.scope.names.lookup y=(scope.names.lookup y).map fun k=>if (k == NameKind.free&&X.env.scope.kind == .function&&X.env.kindOf y == some .cell) then NameKind.cell else k:=fun y=>wD y scope.names
 have visC:∀ y,(X'.env.kindOf y=some .cell\/X'.env.kindOf y=some .free)->scope.names.lookup y=some .free:=fun y hy=>by
  have e:=relab y
  have hy:X'.env.scope.names.lookup y=some .cell\/X'.env.scope.names.lookup y=some .free:=hy
  rw [e] at hy
  cases q:scope.names.lookup y with
  | none=>rw [q] at hy;simp at hy
  | some k=>
   rw [q] at hy
   simp only [Ut,gJ] at hy
   by_cases hf:k=.free
   ·rw [hf]
   ·have hb:(k == NameKind.free)=false:=by simpa using hf
    simp only [hb,gq,gC,UP] at hy
    rcases hy with rfl | rfl
    ·exact absurd rfl (L.cell _ (u3 q))
    ·exact absurd rfl hf
 have okX':X'.Ok:=by
  refine⟨I3.ok.mod,?_,I3.ok.glob,I3.ok.blt,?_,?_,?_,?_,I3.ok.hd,I3.ok.frames,.inl rfl,?_,?_,?_,?_,?_,?_,?_⟩
  ·show(relabel scope X.env).kind=.function
   exact L.kind
  ·show s3.heap.objs.size<=C
   exact UI hC
  ·exact fun a b c h1 h2=>I3.ok.inj a b c (cl1 a c h1) (cl1 b c h2)
  ·exact fun y hy=>cl2 (y,.free) (u3 (visC y hy)) rfl
  ·exact fun y c hf=>by cases hf
  ·refine fun b hb=>⟨?_,fun y c e z=>(f3 b hb).2.2.2.2.1 y c (cl1 y c e) z⟩
   show b≠C
   intro z
   obtain⟨o,e,_⟩:=T.obj _ _ st3 b hb
   exact absurd (Heap.lt_size e) (by rw [z,← hC];exact u4 _)
  ·exact fun b o e=>I3.bs b o e
  ·exact uN I3.ok.bsz I3.sz
  ·intro b o e hb
   rcases(f3 b hb).2.2.2.1 with z | z
   ·exact I3.ok.noex b o e z
   ·exact absurd (uE (Heap.lt_size e) (uN I3.ok.bsz z)) (u4 _)
  ·intro b hb z
   rcases uh.mp (I3.stkSub b z) with e | e
   ·exact(f3 b hb).2.1 e
   ·exact(f3 b hb).2.2.1 e
  ·exact I3.stack
  ·exact I3.stkFree
 have hfreeC:H3 C=none:=I3.hok.fresh (UI hC)
 have I4:Inv X' [] (List.replicate xs.length none++σ) H3 { s3 with heap:=h₁,toks:=s3.toks+([]:List (Str×Value)).length }:=by
  refine⟨okX',rfl,I3.bare,Un.kept k34,⟨_,hns₁,?_⟩,?_,hfreeC,?_,fun p hp=>absurd (show p∈([]:List (Addr×Obj)) from hp) (by simp),I3.hok.kept k34,?_⟩
  ·intro i y v e1 e2 e3
   rcases Nat.lt_or_ge i xs.length with hlt | hge
   ·rw [Ui (by rw [Uh];exact hlt),g9,uA hlt] at e2
    cases e2
   ·obtain⟨j,rfl⟩:∃ j,i=xs.length+j:=⟨i - xs.length,by lia⟩
    have e1:(X.N.map (renL xs))[j]? = some y:=by
     have z:(xs++X.N.map (renL xs))[xs.length+j]? = some y:=e1
     rwa [uL (by lia),U9] at z
    have e2:σ[j]? = some (some v):=by
     rwa [uL (by rw [Uh];lia),Uh,U9] at e2
    have hyN:y∈X.N.map (renL xs):=uH e1
    have hfr:scope.names.lookup y=some .free:=by
     rcases e3 with e3 | e3 | e3
     ·rw [relab y] at e3
      cases q:scope.names.lookup y with
      | none=>rw [q] at e3;simp at e3
      | some k=>
       rw [q] at e3
       simp only [Ut,gJ] at e3
       by_cases hf:k=.free
       ·rw [hf]
       ·have hb:(k == NameKind.free)=false:=by simpa using hf
        simp only [hb,gq,gC,UP] at e3
        exact absurd (by rw [q,e3]) (L.out y hyN)
     ·exact visC y (.inl e3)
     ·exact visC y (.inr e3)
    have e1:X.N[j]? = some y:=by
     rw [uv] at e1
     cases q0:X.N[j]? with
     | none=>rw [q0] at e1;cases e1
     | some y0=>
      rw [q0] at e1
      have e1:renL xs y0=y:=uG e1
      unfold renL at e1
      split at e1
      ·rw [← e1,L.blank] at hfr;cases hfr
      ·rw [e1]
    have hkc:=L.free (y,.free) (u3 hfr) rfl
    have hkc:X.env.kindOf y=some .cell:=hkc
    obtain⟨mX,_,hlX⟩:=I3.loc
    obtain⟨u,r,l⟩:=hlX j y v e1 e2 (.inr (.inl hkc))
    refine⟨u,r,?_⟩
    rcases l with⟨l,_⟩ | ⟨_,c,hc,hcell⟩
    ·rw [hkc] at l;cases l
    ·obtain⟨c',hc'⟩:=cl2 (y,.free) (u3 hfr) rfl
     have hc':cl.lookup y=some c':=hc'
     have:=cl1 y c' hc'
     rw [hc] at this
     cases this
     refine .inr ⟨?_,c,hc',?_⟩
     ·rcases e3 with e3 | e3 | e3
      ·rw [relab y,hfr] at e3
       simp only [Ut,gJ] at e3
       split at e3<;>cases e3
      ·exact .inl e3
      ·exact .inr e3
     ·obtain⟨o,ho,hd⟩:=hcell
      exact⟨o,k34 _ _ ho,hd⟩
  ·intro y c e
   obtain⟨v,o,ho,hd⟩:=I3.cell y c (cl1 y c e)
   exact⟨v,o,k34 _ _ ho,hd⟩
  ·exact fun y c e=>I3.freeC y c (cl1 y c e)
  ·show(List.replicate xs.length none++σ).length=(xs++X.N.map (renL xs)).length
   rw [ub,ub,Uh,ug,I3.len]
 have st4:tn 0 h₁:=T.keep _ _ _ st3 fun b hb o e=>k34 b o e
 have stat:∀ {H':Hp},(∀ b∈fp,H' b=none)->∀ b∈fp,FpOk X' [] H' b:=fun hn b hb=>by
  refine⟨hn b hb,(okX'.exf b hb).1,okX'.exfs b hb,.inl hb,(okX'.exf b hb).2,fun p hp=>absurd (show p∈([]:List (Addr×Obj)) from hp) (by simp)⟩
 have loop:∀ s4:Shared,s4={ s3 with heap:=h₁,toks:=s3.toks+([]:List (Str×Value)).length } ->
   codeAny (model X.prog X.w) X.A (.compLoop (.ListComp elt [⟨tg,iter,ifs,0⟩] scope pos) 0 (.ref it) (.ref D) X'.env) (compPost (model X.prog X.w) X.A E use Q (.ref D) C) s4:=by
  rintro s4 rfl
  refine WZ (fun n s'=>∃ i ys os H',os.length=xs.length/\Inv X' [] (os++σ) H' s'/\tn i s'.heap/\(∀ b∈fp,H' b=none)/\W i n ys H') ?_ m0 ⟨0,[],List.replicate xs.length none,H3,Uh,I4,st4,fun b hb=>(f3 b hb).1,w0⟩
  rintro n s5 ⟨i,ys,os,H5,hos,I5,st5,fr5,w5⟩
  obtain⟨hD5,turn5⟩:=turn i n ys H5 w5
  rcases turn5 with⟨stop,qn⟩ | ⟨go,step⟩
  ·refine wpAny_mono (T.done X' rfl rfl rfl L.calm i [] s5 (os++σ) H5 (fun _ _=>False) I5 (stat fr5) st5 stop) (fun r s6 h6=>?_) fun _ _ z=>z
   obtain⟨rfl,I6⟩:=h6
   have un6:Un (frs X.stack) fp H3 H5 s3.heap s6.heap:=I6.base
   have IX:Inv X pins σ H5 s6:=I3.call' I6.os un6 I6.hok I6.bare fun b hb=>⟨(f3 b hb).2.2.2.1,(f3 b hb).2.1,(f3 b hb).2.2.2.2.1,(f3 b hb).2.2.2.2.2⟩
   obtain⟨mC,hnC,_⟩:=I6.loc
   exact fin D C H5 s6 mC IX (I3.fpOk (H':=H5) (UI hC) I6.free) hnC qn
  ·refine wpAny_mono (T.item X' rfl rfl rfl L.calm i [] s5 (os++σ) H5 (fun _ _=>False) I5 (stat fr5) st5 go) (fun r s6 h6=>?_) fun _ _ z=>z.elim
   obtain⟨u,rfl,h6⟩:=h6
   refine wpAny_mono h6 (fun _ s6 h6=>?_) fun _ _ z=>z
   obtain⟨v,H6,I6,r6,y6,st6,fr6⟩:=h6
   have I6':=I6.pinned (stat fr6) (T.obj _ _ st6)
   have hv6:=step v H6 y6
   show wpAny (model X'.prog X'.w) X'.A (assign tg X'.env u) _ _ s6
   refine wpAny_mono (Q:=fun _ s7=>∃ us:List V,us.length=xs.length/\Inv X' ([]++kC fp s6.heap) (us.map some++σ) H6 s7/\tt (us.map some++σ) H6 fun b H3=>if b=true then te (us.map some++σ) H3 fun y H4=>H4 D=some (.lst ys)/\ys.length<sizeLine/\∃ m',m' < n/\W (i+1) m' (ys++[y]) (upd H4 D (.lst (ys++[y]))) else ∃ m',m' < n/\W (i+1) m' ys H3) (E:=fun _ _=>False) (wpAny_mono (hg cl C s3 H3 fp _ s6 _ H6 v u _ I6' r6 (hb v H6 os _ hos hv6)) (fun _ s7 h7=>?_) fun _ _ z=>z) (fun _ s7 h7=>?_) fun _ _ z=>z.elim
   ·obtain⟨σ7,H7,I7,us,hl,rfl,rfl,hk⟩:=h7
    exact⟨us,hl,I7,hk⟩
   obtain⟨us,hus,I7,hv6⟩:=h7
   refine wpAny_mono ((ht cl C s3 H3 fp) _ s7 _ H6 _ I7 hv6) (fun b s8 h8=>?_) fun _ _ z=>z.elim
   obtain⟨H8,I8,q8⟩:=h8
   have done:∀ {ys':List V} {H9:Hp} {s9:Shared} {n':Nat},Inv X' ([]++kC fp s6.heap) (us.map some++σ) H9 s9->W (i+1) n' ys' H9->∃ i ys os H',os.length=xs.length/\Inv X' [] (os++σ) H' s9/\tn i s9.heap/\(∀ b∈fp,H' b=none)/\W i n' ys H':=fun {ys' H9 s9 n'} I9 w9=>by
    refine⟨i+1,ys',us.map some,H9,by rw [ug];exact hus,I9.unpinned,T.keep _ _ _ st6 fun b hb o e=>(I9.pin (b,o) (uy _ (uy _ (xG hb e)))).1,fun b hb=>?_,w9⟩
    obtain⟨o,e,d⟩:=T.obj _ _ st6 b hb
    exact(I9.pin (b,o) (uy _ (uy _ (xG hb e)))).2.1
   cases b with
   | false=>
    have q8:∃ m',m' < n/\W (i+1) m' ys H8:=q8
    obtain⟨m',hm,w8⟩:=q8
    exact⟨m',hm,done I8 w8⟩
   | true=>
    have q8:te (us.map some++σ) H8 _:=q8
    refine wpAny_mono ((he cl C s3 H3 fp) _ s8 _ H8 _ I8 q8) (fun yv s9 h9=>?_) fun _ _ z=>z.elim
    obtain⟨y,H9,I9,r9,hD9,hz9,m',hm,w9⟩:=h9
    refine wpAny_mono (Jk (X:=X') _ s9 _ H9 (.ref D) [y] (.ref D) [yv] (fun v' H'=>v' = .non/\H' = upd H9 D (.lst (ys++[y]))) I9 rfl (.cons r9 .nil) ⟨D,ys,y,rfl,rfl,hD9,hz9,rfl,rfl⟩) (fun _ s10 h10=>?_) fun _ _ z=>z.elim
    obtain⟨_,H10,I10,_,_,rfl⟩:=h10
    exact⟨m',hm,done I10 w9⟩
 exact codeAny_compStart_list (loop _ rfl) (T.self _ 0 _ _ _ st4 (loop _ rfl))
theorem zfW (L:vt X xs scope)(hi:PI X tg iter wi)(ht:∀ cl C s3 H3 fp,PTs (blkG X xs scope cl C s3 H3 fp) ifs tt)(he:∀ cl C s3 H3 fp,PE (blkG X xs scope cl C s3 H3 fp) elt te)
  (hg:∀ cl C s3 H3 fp,PG (blkG X xs scope cl C s3 H3 fp) tg g) (hb:∀ v H (os σ:St) (K:List V->Prop),os.length=xs.length->bnd v H K->g v (os++σ) H fun σ' H'=>∃ us,us.length=xs.length/\σ' = us.map some++σ/\H' = H/\K us)
  (hs:∀ x,foldedSetIterable iter X.env x=pure x):PE X (.ListComp elt [⟨tg,iter,ifs,0⟩] scope pos) (fun σ H Q=>wi σ H fun J H1=>L5.lcB bnd J tt te σ H1 Q):=by
 intro pins s σ H Q I h
 rw [eval_ListComp]
 refine Xh (use:=none) (QV:=Q) L I (hi pins s σ H _ I h) ht he hg (fun v H os K=>hb v H os σ K) hs fun D C H' s' m IX fC hn q=>?_
 refine⟨m,hn,fun h' hs'=>⟨.ref D,H',IX.turned (t':=s'.toks) (fun b o hb e=>hs'.extBut b o hb e) fC.1 fC.2.1 fC.2.2.2.1 fC.2.2.2.2.1 fC.2.2.2.2.2,rfl,q⟩⟩
theorem Kx {i:Nat}{z:Str}{pz spos:Pos}(hN:X.N.Nodup)(hi':X.N[i]? = some z)(hz:Loc X.env.scope z)(L:vt X xs scope)(hi:PI X tg iter wi)(ht:∀ cl C s3 H3 fp,PTs (blkG X xs scope cl C s3 H3 fp) ifs tt)(he:∀ cl C s3 H3 fp,PE (blkG X xs scope cl C s3 H3 fp) elt te)
  (hg:∀ cl C s3 H3 fp,PG (blkG X xs scope cl C s3 H3 fp) tg g) (hb:∀ v H (os σ:St) (K:List V->Prop),os.length=xs.length->bnd v H K->g v (os++σ) H fun σ' H'=>∃ us,us.length=xs.length/\σ' = us.map some++σ/\H' = H/\K us)
  (hs:∀ x,foldedSetIterable iter X.env x=pure x) (hsw:swapsWith (.ListComp elt [⟨tg,iter,ifs,0⟩] scope pos) (some (.Name z pz)) spos.line X.env=pure true)
  (hf:X.fn z=true\/X.env.scope.names.lookup z=some .local):PS X (.Assign [.Name z pz] (.ListComp elt [⟨tg,iter,ifs,0⟩] scope pos) spos) (tAsg (fun σ H Q=>wi σ H fun J H1=>L5.lcB bnd J tt te σ H1 Q) (wB i)):=by
 intro pins s σ H D I h
 rw [exec_Assign_Name_used _ _ _ _ hsw]
 refine wpAny_bind (wpAny_standAt (wpAny_bind ?_))
 show wpAny _ X.A (do let _ ← comprehension (.ListComp elt [⟨tg,iter,ifs,0⟩] scope pos) scope X.env _ (newList []) false (eval iter X.env) (some (assign (.Name z pz) X.env))) _ _ s
 refine wpAny_bind (wpAny_mono (Xh (use:=some (assign (.Name z pz) X.env)) (Q:=fun _ s'=>SP X pins D .next s') (QV:=fun v H'=>D.nx (σ.set i (some v)) H') L I (hi pins s σ H _ I h) ht he hg (fun v H os K=>hb v H os σ K) hs fun D' C H' s' m IX fC hn q=>?_) (fun _ s' hq=>wpAny_pure (wpAny_pure hq)) fun _ _ e=>e)
 show wpAny _ X.A (assign (.Name z pz) X.env (.ref D')) _ _ s'
 refine wpAny_assign_Name (Jc IX hN hi' hz (show RelV (.ref D') (.ref D') from rfl) (fun s2 I2 hch=>?_) hf)
 obtain⟨a,sb,ha⟩:=hch
 have hCa:C≠a:=by
  rcases ha with e | e
  ·rw [e];exact fC.2.1
  ·intro z';exact fC.2.2.2.2.1 _ _ e z'.symm
 refine⟨m,hn.sameBut sb hCa,fun h' hs'=>?_⟩
 exact⟨_,H',I2.turned (t':=s2.toks) (fun b o hb e=>hs'.extBut b o hb e) fC.1 fC.2.1 fC.2.2.2.1 fC.2.2.2.2.1 fC.2.2.2.2.2,q⟩
theorem zfX {v:V}{H:Hp}{os σ:St}{K:List V->Prop}(hl:os.length=1)(h:K [v]):wB 0 v (os++σ) H fun σ' H'=>∃ us:List V,us.length=1/\σ' = us.map some++σ/\H' = H/\K us:=by
 match os,hl with
 | [o],_=>exact⟨[v],rfl,rfl,rfl,h⟩
noncomputable def gN (off:Nat):Nat->TGs
 | 0=>gNil
 | n+1=>WU (wB off) (gN (off+1) n)
theorem zd2 {H:Hp}{σ:St}{Q:St->Hp->Prop}:∀ {n:Nat} {us:List V} {pre os:St},os.length=n->us.length=n->Q (pre++(us.map some++σ)) H->gN pre.length n us (pre++(os++σ)) H Q
 | 0,[],pre,[],_,_,q=>⟨rfl,by simpa using q⟩
 | n+1,u::us,pre,o::os,h1,h2,q=>by
  refine⟨u,us,rfl,?_⟩
  have e:(pre++(o::os++σ)).set pre.length (some u)=(pre++[some u])++(os++σ):=by
   have z:∀ (l:List (Option V)) (r:List (Option V)),(l++o::r).set l.length (some u)=(l++[some u])++r:=fun l r=>by
    rw [gm _ _ (uf _),UA]
    simp
   exact z pre (os++σ)
  show gN (pre.length+1) n us ((pre++(o::os++σ)).set pre.length (some u)) H Q
  rw [e,show pre.length+1=(pre++[some u]).length by simp]
  exact zd2 (by simpa using h1) (by simpa using h2) (by simpa using q)
 | 0,_::_,_,_,_,h,_=>by cases h
 | 0,[],_,_::_,h,_,_=>by cases h
 | _+1,[],_,_,_,h,_=>by cases h
 | _+1,_::_,_,[],h,_,_=>by cases h
noncomputable def bndT (K:Le)(n:Nat):V->Hp->(List V->Prop)->Prop:=fun v H k=>∃ pa us,v=.ref pa/\SqT K H pa us/\us.length=n/\k us
theorem zhK {C:Le}{n:Nat}{v:V}{H:Hp}{os σ:St}{K:List V->Prop}(hl:os.length=n)(h:bndT C n v H K):gTup C n (gN 0 n) v (os++σ) H fun σ' H'=>∃ us:List V,us.length=n/\σ' = us.map some++σ/\H' = H/\K us:=by
 obtain⟨pa,us,rfl,h1,h2,h3⟩:=h
 exact⟨pa,us,rfl,h1,h2,zd2 (pre:=[]) hl h2 ⟨us,h2,rfl,rfl,h3⟩⟩
end
end L2
namespace L5
open PySem L2 PySem.Spec PyProof.Rows
noncomputable def bndG (K:Le)(tup:Bool)(n:Nat):V->Hp->(List V->Prop)->Prop:=if tup=true then L2.bndT K n else fun v _ k=>k [v]
noncomputable def gOf (K:Le)(tup:Bool)(n:Nat):TG:=if tup=true then gTup K n (gN 0 n) else wB 0
theorem zbm {K:Le}{tup:Bool}{n:Nat}(h:tup=decide (n≠1))(v:V)(H:Hp)(os σ:L2.St)(k:List V->Prop)(hl:os.length=n)(hb:bndG K tup n v H k):gOf K tup n v (os++σ) H fun σ' H'=>∃ us:List V,us.length=n/\σ' = us.map some++σ/\H' = H/\k us:=by
 unfold gOf
 unfold bndG at hb
 cases tup with
 | true=>
  rw [uA rfl] at hb ⊢
  exact zhK hl hb
 | false=>
  have hn:n=1:=by
   have:=uW h.symm
   lia
  subst hn
  rw [uq (by decide)] at hb ⊢
  exact zfX hl hb
noncomputable def nms:Lg->Option (Lh)
 | []=>some []
 | e::es=>match e with
  | .Name x _=>(nms es).map (x::·)
  | _=>none
noncomputable def tgN (e:Expr):Option (Bool×Lh):=match e with
 | .Name x _=>some (false,[x])
 | .Tuple es _ _=>(nms es).map fun l=>(true,l)
 | _=>none
theorem Yo {X:Cx}(hN:X.N.Nodup)(hf:∀ x,X.fn x=false):∀ {es:Lg} {xs:Lh} {off:Nat},nms es=some xs->(∀ k x,xs[k]? = some x->X.N[off+k]? = some x)->(∀ x∈xs,X.env.scope.names.lookup x=some .local)->PGs X es (gN off xs.length)/\(assignEach es X.env).length=xs.length/\(assignEach es X.env).findIdx? (·.1)=none
 | [],xs,off,h,_,_=>by
  cases h
  exact⟨VH,rfl,rfl⟩
 | e::es,xs,off,h,hk,hx=>by
  simp only [nms] at h
  split at h
  ·rename_i x p
   rw [uu] at h
   obtain⟨ys,h1,rfl⟩:=h
   obtain⟨p1,p2,p3⟩:=Yo hN hf (off:=off+1) h1 (fun k y hy=>by
    have:=hk (k+1) y (by simpa using hy)
    rwa [show off+(k+1)=off+1+k by lia] at this) fun y hy=>hx y (uk _ hy)
   have hv:=hx x ui
   have hn:PG X (.Name x p) (wB off):=JJ hN (hk 0 x rfl) (.inl hv) (.inr hv)
   have ac:(assignEach (.Name x p::es) X.env)=(false,assign (.Name x p) X.env)::assignEach es X.env:=rfl
   exact⟨WV hn p1 rfl,by rw [ac,ua,ua,p2],by rw [ac,Ue,p3];rfl⟩
  ·cases h
theorem zfY {X:Cx}{tg:Expr}{q:Bool×Lh}(hc:X.calm=true)(hN:X.N.Nodup)(hf:∀ x,X.fn x=false)(h:tgN tg=some q)(hk:∀ (k:Nat) x,q.2[k]? = some x->X.N[k]? = some x)(hx:∀ x∈q.2,X.env.scope.names.lookup x=some .local):PG X tg (gOf X.K q.1 q.2.length):=by
 unfold tgN at h
 split at h
 ·rename_i x p
  cases h
  have hv:=hx x ui
  exact JJ hN (hk 0 x rfl) (.inl hv) (.inr hv)
 ·rename_i es k p
  rw [uu] at h
  obtain⟨ys,h1,rfl⟩:=h
  obtain⟨p1,p2,p3⟩:=Yo hN hf (off:=0) h1 (fun k y hy=>by rw [Us];exact hk k y hy) hx
  exact K2 hc p1 p2 p3
 ·cases h
variable {W:Wd} {E:XS} {F H:Hp} {s τ:Sl} {σ:L2.St} {vs:List V} {γ:List AT} {K:KP} {X4:XP} {Q:VK}
noncomputable abbrev noE:XS:=fun _ _ _ _=>False
theorem zd3 {vs:List V}:XK W noE σ vs γ noX:=fun _ _ _ _ _ _ _ _ _ _ h=>h.elim
theorem Ms.shift {as l:List AT}{n:Nat}(hl:l.length=n):∀ {s s':Sl} {ρ:List (Option V)} {cs:List AT},Ms as s ρ cs->mapO (shN n) s=some s'->Ms (l++as) s' ρ cs
 | [],_,_,_,h,e=>by cases e;exact h
 | x::s,_,_,_,⟨o,ρ,a,cs,e1,e2,h1,h2⟩,e=>by
  obtain⟨y,ys,k1,k2,k⟩:=zy e
  cases k
  refine⟨o,ρ,a,cs,e1,e2,?_,Ms.shift hl h2 k2⟩
  cases x with
  | no=>cases k1;exact h1
  | own t=>cases k1;exact h1
  | al i p=>
   cases k1
   obtain⟨hn,u,hu,ho⟩:=h1
   refine⟨hn,u,?_,ho⟩
   unfold getS at hu ⊢
   rw [uL (by lia),hl,U9];exact hu
theorem Ms.unshift {as:List AT}{n:Nat}:∀ {s s':Sl} {ρ:List (Option V)} {cs:List AT},Ms as s ρ cs->mapO (unN n) s=some s'->Ms (as.drop n) s' ρ cs
 | [],_,_,_,h,e=>by cases e;exact h
 | x::s,_,_,_,⟨o,ρ,a,cs,e1,e2,h1,h2⟩,e=>by
  obtain⟨y,ys,k1,k2,k⟩:=zy e
  cases k
  refine⟨o,ρ,a,cs,e1,e2,?_,Ms.unshift h2 k2⟩
  cases x with
  | no=>cases k1;exact h1
  | own t=>cases k1;exact h1
  | al i p=>
   simp only [unN] at k1
   cases c:n.ble i with
   | false=>rw [c] at k1;cases k1;exact h1.1
   | true=>
    rw [c] at k1;cases k1
    obtain⟨hn,u,hu,ho⟩:=h1
    refine⟨hn,u,?_,ho⟩
    unfold getS at hu ⊢
    rw [List.getElem?_drop,Nat.add_sub_cancel' (Nat.le_of_ble_eq_true c)];exact hu
theorem Ms.drop:∀ {as:List AT} {s:Sl} {ρ:List (Option V)} {cs:List AT} (n:Nat),Ms as s ρ cs->Ms as (s.drop n) (ρ.drop n) (cs.drop n)
 | _,_,_,_,0,h=>h
 | _,[],_,_,n+1,⟨h1,h2⟩=>by subst h1 h2;exact⟨rfl,rfl⟩
 | _,_::_,_,_,n+1,⟨_,_,_,_,e1,e2,_,h⟩=>by subst e1 e2;exact Ms.drop n h
theorem Ms.leaves {as:List AT}:∀ {ts:List T} {us:List V} {s:Sl} {ρ:List (Option V)} {cs:List AT},IsVs W F ts us->Ms as s ρ cs->Ms as (ts.map .own++s) (us.map some++ρ) (L5.leaves ts us++cs)
 | [],_,_,_,_,h,m=>by rw [show _=[] from h];exact m
 | _::_,_,_,_,_,⟨v,r,e,h1,h2⟩,m=>by subst e;exact⟨_,_,_,_,rfl,rfl,⟨rfl,rfl⟩,Ms.leaves h2 m⟩
theorem Rep.names {ts:List T}{us:List V}{s1 τ1:Sl}(R:Rep W F H s τ σ vs γ)(i:IsVs W F ts us)(sh:shrs ts=true)(e1:mapO (shN ts.length) s=some s1)(e2:mapO (shN ts.length) τ=some τ1):Rep W F H (ts.map .own++s1) τ1 (us.map some++σ) vs γ:=by
 obtain⟨as,bs,R⟩:=R
 have hl:(leaves ts us).length=ts.length:=by
  have:=congrArg List.length (kL (H:=H) i sh).2.1
  rw [zk,ug] at this
  exact this
 refine⟨leaves ts us++as,bs,?_,(R.ls.shift hl e1).leaves i,R.ts.shift hl e2⟩
 rw [uc]
 exact(R.st.leaves i sh).1
theorem Rep.unname {us:List V}{n:Nat}{s1 τ1:Sl}(R:Rep W F H s τ (us.map some++σ) vs γ)(hn:us.length=n)(e1:mapO (unN n) (s.drop n)=some s1)(e2:mapO (unN n) τ=some τ1):Rep W F H s1 τ1 σ vs γ:=by
 obtain⟨as,bs,R⟩:=R
 have m1:=(R.ls.drop n).unshift e1
 rw [gP (by rw [ug,hn];exact uf _),show(us.map some).drop n=[] by rw [← hn];exact List.drop_of_length_le (by rw [ug];exact uf _),UE] at m1
 refine⟨as.drop n,bs,?_,m1,R.ts.unshift e2⟩
 have:=R.st
 rw [← List.take_append_drop n as,uc] at this
 exact this.right
theorem zbn {n:Nat}{d:T}{l:Sl}{v:V}{Q:List V->Prop}(g:Same F H)(hs:shr d=true)(hd:IsV W F d v)(e:zaV n d=some l)(q:∀ us ts,l=ts.map .own->ts.length=n->IsVs W F ts us->shrs ts=true->Q us):bndG W.K (decide (n≠1)) n v H Q:=by
 by_cases hn:n=1
 ·subst hn
  cases e
  exact q [v] [d] rfl rfl ⟨v,[],rfl,hd,rfl⟩ (by show(shr d&&true)=true;rw [hs];rfl)
 ·rw [uT hn]
  have e:((tpO d).bind fun xs=>cond (xs.length == n) (some (xs.map .own)) none)=some l:=by
   unfold zaV at e
   split at e
   ·exact absurd rfl hn
   ·exact e
  obtain⟨xs,e1,e⟩:=za e
  cases c:xs.length == n with
  | false=>rw [c] at e;cases e
  | true=>
   rw [c] at e;cases e
   obtain⟨p,us,h1,h2,h3,_⟩:=Zj (a:=.lf d v) g ⟨hs,hd⟩ e1
   have sh:shrs xs=true:=by
    cases d with
    | tp _=>cases e1;exact hs
    | ks l _=>cases l<;>cases e1;obtain⟨_,_,_,_,h,_⟩:=hd;exact h
    | _=>cases e1
   exact⟨p,us,h1,h2,h3.len.trans (eq_of_beq c),q us xs rfl (eq_of_beq c) (h3.sh sh) sh⟩
theorem zd4 {elt:Xp}{n:Nat}{k:IK}{its ifs:List Xp}(h:E5 W E (.lc elt n k its ifs) σ H Q):I5 W E k its σ H fun J H1=>lcB (bndG W.K (decide (n≠1)) n) J (TB5 W noE true ifs) (E5 W noE elt) σ H1 Q:=by
 obtain⟨F,s,τ,vs,γ,K,X4,R,h,q,x⟩:=h
 refine⟨F,s,τ,vs,γ,_,X4,R,h,fun ds o s1 τ1 F1 H1 J us vs' it lv R1 h1 D hD=>?_,x⟩
 let fin:List T->KP:=fun acc s3 τ3=>bnd2 (unS o s3 τ3) fun s4 τ4=>K s4 (.own (.nd true .ls acc)::τ4)
 let I:Nat->Nat->List V->Hp->Prop:=fun i m ys H'=>m=ds.length - i/\i<=ds.length/\∃ F' acc s' τ',vals acc=ys/\Rep W F' H' s' τ' σ vs' (.nd D .ls acc::(us++γ))/\Qk n (fun s τ K=>WTb true ifs s τ K noX) (fun s τ K=>WE elt s τ K noX) (ds.drop i) (eras acc) s' τ' fin
 refine⟨I,⟨ds.length,by lia,uF _,F1,[],s1,τ1,rfl,?_,by rw [gr];exact h1⟩,fun i m ys H' hI=>?_⟩
 ·obtain⟨Γ,st,back⟩:=R1.all
  exact back (γ':=.nd D .ls []::(us++γ)) (St.node (as:=[]) st hD rfl)
 obtain⟨rfl,hle,F',acc,s',τ',rfl,R2,hp⟩:=hI
 obtain⟨Γ,st,back⟩:=id R2.all
 have okD:=st.ok.1
 have cellD:H' D=some (.lst (vals acc)):=by obtain⟨⟨o,h1,rfl⟩,_⟩:=okD;exact h1
 have oku:OKs W F' H' us:=by
  have:=St.tail (a:=.nd D .ls acc) (γ:=us++γ++Γ) st
  rw [uc] at this
  exact this.left
 refine⟨cellD,?_⟩
 by_cases hlt:i<ds.length
 ·refine .inr ⟨it.go i F' H' hlt st.fh oku,fun v H2 y=>?_⟩
  obtain⟨d,ed,hd⟩:=it.yld i F' H' v H2 hlt st.fh oku y
  obtain⟨F2,st2,iv⟩:=hd _ st
  have R3:Rep W F2 H2 s' τ' σ vs' (.nd D .ls acc::(us++γ)):=back st2
  have edr:ds.drop i=d::ds.drop (i+1):=by
   rw [UB hlt]
   rw [um hlt] at ed
   cases ed
   rfl
  rw [edr] at hp
  obtain⟨l,e1,hp⟩:=zo hp
  obtain⟨s2,e2,hp⟩:=zo hp
  obtain⟨τ2,e3,hp⟩:=zo hp
  refine zbn st2.fh (zK.mp it.sh d (uH ed)) iv e1 fun ws ts el hn hw sh=>?_
  subst el
  have hwl:ws.length=n:=by rw [hw.len,hn]
  have R4:=R3.names hw sh (by rw [hn];exact e2) (by rw [hn];exact e3)
  refine⟨F2,_,_,vs',_,_,noX,R4,hp,fun b F3 H3 s3 τ3 R5 h3=>?_,zd3⟩
  rcases jC h3 with⟨rfl,h3⟩ | ⟨rfl,h3⟩
  ·rw [uA rfl]
   refine⟨F3,s3,τ3,vs',_,_,noX,R5,h3,fun F4 H4 s4 x4 τ4 w R6 h4=>?_,zd3⟩
   obtain⟨t,τ5,e4,hlen,h5'⟩:=zj h4
   obtain⟨s6,e5,h5''⟩:=zo h5'
   obtain⟨τ6,e6,h5⟩:=zo h5''
   clear h5' h5''
   cases x4<;>cases e4
   obtain⟨b,rfl,rfl,hb,R7⟩:=R6.opened
   have R8:=R7.unname hwl e5 e6
   obtain⟨Γ',st',back'⟩:=R8.all
   have cD:H4 D=some (.lst (vals acc)):=by obtain⟨⟨o,h1,rfl⟩,_⟩:=st'.ok.2.1;exact h1
   refine⟨cD,by rw [ug,sizeLine_eq];rw [zk,ug] at hlen;exact hlen,ds.length - (i+1),by lia,rfl,by lia,F4,acc++[b],s6,τ6,by simp [vals],?_,?_⟩
   ·refine back' (γ':=.nd D .ls (acc++[b])::(us++γ)) ?_
    have st3:St W F4 H4 (.nd D .ls acc::([b]++(us++γ++Γ'))):=st'.perm qu
    exact st3.mut (ys:=[b]) (zs:=acc++[b]) (ws:=[]) (by rw [uw]) (by show HO.lst _=.lst _;simp [vals])
   ·rw [zk,uD,← zk];exact h5
  ·rw [uq (by decide)]
   obtain⟨s6,e5,h5⟩:=zo h3
   obtain⟨τ6,e6,h5⟩:=zo h5
   exact⟨ds.length - (i+1),by lia,rfl,by lia,F3,acc,s6,τ6,rfl,R5.unname hwl e5 e6,h5⟩
 ·have hi':i=ds.length:=by lia
  subst hi'
  rw [List.drop_length] at hp
  have hp:fin (eras acc) s' τ':=hp
  obtain⟨s4,τ4,e4,h4⟩:=zj hp
  refine .inl ⟨it.stop F' H' st.fh oku,?_⟩
  have R4:Rep W F' H' s' τ' σ vs' (us++(.nd D .ls acc::γ)):=by
   refine back ?_
   refine st.perm (UK _ ?_)
   exact uB.symm
  exact q F' H' s4 _ _ _ (R4.unlend lv e4).push h4
end L5
namespace L5
open PySem L2 PySem.Spec PyProof.Rows
variable {W:Wd} {E:XS} {F H:Hp} {s τ:Sl} {σ:L2.St} {vs:List V} {γ:List AT} {K K4:KP} {X4:XP} {D:L2.Ends} {D4:Ends}
structure KO (W:Wd)(E:XS)(vs:List V)(γ:List AT)(K4:KP)(D4:Ends)(D:L2.Ends):Prop where
 nx:∀ F' H' s' τ' σ',Rep W F' H' s' τ' σ' vs γ->K4 s' τ'->D.nx σ' H'
 rt:∀ F' H' s' τ' σ' t v,Rep W F' H' s' (.own t::τ') σ' (v::vs) γ->D4.rt t s' τ'->D.rt v H'
 bk:∀ F' H' s' τ' σ',Rep W F' H' s' τ' σ' vs γ->D4.bk s' τ'->D.bk σ' H'
 ct:∀ F' H' s' τ' σ',Rep W F' H' s' τ' σ' vs γ->D4.ct s' τ'->D.ct σ' H'
 ex:∀ x F' H' s' τ' σ' ws c d,Rep W F' H' s' τ' σ' (ws++vs) γ->IsX W F' x c d->D4.ex x s' τ'->E c d σ' H'
theorem KO.xk (k:KO W E vs γ K4 D4 D):XK W E σ vs γ D4.ex:=fun x F' H' s' τ' ws c d R=>k.ex x F' H' s' τ' σ ws c d R
noncomputable def S5 (W:Wd)(E:XS)(m:Sl->Sl->KP->Ends->Prop):TS:=fun D σ H=>∃ F s τ vs γ K4 D4,Rep W F H s τ σ vs γ/\m s τ K4 D4/\KO W E vs γ K4 D4 D
theorem zbo (h:S5 W E (WSs []) D σ H):VF D σ H:=by
 obtain⟨F,s,τ,vs,γ,K4,D4,R,h,k⟩:=h
 exact k.nx F H s τ σ R h
theorem Yp {c:Cm}{cs:List Cm}(h:S5 W E (WSs (c::cs)) D σ H):tSeq (S5 W E (WS c)) (S5 W E (WSs cs)) D σ H:=by
 obtain⟨F,s,τ,vs,γ,K4,D4,R,h,k⟩:=h
 exact⟨F,s,τ,vs,γ,_,D4,R,h,fun F' H' s' τ' σ' R' h'=>⟨F',s',τ',vs,γ,K4,D4,R',h',k⟩,k.rt,k.bk,k.ct,k.ex⟩
theorem zfZ {e:Xp}(h:S5 W E (WS (.ret e)) D σ H):tRet (E5 W E e) D σ H:=by
 obtain⟨F,s,τ,vs,γ,K4,D4,R,h,k⟩:=h
 refine⟨F,s,τ,vs,γ,_,_,R,h,fun F' H' s' x τ' v R' h'=>?_,k.xk⟩
 obtain⟨t,τ2,e1,h2⟩:=zj h'
 cases x<;>cases e1
 exact k.rt F' H' s' _ σ _ v R' h2
theorem zda (h:S5 W E (WS .retN) D σ H):zdK D σ H:=by
 obtain⟨F,s,τ,vs,γ,K4,D4,R,h,k⟩:=h
 exact k.rt F H s τ σ .non .non (R.leaf (t:=.non) rfl rfl) h
theorem zdb (h:S5 W E (WS .pass) D σ H):VF D σ H:=by
 obtain⟨F,s,τ,vs,γ,K4,D4,R,h,k⟩:=h
 exact k.nx F H s τ σ R h
theorem zf0 (h:S5 W E (WS .brk) D σ H):K0 D σ H:=by
 obtain⟨F,s,τ,vs,γ,K4,D4,R,h,k⟩:=h
 exact k.bk F H s τ σ R h
theorem zf1 (h:S5 W E (WS .cnt) D σ H):zdI D σ H:=by
 obtain⟨F,s,τ,vs,γ,K4,D4,R,h,k⟩:=h
 exact k.ct F H s τ σ R h
theorem zbp {P:Prop}(h:S5 W E (WS .never) D σ H):P:=by
 obtain⟨F,s,τ,vs,γ,K4,D4,R,h,k⟩:=h
 exact h.elim
theorem zhL {e:Xp}(h:S5 W E (WS (.ex e)) D σ H):zdJ (E5 W E e) D σ H:=by
 obtain⟨F,s,τ,vs,γ,K4,D4,R,h,k⟩:=h
 refine⟨F,s,τ,vs,γ,_,_,R,h,fun F' H' s' x τ' v R' h'=>?_,k.xk⟩
 exact k.nx F' H' s' τ' σ R'.pop h'
theorem zf2 {t:Xp}{a b:List Cm}(h:S5 W E (WS (.ife t a b)) D σ H):tIfS (T5 W E t) (S5 W E (WSs a)) (S5 W E (WSs b)) D σ H:=by
 obtain⟨F,s,τ,vs,γ,K4,D4,R,h,k⟩:=h
 refine⟨F,s,τ,vs,γ,_,_,R,h,fun z F' H' s' τ' R' h'=>?_,k.xk⟩
 rcases jC h' with⟨rfl,h'⟩ | ⟨rfl,h'⟩
 ·exact⟨F',s',τ',vs,γ,K4,D4,R',h',k⟩
 ·exact⟨F',s',τ',vs,γ,K4,D4,R',h',k⟩
theorem Vr {i:Nat}{e:Xp}(h:S5 W E (WS (.asg (.v i) e)) D σ H):tAsg (E5 W E e) (wB i) D σ H:=by
 obtain⟨F,s,τ,vs,γ,K4,D4,R,h,k⟩:=h
 refine⟨F,s,τ,vs,γ,_,_,R,h,fun F' H' s' x τ' v R' h'=>?_,k.xk⟩
 obtain⟨s2,τ2,e1,h2⟩:=zj h'
 exact k.nx F' H' s2 τ2 _ (R'.setTop e1) h2
theorem Rep.untup {t:T}{v:V}{ts:List T}(R:Rep W F H s (.own t::τ) σ (v::vs) γ)(e:tpO t=some ts):∃ p cs,v=.ref p/\SqT W.K H p (vals cs)/\eras cs=ts/\Rep W F H s τ σ vs (cs++γ):=by
 obtain⟨b,rfl,rfl,hb,R2⟩:=R.opened
 have g:=R2.fh
 obtain⟨Γ,st,back⟩:=R2.all
 cases b with
 | nd p k ys=>cases k<;>cases e
 | tp p ys=>
  cases e
  exact⟨p,ys,rfl,SqT.of (g _ _ hb.1),rfl,back (γ':=ys++γ) (by rw [uc];exact St.openT st)⟩
 | lf t v=>
  obtain⟨p,us,k1,k2,k3,_⟩:=Zj g hb e
  have sh:shrs ts=true:=by
   cases t with
   | tp _=>cases e;exact hb.1
   | ks l _=>cases l<;>cases e;obtain⟨_,_,_,_,_,h,_⟩:=hb;exact h
   | _=>cases e
  obtain⟨k4,k5,k6⟩:=(St.tail (a:=.lf t v) (γ:=γ++Γ) st).leaves (k3.sh sh) sh
  exact⟨p,leaves ts us,k1,by rw [k6];exact k2,k5,back (γ':=leaves ts us++γ) (by rw [uc];exact k4)⟩
theorem Jx:∀ {is:Lc} {cs:List AT} {s τ s' τ':Sl} {σ:L2.St} {Q:L2.St->Hp->Prop},Rep W F H s τ σ vs (cs++γ)->Ju is (eras cs) s τ=some (s',τ')->(∀ σ',Rep W F H s' τ' σ' vs γ->Q σ' H)->(is.foldr (fun i g=>WU (wB i) g) gNil) (vals cs) σ H Q
 | [],[],s,τ,s',τ',σ,Q,R,e,q=>by cases e;exact⟨rfl,q σ R⟩
 | [],_::_,s,τ,s',τ',σ,Q,R,e,q=>by cases e
 | _::_,[],s,τ,s',τ',σ,Q,R,e,q=>by cases e
 | i::is,c::cs,s,τ,s',τ',σ,Q,R,e,q=>by
  obtain⟨r,e1,e⟩:=za e
  exact⟨val c,vals cs,rfl,Jx (Rep.setTop (Rep.push R) e1) e q⟩
theorem Jy:∀ {is:Lc} {ts:List T} {s τ:Sl} {r:Sl×Sl},Ju is ts s τ=some r->ts.length=is.length
 | [],[],_,_,_,_=>rfl
 | _::is,_::ts,_,_,_,h=>by obtain⟨_,_,h⟩:=za h;exact congrArg (· + 1) (Jy h)
 | [],_::_,_,_,_,h=>by cases h
 | _::_,[],_,_,_,h=>by cases h
noncomputable def gNs (W:Wd)(is:Lc):TG:=gTup W.K is.length (is.foldr (fun i g=>WU (wB i) g) gNil)
theorem Xi {is:Lc}{t:T}{v:V}{ts:List T}{s' τ':Sl}{Q:L2.St->Hp->Prop}(R:Rep W F H s (.own t::τ) σ (v::vs) γ)(e:tpO t=some ts)(e2:Ju is ts s τ=some (s',τ'))(q:∀ σ',Rep W F H s' τ' σ' vs γ->Q σ' H):gNs W is v σ H Q:=by
 obtain⟨p,cs,rfl,h1,rfl,R2⟩:=R.untup e
 refine⟨p,vals cs,rfl,h1,?_,Jx R2 e2 q⟩
 rw [← Jy e2,zk,ug,ug]
theorem zdc {is:Lc}{e:Xp}(h:S5 W E (WS (.asg (.tup is) e)) D σ H):tAsg (E5 W E e) (gNs W is) D σ H:=by
 obtain⟨F,s,τ,vs,γ,K4,D4,R,h,k⟩:=h
 refine⟨F,s,τ,vs,γ,_,_,R,h,fun F' H' s' x τ' v R' h'=>?_,k.xk⟩
 obtain⟨s2,τ2,e1,h2⟩:=zj h'
 cases x with
 | no=>cases e1
 | al _ _=>cases e1
 | own t=>
  obtain⟨ts,e2,e3⟩:=za e1
  exact Xi R' e2 e3 fun σ' R2=>k.nx F' H' s2 τ2 σ' R2 h2
def putR (o i w:V)(H:Hp)(Q:Hp->Prop):Prop:=zdN o i w H Q\/∃ a H',o=.ref a/\DPut H a i w H'/\Q H'
theorem zbq {X:Cx}(hu:X.A.units+64<cLine):PSet X putR:=by
 intro pins s σ H o i v ov iv u Q I ro ri rv h
 rcases h with h | ⟨a,H',rfl,g,q⟩
 ·exact set_list pins s σ H o i v ov iv u Q I ro ri rv h
 ·cases ro
  exact Kh (by lia) I g ri rv fun s' I'=>⟨H',I',q⟩
theorem Xj {w:V}{k:Key}{o:T}(hw:IsV W F o w):∀ {xs:List T} {kvs:List (Key×V)},IsVs W F xs (kvs.map (·.2))->IsVs W F (((kvs.map (·.1)).zip xs).map fun kv=>if kv.1=k then o else kv.2) ((kvs.map fun kv=>if kv.1=k then(kv.1,w) else kv).map (·.2))
 | xs,[],h=>by rfl
 | [],_::_,h=>by cases h
 | x::xs,(k',v')::kvs,⟨v,r,e,h1,h2⟩=>by
  cases e
  refine⟨_,_,rfl,?_,Xj hw h2⟩
  by_cases hk:k' = k
  ·simp only [uA hk];exact hw
  ·simp only [uq hk];exact h1
theorem Xk {ts:List T}:∀ {xs:List T} {us vs:List V},IsVs W F xs us->IsVs W F ts vs->IsVs W F (xs++ts) (us++vs)
 | [],_,_,h,k=>by rw [show _=[] from h];exact k
 | _::_,_,_,⟨v,r,e,h1,h2⟩,k=>by subst e;exact⟨_,_,rfl,h1,Xk h2 k⟩
theorem zdd {ks:List Key}{xs:List T}{k:Key}{o:T}{w:V}{kvs:List (Key×V)}(e:kvs.map (·.1)=ks)(h:IsVs W F xs (kvs.map (·.2)))(hw:IsV W F o w):(putK kvs k w).map (·.1)=(dput ks xs k o).1/\IsVs W F (dput ks xs k o).2 ((putK kvs k w).map (·.2)):=by
 subst e
 have ea:(kvs.any fun kv=>decide (kv.1=k))=(kvs.map (·.1)).any fun k'=>decide (k' = k):=by rw [List.any_map];rfl
 unfold dput putK
 rw [ea]
 split
 ·refine⟨?_,Xj hw h⟩
  rw [Uz]
  congr 1
  funext kv
  simp only [Function.comp]
  split<;>rfl
 ·rw [uD,uD]
  exact⟨rfl,Xk h ⟨w,[],rfl,hw,rfl⟩⟩
theorem zde {ks:List Key}{xs:List T}{k:Key}{o:T}(h:shrs xs=true)(ho:shr o=true):shrs (dput ks xs k o).2=true:=by
 unfold dput
 split
 ·refine zK.mpr fun t ht=>?_
  obtain⟨kv,h1,rfl⟩:=Ur.mp ht
  by_cases hk:kv.1=k
  ·rw [uA hk];exact ho
  ·rw [uq hk];exact zK.mp h _ (UR h1).2
 ·refine zK.mpr fun t ht=>?_
  rcases uC.mp ht with z | z
  ·exact zK.mp h _ z
  ·rw [uj.mp z];exact ho
theorem zf3 {p:Addr}{k:Kd}{xs Γ:List AT}{c ck:AT}{t':T}{Q:Hp->Prop}(st:St W F H (.nd p k xs::c::Γ))(hk:OK W F H ck)(e:subF (.nd true k (eras xs)) (era ck) (era c)=some t')(q:∀ H' k' us,St W F H' (.nd p k' us::Γ)->.nd true k' (eras us)=t'->Q H'):putR (.ref p) (val ck) (val c) H Q:=by
 obtain⟨⟨o,h1,h2⟩,h3⟩:=st.ok.1
 cases k with
 | ob c fs=>cases e
 | ls=>
  obtain⟨i,e1,e⟩:=za e
  obtain⟨j,e2,e⟩:=za e
  obtain⟨ys,e3,e⟩:=za e
  cases e
  cases h2
  obtain⟨l,rfl⟩:=yR e3
  have l':j<xs.length:=by rw [zk,ug] at l;exact l
  have el:(vals xs).length=(eras xs).length:=by rw [zk,ug,ug]
  refine .inl ⟨p,vals xs,i,j,rfl,zx hk e1,h1,by rw [el];exact e2,?_⟩
  have pm:=yS (y:=c) (um l')
  have st2:St W F H (.nd p .ls xs::([c]++Γ)):=st
  have:=st2.mut (k':=.ls) (o:=.lst ((vals xs).set j (val c))) (zs:=xs.set j c) (ws:=[xs[j]]) pm.symm (by show HO.lst _=.lst _;rw [vals,vals,gH])
  refine q _ .ls (xs.set j c) ?_ (by rw [zk,zk,gH])
  exact(this.perm qu).tail
 | dc ks=>
  obtain⟨key,e1,e⟩:=za e
  obtain⟨⟨hl,hs⟩,e⟩:=zW e
  cases e
  obtain⟨sx,so⟩:=uV.mp hs
  obtain⟨kvs,rfl,rfl,e3⟩:=h2
  have iv:=(h3.leaf sx).2
  have ic:=(st.ok.2.1.leaf so).2
  rw [← e3] at iv
  obtain⟨f1,f2⟩:=zdd (k:=key) rfl iv ic
  have hk':=J4 hk e1
  refine .inr ⟨p,_,rfl,.inl ⟨kvs,key,h1,hk',by rw [sizeLine_eq];rw [ug] at hl;exact hl,rfl⟩,?_⟩
  have st0:St W F H (.nd p (.dc (kvs.map (·.1))) xs::Γ):=(st.perm qu).tail
  obtain⟨k4,k5,k6⟩:=st0.leaves f2 (zde sx so)
  have st1:=k4.perm (uB:(leaves _ _++AT.nd p (.dc (kvs.map (·.1))) xs::Γ).Perm (AT.nd p (.dc (kvs.map (·.1))) xs::(leaves _ _++Γ)))
  have st2:=st1.mut (k':=.dc (dput (kvs.map (·.1)) (eras xs) key (era c)).1) (o:=.dK (putK kvs key (val c))) (zs:=leaves _ _) (ws:=xs) uz ⟨_,rfl,f1,k6.symm⟩
  refine q _ _ _ ?_ (by rw [k5])
  exact(st2.perm (uB.symm:(AT.nd p _ _::(xs++Γ)).Perm (xs++AT.nd p _ _::Γ))).right
theorem zf4 {p k e:Xp}(h:S5 W E (WS (.asg (.sub p k) e)) D σ H):tAsg (E5 W E e) (gSub (E5 W E p) (E5 W E k) putR) D σ H:=by
 obtain⟨F,s,τ,vs,γ,K4,D4,R,h,ko⟩:=h
 refine⟨F,s,τ,vs,γ,_,_,R,h,fun F1 H1 s1 x1 τ1 v1 R1 h1=>?_,ko.xk⟩
 refine⟨F1,s1,_,_,γ,_,_,R1,h1,fun F2 H2 s2 x2 τ2 v2 R2 h2=>?_,ko.xk.app [v1]⟩
 refine⟨F2,s2,_,_,γ,_,_,R2,h2,fun F3 H3 s3 x3 τ3 v3 R3 h3=>?_,ko.xk.app [v2,v1]⟩
 obtain⟨s4,τ4,e1,h4⟩:=zj h3
 match τ3,e1 with
 | .al i q::.own o::τ5,e1=>
  obtain⟨kt,e2,e1a⟩:=za e1
  obtain⟨t,e3,e1b⟩:=za e1a
  obtain⟨t',e4,e1c⟩:=za e1b
  clear e1 e1a e1b
  obtain⟨as,bs,Rp⟩:=id R3
  obtain⟨ck,k1,rfl,rfl⟩:=Rp.res e2
  obtain⟨as,bs,Rq⟩:=R3.pop
  obtain⟨u,bs',rfl,hu,et,rfl,st,_⟩:=id (Rq.place e3)
  obtain⟨_,bs2,e0,_,_,Rq'⟩:=Rq.uncons
  cases e0
  obtain⟨b,bs3,rfl,m,st',Rr⟩:=Rq'.uncons
  obtain⟨eb,evb⟩:=m
  cases evb
  cases u with
  | lf t0 v0=>
   have hs:=st.ok.1.1
   rw [show t0=t from et] at hs
   cases t with
   | nd o' k' xs'=>
    cases o'
    ·cases k'<;>cases e4
    ·cases hs
   | _=>cases e4
  | tp pa ys=>cases et;cases e4
  | nd pa kk ys=>
   cases et
   have st2:St W F3 H3 (.nd pa kk ys::b::(setS i q as (hole (.nd pa kk ys))++(bs3++γ))):=st.perm (List.Perm.cons _ (by exact uB))
   have hkk:OK W F3 H3 ck:=k1
   refine zf3 st2 hkk (by rw [eb];exact e4) fun H' k' us st3 et=>?_
   obtain⟨n1,n2⟩:=kN (w:=.nd pa k' us) Rr.ls Rr.ts hu rfl (by rw [show era (.nd pa k' us)=_ from et];exact e1c)
   obtain⟨g1,g2⟩:=vq (w:=hole (.nd pa kk ys)) hu
   have:=st3.inS g1 rfl rfl
   rw [g2] at this
   exact ko.nx F3 H' s4 τ4 σ ⟨_,bs3,this,n1,n2⟩ h4
theorem Xl {f:Str}{c:AT}:∀ {fs:Lh} {xs:List AT} {r:Lh×List T},W9 fs (eras xs) f (era c)=some r->∃ zs ws,eras zs=r.2/\(xs++[c]).Perm (zs++ws)/\∀ kvs:List (Str×V),kvs.map (·.1)=fs->kvs.map (·.2)=vals xs->(putF f (val c) kvs).map (·.1)=r.1/\(putF f (val c) kvs).map (·.2)=vals zs
 | [],[],r,h=>by
  cases h
  refine⟨[c],[],rfl,gX _,fun kvs h1 _=>?_⟩
  cases kvs with
  | nil=>exact⟨rfl,rfl⟩
  | cons _ _=>cases h1
 | [],_::_,r,h=>by cases h
 | _::_,[],r,h=>by cases h
 | g::fs,x::xs,r,h=>by
  have h:cond (decide (g=f)) (some (g::fs,era c::eras xs)) ((W9 fs (eras xs) f (era c)).bind fun r=>some (g::r.1,era x::r.2))=some r:=h
  cases hd:decide (g=f) with
  | true=>
   rw [hd] at h
   cases h
   refine⟨c::xs,[x],rfl,(uz (l₁:=x::xs) (l₂:=[c])).trans ((uz (l₁:=[x]) (l₂:=xs)).cons c),fun kvs h1 h2=>?_⟩
   cases kvs with
   | nil=>cases h1
   | cons a kvs=>
    simp only [ur,gS,vals] at h1 h2
    obtain⟨g',v'⟩:=a
    have eg:g' = g:=h1.1
    subst eg
    simp only [putF,uA (uK hd),ur,vals,h1.2,h2.2,and_self]
  | false=>
   rw [hd] at h
   obtain⟨r',e,h⟩:=za h
   cases h
   obtain⟨zs,ws,k1,k2,k3⟩:=Xl e
   refine⟨x::zs,ws,by rw [eras,k1],k2.cons x,fun kvs h1 h2=>?_⟩
   cases kvs with
   | nil=>cases h1
   | cons a kvs=>
    simp only [ur,gS,vals] at h1 h2
    obtain⟨g',v'⟩:=a
    obtain⟨f1,f2⟩:=k3 kvs h1.2 h2.2
    have eg:g' = g:=h1.1
    subst eg
    simp only [putF,uq (uW hd),ur,vals]
    exact⟨by rw [f1],by rw [f2,← h2.1]⟩
theorem zdf {t t' o:T}{c:Nat}{f:Str}(h:fldF t c f o=some t'):∃ fs xs r,t=.nd true (.ob c fs) xs/\fs.length<1000/\W9 fs xs f o=some r/\t' = .nd true (.ob c r.1) r.2:=by
 unfold fldF at h
 split at h
 ·split at h
  ·rename_i hc
   obtain⟨rfl,hl⟩:=hc
   obtain⟨r,e,h⟩:=za h
   cases h
   exact⟨_,_,r,rfl,hl,e,rfl⟩
  ·cases h
 ·cases h
theorem zf5 {p e:Xp}{c:Nat}{f:Str}(hc:Cls W.K (W.cl c))(hna:qM W.K (W.cl c) f)(h:S5 W E (WS (.asg (.fld p c f) e)) D σ H):sFld W.K (E5 W E p) (E5 W E e) f D σ H:=by
 obtain⟨F,s,τ,vs,γ,K4,D4,R,h,ko⟩:=h
 refine⟨F,s,τ,vs,γ,_,_,R,h,fun F1 H1 s1 x1 τ1 v1 R1 h1=>?_,ko.xk⟩
 refine⟨F1,s1,_,_,γ,_,_,R1,h1,fun F2 H2 s2 x2 τ2 v2 R2 h2=>?_,ko.xk.app [v1]⟩
 obtain⟨s4,τ4,e1,h4⟩:=zj h2
 match x2,τ2,e1 with
 | .al i q,.own o::τ5,e1=>
  obtain⟨t,e3,e1a⟩:=za e1
  obtain⟨t',e4,e1c⟩:=za e1a
  clear e1 e1a
  obtain⟨fs,xs,r,rfl,hl,e5,rfl⟩:=zdf e4
  obtain⟨as,bs,Rq⟩:=R2
  obtain⟨u,bs',rfl,hu,et,rfl,st,_⟩:=id (Rq.place e3)
  obtain⟨_,bs2,e0,_,_,Rq'⟩:=Rq.uncons
  cases e0
  obtain⟨b,bs3,rfl,m,st',Rr⟩:=Rq'.uncons
  obtain⟨eb,evb⟩:=m
  cases evb
  cases u with
  | lf t0 v0=>
   have hs:=st.ok.1.1
   rw [show t0=_ from et] at hs
   cases hs
  | tp pa ys=>cases et
  | nd pa kk ys=>
   cases et
   rw [← eb] at e5
   obtain⟨zs,ws,k1,k2,k3⟩:=Xl e5
   obtain⟨⟨oo,h1',dx,kvs,rfl,h5,h6⟩,_⟩:=st.ok.1
   obtain⟨f1,f2⟩:=k3 kvs h5 h6
   have st2:St W F2 H2 (.nd pa (.ob c fs) ys::([b]++(setS i q as (hole (.nd pa (.ob c fs) ys))++(bs3++γ)))):=st.perm (List.Perm.cons _ (by exact uB))
   have st3:=st2.mut (k':=.ob c r.1) (o:=.ins (W.cl c) dx (putF f (val b) kvs)) k2 ⟨dx,_,rfl,f1,f2⟩
   have st4:=(st3.perm (uB.symm:(AT.nd pa _ _::(ws++_)).Perm (ws++AT.nd pa _ _::_))).right
   obtain⟨n1,n2⟩:=kN (w:=.nd pa (.ob c r.1) zs) Rr.ls Rr.ts hu rfl (by rw [show era (.nd pa (.ob c r.1) zs)=.nd true (.ob c r.1) r.2 by rw [era,k1]];exact e1c)
   obtain⟨g1,g2⟩:=vq (w:=hole (.nd pa (.ob c fs) ys)) hu
   have:=st4.inS g1 rfl rfl
   rw [g2] at this
   refine⟨pa,_,dx,kvs,rfl,h1',hc,hna,by rw [← ug (f:=(·.1)),h5];exact hl,?_⟩
   exact ko.nx F2 _ s4 τ4 σ ⟨_,bs3,this,n1,n2⟩ h4
end L5
namespace L5
open PySem L2 PySem.Spec PyProof.Rows
variable {W:Wd} {E:XS} {F H:Hp} {s τ:Sl} {σ:L2.St} {vs:List V} {γ:List AT} {K K4:KP} {X4:XP} {D:L2.Ends} {D4:Ends}
noncomputable def augI:Op->Int->Int->Int
 | .sub=>fun i j=>i - j
 | _=>fun i j=>i+j
theorem zbr {i:Nat}{o:Op}{e:Xp}(ho:o=.add\/o=.sub)(h:S5 W E (WS (.aug i o e)) D σ H):tAug i (E5 W E e) (ipI (augI o)) D σ H:=by
 obtain⟨F,s,τ,vs,γ,K4,D4,R,h,ko⟩:=h
 obtain⟨x,e1,h⟩:=zo h
 obtain⟨t,e2,h⟩:=zo h
 obtain⟨n,e3,h⟩:=zo h
 obtain⟨v,k1,R1⟩:=R.rd e1
 refine⟨v,k1,F,s,_,_,γ,_,_,R1,h,fun F' H' s' y τ' u R' h'=>?_,ko.xk.app [v]⟩
 obtain⟨ts,τ2,e4,h2⟩:=zj h'
 obtain⟨z,e5,h3⟩:=zo h2
 obtain⟨m,e6,h4⟩:=zo h3
 obtain⟨s3,τ3,e7,h5⟩:=zj h4
 clear h' h2 h3 h4
 cases τ' with
 | nil=>obtain⟨_,_,e⟩:=za e4;cases e
 | cons y0 τ'=>
  obtain⟨A,B,rfl,rfl,rfl,hc,rfl⟩:=yY R' e4
  have fin:∀ {a b:Int},intO (era A)=some a->intO (era B)=some b->z=.int (augI o a b)->ipI (augI o) (val A) (val B) H' fun z H2=>D.nx (σ.set i (some z)) H2:=fun {a b} ea eb ez=>by
   subst ez
   refine⟨a,b,zx hc.1 ea,zx hc.2.1 eb,?_⟩
   exact ko.nx F' H' s3 τ3 _ ((R'.pop.pop.leaf (t:=.int (augI o a b)) (v:=.int (augI o a b)) rfl rfl).setTop e7) h5
  rcases ho with rfl | rfl
  ·have e5:oAdd [era A,era B]=some z:=e5
   rcases zI e5 with e5 | e5
   ·obtain⟨a,b,ea,eb,ez⟩:=zy e5
    exact fin ea eb (uG ez).symm
   ·exfalso
    cases z<;>first | cases e6 | skip
    rcases zI e5 with e5 | e5
    ·obtain⟨_,_,_,_,ez⟩:=zy e5
     obtain⟨_,ez⟩:=zW ez;cases ez
    ·rcases zI e5 with e5 | e5
     ·obtain⟨_,_,_,_,ez⟩:=zy e5
      obtain⟨_,ez⟩:=zW ez;cases ez
     ·obtain⟨_,_,_,_,ez⟩:=zy e5
      obtain⟨_,ez⟩:=zW ez;cases ez
  ·have e5:int2 _ [era A,era B]=some z:=e5
   obtain⟨a,b,ea,eb,ez⟩:=zy e5
   exact fin ea eb (uG ez).symm
theorem KO.whole {vs':List V}{us:List AT}{o:Option T}{K5:KP}{D5:Ends}{D':L2.Ends}(ko:KO W E vs γ K4 D4 D)(l:Xg o us vs vs')(nx:∀ F' H' s' τ' σ',Rep W F' H' s' τ' σ' vs' (us++γ)->K5 s' τ'->D'.nx σ' H')(ct:∀ F' H' s' τ' σ',Rep W F' H' s' τ' σ' vs' (us++γ)->D5.ct s' τ'->D'.ct σ' H')
  (e1:D5.rt=fun r s τ=>bnd2 (unS o s τ) (D4.rt r)) (e2:D5.bk=fun s τ=>bnd2 (unS o s τ) K4) (e3:D5.ex=D4.ex) (e4:D'.rt=D.rt) (e5:D'.bk=D.nx):KO W E vs' (us++γ) K5 D5 D':=by
 refine⟨nx,fun F' H' s' τ' σ' t v R h=>?_,fun F' H' s' τ' σ' R h=>?_,ct,fun x F' H' s' τ' σ' ws c d R hx h=>?_⟩
 ·rw [e1] at h
  rw [e4]
  obtain⟨s2,τ2,e,h⟩:=zj h
  obtain⟨b,rfl,rfl,_,R2⟩:=R.opened
  obtain⟨Γ,st,back⟩:=R2.all
  have R3:Rep W F' H' s' τ' σ' vs' (us++(b::γ)):=back (st.perm (UK _ uB.symm))
  exact ko.rt F' H' s2 τ2 σ' _ _ (R3.unlend l e).push h
 ·rw [e2] at h
  rw [e5]
  obtain⟨s2,τ2,e,h⟩:=zj h
  exact ko.nx F' H' s2 τ2 σ' (R.unlend l e) h
 ·rw [e3] at h
  rcases l with⟨rfl,rfl⟩ | ⟨u,rfl,rfl,rfl⟩
  ·exact ko.ex x F' H' s' τ' σ' ws c d R.dropG hx h
  ·exact ko.ex x F' H' s' τ' σ' (ws++[val u]) c d (by rw [uc];exact R.dropG) hx h
noncomputable def tgR (W:Wd):Tg->TG
 | .v i=>wB i
 | .tup is=>gNs W is
 | _=>fun _ _ _ _=>False
theorem zdg {t:Tg}{d:T}{x:V}{Q:L2.St->Hp->Prop}(R:Rep W F H s τ σ vs γ)(hs:shr d=true)(hd:IsV W F d x)(h:V1 t d s τ K)(q:∀ s' τ' σ',Rep W F H s' τ' σ' vs γ->K s' τ'->Q σ' H):tgR W t x σ H Q:=by
 cases t with
 | v i=>
  obtain⟨s',τ',e,h⟩:=zj h
  exact q s' τ' _ ((R.leaf hs hd).setTop e) h
 | tup is=>
  obtain⟨ds,e1,h⟩:=zo h
  obtain⟨s',τ',e,h⟩:=zj h
  exact Xi (R.leaf hs hd) e1 e fun σ' R'=>q s' τ' σ' R' h
 | sub _ _=>exact h.elim
 | fld _ _ _=>exact h.elim
theorem zdh {t:Tg}{k:IK}{its:List Xp}{b:List Cm}(h:S5 W E (WS (.loop t k its b)) D σ H):tFor (I5 W E k its) (tgR W t) (S5 W E (WSs b)) D σ H:=by
 obtain⟨F,s,τ,vs,γ,K4,D4,R,h,ko⟩:=h
 refine⟨F,s,τ,vs,γ,_,_,R,h,fun ds o s1 τ1 F1 H1 J us vs' it lv R1 h1=>?_,ko.xk⟩
 let I:Nat->Nat->L2.St->Hp->Prop:=fun i m σ' H'=>m=ds.length - i/\i<=ds.length/\∃ F' s' τ',Rep W F' H' s' τ' σ' vs' (us++γ)/\kO t o (WSs b) K4 D4 (ds.drop i) s' τ'
 refine⟨I,⟨ds.length,by lia,uF _,F1,s1,τ1,R1,h1⟩,fun i m σ' H' hI=>?_⟩
 obtain⟨rfl,hle,F',s',τ',R2,hp⟩:=hI
 obtain⟨Γ,st,back⟩:=id R2.all
 have oku:OKs W F' H' us:=by
  rw [uc] at st
  exact st.left
 by_cases hlt:i<ds.length
 ·refine .inr ⟨it.go i F' H' hlt st.fh oku,I (i+1) (ds.length - (i+1)),fun σ2 H2 z=>⟨_,by lia,z⟩,fun x H2 y=>?_⟩
  obtain⟨d,ed,hd⟩:=it.yld i F' H' x H2 hlt st.fh oku y
  obtain⟨F2,st2,iv⟩:=hd _ st
  have R3:Rep W F2 H2 s' τ' σ' vs' (us++γ):=back st2
  have edr:ds.drop i=d::ds.drop (i+1):=by
   rw [UB hlt]
   rw [um hlt] at ed
   cases ed
   rfl
  rw [edr] at hp
  refine zdg R3 (zK.mp it.sh d (uH ed)) iv hp fun s4 τ4 σ4 R4 h4=>⟨F2,s4,τ4,vs',us++γ,_,_,R4,h4,ko.whole lv (fun F5 H5 s5 τ5 σ5 R5 h5=>?_) (fun F5 H5 s5 τ5 σ5 R5 h5=>?_) rfl rfl rfl rfl rfl⟩
  ·exact⟨rfl,by lia,F5,s5,τ5,R5,h5⟩
  ·exact⟨rfl,by lia,F5,s5,τ5,R5,h5⟩
 ·have hi':i=ds.length:=by lia
  subst hi'
  rw [List.drop_length] at hp
  obtain⟨s4,τ4,e4,h4⟩:=zj hp
  exact .inl ⟨it.stop F' H' st.fh oku,ko.nx F' H' s4 τ4 σ' (R2.unlend lv e4) h4⟩
theorem zf6 {t:Xp}{b:List Cm}(h:S5 W E (WS (.whl t b)) D σ H):K6 (T5 W E t) (S5 W E (WSs b)) D σ H:=by
 obtain⟨F,s,τ,vs,γ,K4,D4,R,⟨m0,h⟩,ko⟩:=h
 let I:Nat->L2.St->Hp->Prop:=fun m σ' H'=>∃ F' s' τ',Rep W F' H' s' τ' σ' vs γ/\Jv (fun s τ K=>WT t s τ K D4.ex) (WSs b) K4 D4 m s' τ'
 refine⟨I,⟨m0,F,s,τ,R,h⟩,fun m σ' H' hI=>?_⟩
 obtain⟨F',s',τ',R2,hp⟩:=hI
 cases m with
 | zero=>exact hp.elim
 | succ m=>
  refine⟨F',s',τ',vs,γ,_,_,R2,hp,fun z F1 H1 s1 τ1 R3 h3=>?_,ko.xk⟩
  rcases jC h3 with⟨rfl,h3⟩ | ⟨rfl,h3⟩
  ·rw [uA rfl]
   exact⟨I m,fun σ2 H2 z=>⟨m,UL m,z⟩,F1,s1,τ1,vs,γ,_,_,R3,h3,fun F5 H5 s5 τ5 σ5 R5 h5=>⟨F5,s5,τ5,R5,h5⟩,ko.rt,ko.nx,fun F5 H5 s5 τ5 σ5 R5 h5=>⟨F5,s5,τ5,R5,h5⟩,ko.ex⟩
  ·rw [uq (by decide)]
   exact ko.nx F1 H1 s1 τ1 σ' R3 h3
theorem Rep.seqAt {i:Nat}{p:Lc}{v:V}{t:T}{xs:List T}(R:Rep W F H s (.al i p::τ) σ (v::vs) γ)(e:getP s i p=some t)(e2:sqO t=some xs):∃ a us,v=.ref a/\us.length=xs.length/\(((lsO t).isSome=true/\SqL W.K H a us)\/((lsO t).isSome=false/\SqT W.K H a us))/\∀ m z,((xs[m]?).bind fun u=>cond (shr u) (some (.own u)) (some (.al i (p++[m]))))=some z->∃ w,us[m]? = some w/\Rep W F H s (z::.al i p::τ) σ (w::v::vs) γ:=by
 obtain⟨as,bs,Rp⟩:=id R
 obtain⟨u,bs',rfl,hu,rfl,rfl,st,_⟩:=Rp.place e
 have ep:parts (era u)=some xs:=by
  have:∀ {t:T},sqO t=some xs->parts t=some xs:=fun {t} h=>by
   cases t with
   | nd o k ys=>cases k<;>cases h;rfl
   | tp ys=>exact h
   | ks l ys=>exact h
   | _=>cases h
  exact this e2
 have hb:OK W F H u:=st.ok.1
 obtain⟨pa,us,k1,k2,k3,k4⟩:=Qr R.fh hb ep
 refine⟨pa,us,k1,k3.len,?_,fun m z hz=>?_⟩
 ·revert k2 e2
  cases era u with
  | nd o k ys=>
   intro e2 k2
   cases k<;>cases e2
   exact .inl ⟨rfl,k2⟩
  | tp ys=>intro _ k2;exact .inr ⟨rfl,k2⟩
  | ks l ys=>
   intro _ k2
   cases l
   ·exact .inr ⟨rfl,k2⟩
   ·exact .inl ⟨rfl,k2⟩
  | _=>intro e2;cases e2
 ·obtain⟨x,ex,ez⟩:=za hz
  cases c:shr x with
  | true=>
   rw [c] at ez;cases ez
   obtain⟨w,g1,g2⟩:=k3.now.get ex
   refine⟨w,g1,R.leaf c ?_⟩
   rcases k4 with k4 | ⟨ys,k4,rfl,rfl⟩
   ·obtain⟨w',g3,g4⟩:=(k3.sh k4).get ex
    rw [g1] at g3;cases g3
    exact g4
   ·rw [zk,uv] at ex
    obtain⟨ch,e4,rfl⟩:=uu.mp ex
    rw [uv,e4] at g1
    cases g1
    have:OK W F H ch:=kM (p:=[m]) hb (by simp only [getA,k4,uJ,e4])
    exact(this.leaf c).2
  | false=>
   rw [c] at ez;cases ez
   rcases k4 with k4 | ⟨ys,k4,rfl,rfl⟩
   ·rw [zK.mp k4 x (uH ex)] at c;cases c
   ·rw [zk,uv] at ex
    obtain⟨ch,e4,rfl⟩:=uu.mp ex
    refine⟨val ch,by rw [uv,e4];rfl,as,_,Rp.cons Rp.st.nil ⟨rfl,ch,?_,rfl⟩⟩
    obtain⟨a,g1,g2,_⟩:=ja hu
    unfold getS
    rw [g1]
    exact kS g2 k4 e4
theorem zbs {τ:Sl}{n:Nat×Bool}(h:Vn s τ=some n):∃ i p τ' t xs,τ=.al i p::τ'/\getP s i p=some t/\sqO t=some xs/\xs.length=n.1/\(lsO t).isSome=n.2:=by
 match τ,h with
 | .al i p::τ',h=>
  obtain⟨t,e1,h⟩:=za h
  obtain⟨xs,e2,h⟩:=za h
  cases h
  exact⟨i,p,τ',t,xs,rfl,e1,e2,rfl,rfl⟩
theorem zf7 {τ:Sl}{m:Nat}{n:Nat×Bool}{x:Slot}(h:zd0 m n s τ=some x):∃ i p τ' t xs,τ=.al i p::τ'/\getP s i p=some t/\sqO t=some xs/\xs.length=n.1/\(lsO t).isSome=n.2/\((xs[m]?).bind fun u=>cond (shr u) (some (.own u)) (some (.al i (p++[m]))))=some x:=by
 match τ,h with
 | .al i p::τ',h=>
  obtain⟨t,e1,h⟩:=za h
  obtain⟨xs,e2,h⟩:=za h
  cases c:(xs.length == n.1&&(lsO t).isSome == n.2) with
  | false=>rw [c] at h;cases h
  | true=>
   rw [c] at h
   obtain⟨c1,c2⟩:=uV.mp c
   exact⟨i,p,τ',t,xs,rfl,e1,e2,eq_of_beq c1,eq_of_beq c2,h⟩
def SqA (K:Le)(H:Hp)(l:Bool)(a:Addr)(us:List V):Prop:=(l=true/\SqL K H a us)\/(l=false/\SqT K H a us)
noncomputable def ItA (K:Le)(l:Bool)(a:Addr):It:=cond l (Itl K a) (Itt K a)
theorem zf8 {K:Le}{l:Bool}{a:Addr}{us:List V}{k:Nat}{w:V}(h:SqA K H l a us)(e:us[k]? = some w):(ItA K l a).go k H:=by
 rcases h with⟨rfl,h⟩ | ⟨rfl,h⟩
 ·exact⟨us,w,h,e⟩
 ·exact⟨us,w,h,e⟩
theorem zbt {K:Le}{l:Bool}{a:Addr}{us:List V}{k:Nat}(h:SqA K H l a us)(e:us.length<=k):(ItA K l a).stop k H:=by
 rcases h with⟨rfl,h⟩ | ⟨rfl,h⟩
 ·exact⟨us,h,e⟩
 ·exact⟨us,h,e⟩
theorem zdi {K:Le}{l:Bool}{a:Addr}{us:List V}{k:Nat}{w x:V}{H':Hp}(h:SqA K H l a us)(e:us[k]? = some w)(y:(ItA K l a).yld k H x H'):H' = H/\x=w:=by
 rcases h with⟨rfl,h⟩ | ⟨rfl,h⟩
 ·obtain⟨rfl,y⟩:=y
  have:=y us h
  rw [e] at this;cases this
  exact⟨rfl,rfl⟩
 ·obtain⟨rfl,y⟩:=y
  have:=y us h
  rw [e] at this;cases this
  exact⟨rfl,rfl⟩
theorem zbu {j:Nat}{e:Xp}{b:List Cm}(h:S5 W E (WS (.loopA j e b)) D σ H):tFor (iAny W.K (E5 W E e)) (wB j) (S5 W E (WSs b)) D σ H:=by
 obtain⟨F,s,τ,vs,γ,K4,D4,R,h,ko⟩:=h
 refine⟨F,s,τ,vs,γ,_,_,R,h,fun F1 H1 s1 x1 τ1 v1 R1 h1=>?_,ko.xk⟩
 obtain⟨n,e1,h1⟩:=zo h1
 obtain⟨i,p,τ',t,xs,e2,e3,e4,e5,e6⟩:=zbs e1
 cases e2
 obtain⟨a,us,rfl,k1,k2,k3⟩:=R1.seqAt e3 e4
 rw [e6] at k2
 have body:∃ I:Nat->Nat->L2.St->Hp->Prop,(∃ m,I 0 m σ H1)/\∀ i m σ H,I i m σ H->((ItA W.K n.2 a).stop i H/\D.nx σ H)\/((ItA W.K n.2 a).go i H/\∃ N:L2.St->Hp->Prop,(∀ σ' H',N σ' H'->∃ m',m' < m/\I (i+1) m' σ' H')/\∀ x H',(ItA W.K n.2 a).yld i H x H'->wB j x σ H' fun σ2 H2=>S5 W E (WSs b) { D with nx:=N,ct:=N,bk:=D.nx } σ2 H2):=by
  let I:Nat->Nat->L2.St->Hp->Prop:=fun k m σ' H'=>m=n.1 - k/\k<=n.1/\∃ F' s' τ',Rep W F' H' s' τ' σ' (.ref a::vs) γ/\Ql j n (WSs b) K4 D4 (n.1 - k) s' τ'
  refine⟨I,⟨n.1,rfl,uF _,F1,s1,_,R1,h1⟩,fun k m σ' H' hI=>?_⟩
  obtain⟨rfl,hle,F',s',τ2,R2,hp⟩:=hI
  cases em:n.1 - k with
  | zero=>
   rw [em] at hp
   obtain⟨n',f1,rfl,hp1⟩:=zo hp
   obtain⟨τ3,f2,hp2⟩:=zo hp1
   obtain⟨i',p',τ4,t',ys,g1,g2,g3,g4,g5⟩:=zbs f1
   subst g1
   have f2:some τ4=some τ3:=f2
   cases f2
   obtain⟨a',us',z1,z2,z3,_⟩:=R2.seqAt g2 g3
   cases z1
   rw [g5] at z3
   exact .inl ⟨zbt z3 (by lia),ko.nx F' H' s' _ σ' R2.pop hp2⟩
  | succ m'=>
   rw [em] at hp
   have ek:n.1 - (m' + 1)=k:=by lia
   obtain⟨x,f1,hp1⟩:=zo hp
   obtain⟨s3,τ3,f2,hp2⟩:=zj hp1
   rw [ek] at f1
   obtain⟨i',p',τ4,t',ys,g1,g2,g3,g4,g5,g6⟩:=zf7 f1
   subst g1
   obtain⟨a',us',z1,z2,z3,z4⟩:=R2.seqAt g2 g3
   cases z1
   rw [g5] at z3
   obtain⟨w,z5,R3⟩:=z4 k x g6
   refine .inr ⟨zf8 z3 z5,I (k+1) (n.1 - (k+1)),fun σ2 H2 z=>⟨_,by lia,z⟩,fun x' H2 y=>?_⟩
   obtain⟨rfl,rfl⟩:=zdi z3 z5 y
   have st:∀ F5 H5 s5 τ5 σ5,Rep W F5 H5 s5 τ5 σ5 (.ref a::vs) γ->Ql j n (WSs b) K4 D4 m' s5 τ5->I (k+1) (n.1 - (k+1)) σ5 H5:=fun F5 H5 s5 τ5 σ5 R5 h5=>⟨rfl,by lia,F5,s5,τ5,R5,by rw [show n.1 - (k+1)=m' by lia];exact h5⟩
   refine⟨F',s3,τ3,_,γ,_,_,R3.setTop f2,hp2,st,fun F5 H5 s5 τ5 σ5 t5 v5 R5 h5=>?_,fun F5 H5 s5 τ5 σ5 R5 h5=>?_,st,fun x F5 H5 s5 τ5 σ5 ws c d R5 hx h5=>?_⟩
   ·obtain⟨τ6,f3,h5⟩:=zo h5
    obtain⟨bb,rfl,rfl,_,R6⟩:=R5.opened
    cases τ5 with
    | nil=>cases f3
    | cons y τ5=>cases f3;exact ko.rt F5 H5 s5 _ σ5 _ _ (Rep.push R6.pop) h5
   ·obtain⟨τ6,f3,h5⟩:=zo h5
    cases τ5 with
    | nil=>cases f3
    | cons y τ5=>cases f3;exact ko.nx F5 H5 s5 _ σ5 R5.pop h5
   ·exact ko.ex x F5 H5 s5 τ5 σ5 (ws++[.ref a]) c d (by rw [uc];exact R5) hx h5
 obtain⟨n1,l⟩:=n
 rcases k2 with⟨rfl,k2⟩ | ⟨rfl,k2⟩
 ·exact .inl ⟨a,rfl,⟨us,k2⟩,body⟩
 ·exact .inr (.inr ⟨a,rfl,⟨us,k2⟩,body⟩)
end L5
namespace L5
open PySem L2 PySem.Spec PyProof.Rows
noncomputable def chkC:T->Const->Bool
 | .non,.none=>true
 | .bl b,.bool c=>b == c
 | .int i,.int j=>i == j
 | .str t,.str x=>decide (x=S t)&&decide (t.length<=16777216)
 | _,_=>false
noncomputable def eName:Expr->Option Str
 | .Name x _=>some x
 | _=>none
noncomputable def eCon:Expr->Option (Const×Nat×Pos)
 | .Constant k j p=>some (k,j,p)
 | _=>none
noncomputable def eBin:Expr->Option (Expr×Operator×Expr)
 | .BinOp a o b _=>some (a,o,b)
 | _=>none
noncomputable def eUn:Expr->Option (UnaryOp×Expr)
 | .UnaryOp o a _=>some (o,a)
 | _=>none
noncomputable def eCmp:Expr->Option (Expr×List CmpOp×Lg)
 | .Compare a os bs _=>some (a,os,bs)
 | _=>none
noncomputable def eBo:Expr->Option (BoolOp×Lg)
 | .BoolOp o es _=>some (o,es)
 | _=>none
noncomputable def eIf:Expr->Option (Expr×Expr×Expr)
 | .IfExp t a b _=>some (t,a,b)
 | _=>none
noncomputable def eLst:Expr->Option (Lg)
 | .List es _=>some es
 | _=>none
noncomputable def eTup:Expr->Option (Lg)
 | .Tuple es _ _=>some es
 | _=>none
noncomputable def eSub:Expr->Option (Expr×Expr)
 | .Subscript a b _=>some (a,b)
 | _=>none
noncomputable def eSli:Expr->Option (Option Expr×Option Expr×Option Expr)
 | .Slice a b c _=>some (a,b,c)
 | _=>none
noncomputable def zbv:Expr->Option (Expr×Lg×List Keyword×Pos)
 | .Call f es ks p=>some (f,es,ks,p)
 | _=>none
noncomputable def eAtt:Expr->Option (Expr×Str×Pos)
 | .Attribute e x p=>some (e,x,p)
 | _=>none
noncomputable def eLc:Expr->Option (Expr×List Comprehension×Scope)
 | .ListComp e gs sc _=>some (e,gs,sc)
 | _=>none
noncomputable def eD0:Expr->Bool
 | .Dict [] [] _=>true
 | _=>false
theorem Qv {e:Expr}{x:Str}(h:eName e=some x):∃ p,e=.Name x p:=by cases e<;>first | exact zE h | (cases h;exact⟨_,rfl⟩)
theorem ZO {e:Expr}{x:Const×Nat×Pos}(h:eCon e=some x):e=.Constant x.1 x.2.1 x.2.2:=by cases e<;>first | exact zE h | (cases h;rfl)
theorem zdj {e:Expr}{x:Expr×Operator×Expr}(h:eBin e=some x):∃ p,e=.BinOp x.1 x.2.1 x.2.2 p:=by cases e<;>first | exact zE h | (cases h;exact⟨_,rfl⟩)
theorem Wc {e:Expr}{x:UnaryOp×Expr}(h:eUn e=some x):∃ p,e=.UnaryOp x.1 x.2 p:=by cases e<;>first | exact zE h | (cases h;exact⟨_,rfl⟩)
theorem We {e:Expr}{x:Expr×List CmpOp×Lg}(h:eCmp e=some x):∃ p,e=.Compare x.1 x.2.1 x.2.2 p:=by cases e<;>first | exact zE h | (cases h;exact⟨_,rfl⟩)
theorem zbw {e:Expr}{x:BoolOp×Lg}(h:eBo e=some x):∃ p,e=.BoolOp x.1 x.2 p:=by cases e<;>first | exact zE h | (cases h;exact⟨_,rfl⟩)
theorem zf9 {e:Expr}{x:Expr×Expr×Expr}(h:eIf e=some x):∃ p,e=.IfExp x.1 x.2.1 x.2.2 p:=by cases e<;>first | exact zE h | (cases h;exact⟨_,rfl⟩)
theorem zdk {e:Expr}{x:Lg}(h:eLst e=some x):∃ p,e=.List x p:=by cases e<;>first | exact zE h | (cases h;exact⟨_,rfl⟩)
theorem ZP {e:Expr}{x:Lg}(h:eTup e=some x):∃ k p,e=.Tuple x k p:=by cases e<;>first | exact zE h | (cases h;exact⟨_,_,rfl⟩)
theorem ZQ {e:Expr}{x:Expr×Expr}(h:eSub e=some x):∃ p,e=.Subscript x.1 x.2 p:=by cases e<;>first | exact zE h | (cases h;exact⟨_,rfl⟩)
theorem Yq {e:Expr}{x:Option Expr×Option Expr×Option Expr}(h:eSli e=some x):∃ p,e=.Slice x.1 x.2.1 x.2.2 p:=by cases e<;>first | exact zE h | (cases h;exact⟨_,rfl⟩)
theorem Xm {e:Expr}{x:Expr×Lg×List Keyword×Pos}(h:zbv e=some x):e=.Call x.1 x.2.1 x.2.2.1 x.2.2.2:=by cases e<;>first | exact zE h | (cases h;rfl)
theorem Wf {e:Expr}{x:Expr×Str×Pos}(h:eAtt e=some x):e=.Attribute x.1 x.2.1 x.2.2:=by cases e<;>first | exact zE h | (cases h;rfl)
theorem zbx {e:Expr}{x:Expr×List Comprehension×Scope}(h:eLc e=some x):∃ p,e=.ListComp x.1 x.2.1 x.2.2 p:=by cases e<;>first | exact zE h | (cases h;exact⟨_,rfl⟩)
theorem zh {α:Type}{o:Option α}{f:α->Bool}(h:o.any f=true):∃ x,o=some x/\f x=true:=by
 cases o with
 | none=>cases h
 | some x=>exact⟨x,rfl,h⟩
noncomputable def one? {α:Type}:List α->Option α
 | [a]=>some a
 | _=>none
noncomputable def two? {α:Type}:List α->Option (α×α)
 | [a,b]=>some (a,b)
 | _=>none
theorem yZ {α:Type}{l:List α}{a:α}(h:one? l=some a):l=[a]:=by
 match l,h with
 | [_],h=>cases h;rfl
theorem ZR {α:Type}{l:List α}{a:α×α}(h:two? l=some a):l=[a.1,a.2]:=by
 match l,h with
 | [_,_],h=>cases h;rfl
noncomputable def when (b:Bool){α:Type}(x:α):Option α:=cond b (some x) none
theorem qw {b:Bool}{α:Type}{x y:α}(h:when b x=some y):b=true/\x=y:=by
 cases b with
 | true=>exact⟨rfl,uG h⟩
 | false=>cases h
theorem zc {a b:Bool}(h:(a&&b)=true):a=true/\b=true:=uV.mp h
theorem dec_is {p:Prop} [Decidable p](h:decide p=true):p:=uK h
structure Sy where
 N:Lh
 sc:Scope
 cm:Bool
noncomputable def eDs:Expr->Option (List (Option Expr)×Lg)
 | .Dict ks vs _=>some (ks,vs)
 | _=>none
theorem zga {e:Expr}{x:List (Option Expr)×Lg}(h:eDs e=some x):∃ p,e=.Dict x.1 x.2 p:=by cases e<;>first | exact zE h | (cases h;exact⟨_,rfl⟩)
noncomputable def zby:List (Lc×T)->List (Option Expr)->Lg->Bool
 | [],ks,vs=>ks.isEmpty&&vs.isEmpty
 | p::d,ks,vs=>match ks,vs with
  | some k::ks,v::vs=>(eCon k).any (fun c=>chkC (.str p.1) c.1)&&((eCon v).any (fun c=>chkC p.2 c.1)&&zby d ks vs)
  | _,_=>false
noncomputable def muN:MU->Str
 | .append=>"append"
 | .extend=>"extend"
 | .pop=>"pop"
 | .clear=>"clear"
 | .insert=>"insert"
 | .popI=>"pop"
noncomputable def muAr:MU->Nat
 | .append=>1
 | .extend=>1
 | .popI=>1
 | _=>0
noncomputable def chkV (Y:Sy)(i:Nat)(e:Expr):Bool:=(eName e).any fun x=>decide (Y.N[i]? = some x)&&vis Y.sc x&&okN x
noncomputable def Zo (sc:Scope)(x:Str)(e:Expr):Bool:=(eName e).any fun y=>decide (y=x)&&glb sc y
noncomputable def zbz (sc:Scope):List TyK->Lg->Bool
 | [],es=>es.isEmpty
 | k::ks,es=>match es with
  | e::es=>Zo sc (tyN k) e&&zbz sc ks es
  | []=>false
noncomputable def gen? (gs:List Comprehension):Option (Expr×Expr×Lg):=match gs with
 | [⟨t,i,fs,0⟩]=>some (t,i,fs)
 | _=>none
theorem zbA {gs:List Comprehension}{x:Expr×Expr×Lg}(h:gen? gs=some x):gs=[⟨x.1,x.2.1,x.2.2,0⟩]:=by
 unfold gen? at h
 split at h
 ·cases h;rfl
 ·cases h
noncomputable def lcG (Y:Sy)(scope:Scope)(xs:Lh):Bool:=
 decide ((xs++Y.N.map (renL xs)).Nodup)&&(decide (scope.kind=.function)&&(decide (∀ y∈scope.names,y.2≠.cell)&&(decide (∀ y∈scope.names,y.2=.local->scope.names.lookup y.1=some .local)&&(decide (∀ x∈xs,scope.names.lookup x=some .local)
  && (decide (∀ y∈scope.names,y.2=.free->Y.sc.names.lookup y.1=some .cell)&&(decide (∀ y∈Y.N.map (renL xs),scope.names.lookup y≠some .local)&&decide (scope.names.lookup (Str.ofString "")=none)))))))
noncomputable def ikN:IK->Str
 | .seq=>""
 | .rng=>"range"
 | .enumL=>"enumerate"
 | .enumS=>"enumerate"
 | .zip=>"zip"
 | .rvdL=>"reversed"
 | .rvdT=>"reversed"
noncomputable def ikAr:IK->Nat->Bool
 | .rng,n=>n == 1||n == 2
 | .zip,n=>n == 2
 | _,n=>n == 1
noncomputable def kT (e:Expr):Bool:=(eTup e).isSome
noncomputable def bop:Op->Option Operator
 | .add=>some .Add
 | .sub=>some .Sub
 | .mul=>some .Mult
 | .fdiv=>some .FloorDiv
 | .mod=>some .Mod
 | .pow=>some .Pow
 | _=>none
noncomputable def cop:Op->Option CmpOp
 | .eq=>some .Eq
 | .ne=>some .NotEq
 | .lt=>some .Lt
 | .le=>some .LtE
 | .gt=>some .Gt
 | .ge=>some .GtE
 | .isin=>some .In
 | .notin=>some .NotIn
 | .is=>some .Is
 | .isnot=>some .IsNot
 | _=>none
noncomputable def bnm:Op->Option Str
 | .len=>some "len"
 | .int=>some "int"
 | .str=>some "str"
 | .list=>some "list"
 | .tuple=>some "tuple"
 | .all=>some "all"
 | .max=>some "max"
 | .min=>some "min"
 | _=>none
noncomputable def y7 (sc:Scope)(x:Str)(e:Expr):Option (Lg):=(zbv e).bind fun p=>when (Zo sc x p.1&&(p.2.2.1.isEmpty&&noSt p.2.1)) p.2.1
noncomputable def Jz (x:Str)(e:Expr):Option (Expr×Lg):=(zbv e).bind fun p=>(eAtt p.1).bind fun q=>when (decide (q.2.1=x)&&((q.2.2.endLine == p.2.2.2.line)&&(p.2.2.1.isEmpty&&(noSt p.2.1&&decide (p.2.1.length<30))))) (q.1,p.2.1)
noncomputable def otA (Y:Sy)(e:Expr):Op->Option (Lg)
 | .neg=>(eUn e).bind fun p=>when (decide (p.1=.USub)) [p.2]
 | .sl lo hi=>(eSub e).bind fun p=>(eSli p.2).bind fun q=>when (q.2.2.isNone&&(q.1.isSome == lo&&q.2.1.isSome == hi)) (p.1::(q.1.toList++q.2.1.toList))
 | .rev=>(eSub e).bind fun p=>(eSli p.2).bind fun q=>when (q.1.isNone&&(q.2.1.isNone&&q.2.2.any fun st=>(eUn st).any fun u=>decide (u.1=.USub)&&(eCon u.2).any fun k=>chkC (.int 1) k.1)) [p.1]
 | .isi ks=>(y7 Y.sc "isinstance" e).bind fun xs=>(two? xs).bind fun q=>when ((one? ks).any (fun k=>Zo Y.sc (tyN k) q.2)||(decide (ks.length<=100)&&(eTup q.2).any fun es=>zbz Y.sc ks es)) [q.1]
 | .isc x _=>(y7 Y.sc "isinstance" e).bind fun xs=>(two? xs).bind fun q=>when (Zo Y.sc x q.2) [q.1]
 | .kget x _=>(Jz "get" e).bind fun q=>when (Zo Y.sc x q.1&&decide (q.2.length=2)) q.2
 | _=>none
noncomputable def opA (Y:Sy)(e:Expr)(o:Op):Option (Lg):=
 orO ((bop o).bind fun q=>(eBin e).bind fun p=>when (decide (p.2.1=q)) [p.1,p.2.2])
  (orO ((cop o).bind fun q=>(eCmp e).bind fun p=>(one? p.2.2).bind fun b=>when (decide (p.2.1=[q])&&!behindInMarks q b) [p.1,b])
   (orO ((bnm o).bind fun x=>(y7 Y.sc x e).bind fun xs=>when (Y.cm&&!xs.isEmpty) xs) (otA Y e o)))
noncomputable def cmpA (e:Expr)(o:Op):Option (Lg):=(cop o).bind fun q=>(eCmp e).bind fun p=>(one? p.2.2).bind fun b=>when (decide (p.2.1=[q])&&!behindInMarks q b) [p.1,b]
noncomputable def chnA (e:Expr)(o1 o2:Op):Option (Expr×Expr×Expr):=(eCmp e).bind fun p=>(two? p.2.2).bind fun q=>(cop o1).bind fun c1=>(cop o2).bind fun c2=>when (decide (p.2.1=[c1,c2])&&!lastMarks [c1,c2] [q.1,q.2]) (p.1,q.1,q.2)
noncomputable def hdA (Y:Sy)(e:Expr):Hd->Option (Lg)
 | .fn x=>y7 Y.sc x e
 | .mk _ x=>y7 Y.sc x e
 | .mt _ x=>(Jz x e).bind fun q=>when (qH q.1&&!star q.1) (q.1::q.2)
noncomputable def itA (Y:Sy)(k:IK)(e:Expr)(tup:Bool):Option (Lg):=match k with
 | .seq=>some [e]
 | k=>(y7 Y.sc (ikN k) e).bind fun xs=>when ((tup||(decide (k=.rng)||(decide (k=.rvdL)||decide (k=.rvdT))))&&ikAr k xs.length) xs
mutual
noncomputable def chkE (Y:Sy):Xp->Expr->Bool
 | .v i=>fun e=>chkV Y i e
 | .m i=>fun e=>chkV Y i e
 | .c t=>fun e=>(eCon e).any fun k=>chkC t k.1
 | .g x _=>fun e=>Zo Y.sc x e
 | .fz a=>fun e=>chkE Y a e
 | .ap o es=>fun e=>(opA Y e o).any fun xs=>vc Y es xs
 | .me m o es=>fun e=>(Jz (meN m) e).any fun q=>qH q.1&&(!q.2.isEmpty&&(chkE Y o q.1&&vc Y es q.2))
 | .chn o1 o2 a b c=>fun e=>(chnA e o1 o2).any fun x=>chkE Y a x.1&&(chkE Y b x.2.1&&chkE Y c x.2.2)
 | .bo k es=>fun e=>(eBo e).any fun p=>decide (p.1=if k then .And else .Or)&&(!es.isEmpty&&vc Y es p.2)
 | .not a=>fun e=>(eUn e).any fun p=>decide (p.1=.Not)&&chkE Y a p.2
 | .t _=>fun _=>false
 | .tn _=>fun _=>false
 | .tb _ _=>fun _=>false
 | .ife t a b=>fun e=>(eIf e).any fun p=>chkT Y t p.1&&(chkE Y a p.2.1&&chkE Y b p.2.2)
 | .lst es=>fun e=>(eLst e).any fun p=>noSt p&&(decide (p.length<=1000)&&vc Y es p)
 | .tup es=>fun e=>(eTup e).any fun p=>noSt p&&(decide (p.length<=1000)&&vc Y es p)
 | .dct=>fun e=>eD0 e
 | .dsp d=>fun e=>!d.isEmpty&&(decide (d.length<=15)&&(decide ((d.map (·.1)).Nodup)&&(eDs e).any fun p=>zby d p.1 p.2))
 | .dg a k w=>fun e=>(Jz "get" e).any fun q=>qH q.1&&(two? q.2).any fun r=>chkE Y a q.1&&(chkE Y k r.1&&chkE Y w r.2)
 | .tpl a=>fun e=>Y.cm&&(y7 Y.sc "tuple" e).any fun xs=>(one? xs).any fun x=>chkE Y a x
 | .ix a k=>fun e=>(eSub e).any fun p=>ZI p.2&&(chkE Y a p.1&&chkE Y k p.2)
 | .at a _ f=>fun e=>(eAtt e).any fun p=>decide (p.2.1=f)&&(qH p.1&&chkE Y a p.1)
 | .call h _ _ es=>fun e=>(hdA Y e h).any fun xs=>vc Y es xs
 | .mu m o es=>fun e=>(Jz (muN m) e).any fun q=>decide (m≠.insert)&&(qH q.1&&(decide (q.2.length=muAr m)&&(chkE Y o q.1&&vc Y es q.2)))
 | .lc elt n k its ifs=>fun e=>(eLc e).any fun p=>(gen? p.2.1).any fun g=>Y.cm&&(VZ g.2.1&&(decide (g.2.2.length<=1)&&((itA Y k g.2.1 (kT g.1)).any (fun xs=>vc Y its xs) &&
   (tgN g.1).any fun q=>decide (q.2.length=n)&&(decide (q.1=decide (n≠1))&&(lcG Y p.2.2 q.2&&(chkE ⟨q.2++Y.N.map (renL q.2),relS p.2.2 Y.sc,true⟩ elt p.1&&Yr ⟨q.2++Y.N.map (renL q.2),relS p.2.2 Y.sc,true⟩ ifs g.2.2))))))
noncomputable def vc (Y:Sy):List Xp->Lg->Bool
 | []=>fun es=>es.isEmpty
 | c::cs=>fun es=>match es with
  | e::es=>chkE Y c e&&vc Y cs es
  | []=>false
noncomputable def chkT (Y:Sy):Xp->Expr->Bool
 | .t a=>fun e=>plainT e&&chkE Y a e
 | .tn a=>fun e=>(eUn e).any fun p=>decide (p.1=.Not)&&chkT Y a p.2
 | .tb k es=>fun e=>(eBo e).any fun p=>decide (p.1=if k then .And else .Or)&&(!es.isEmpty&&Yr Y es p.2)
 | .ap o es=>fun e=>(cmpA e o).any fun xs=>vc Y es xs
 | .chn o1 o2 a b c=>fun e=>(chnA e o1 o2).any fun x=>chkE Y a x.1&&(chkE Y b x.2.1&&chkE Y c x.2.2)
 | _=>fun _=>false
noncomputable def Yr (Y:Sy):List Xp->Lg->Bool
 | []=>fun es=>es.isEmpty
 | c::cs=>fun es=>match es with
  | e::es=>chkT Y c e&&Yr Y cs es
  | []=>false
end
variable (W:Wd)
noncomputable def Ys:Op->Prop
 | .isi ks=>W.mg "isinstance" = none/\∀ k∈ks,W.mg (tyN k)=none
 | .isc x c=>W.mg "isinstance" = none/\IsCl W x c
 | .kget x d=>KGet W x d
 | o=>match bnm o with
  | some x=>W.mg x=none
  | none=>True
def GlV (x:Str)(t:T):Prop:=shr t=true/\∃ v,(∀ F:Hp,IsV W F t v)/\∃ u,W.mg x=some u/\RelV v u
structure OkMt (k:Nat)(C:Addr)(m:Str)(ps:Lh)(sp:Sp):Prop where
 ex:∃ (f:Addr) (fd:FuncData),Cls W.K C/\Meth W.K C m f/\Binds W.K fd ps []/\FnOk W.P W.w W.K W.mg W.base (CXE W.P W.w) k f fd ps sp
structure OkMk (k:Nat)(C:Addr)(x:Str)(ps:Lh)(sp:Sp):Prop where
 ex:∃ (f:Addr) (fd:FuncData),Mk W.K C f/\Binds W.K fd ps []/\W.mg x=some (.ref C)/\FnOk W.P W.w W.K W.mg W.base (CXE W.P W.w) k f fd ps sp
variable (k:Nat)
noncomputable def zhM:Hd->List Md->Fn->Prop
 | .fn x,ms,f=>∃ k' ps,k'<=k/\OkX W.P W.w W.K W.mg W.base k' x ps (SpM W ms f)
 | .mt c x,ms,f=>∃ k' ps,k'<=k/\OkMt W k' (W.cl c) x ps (SpM W ms f)
 | .mk c x,ms,f=>∃ k' ps,k' + 1<=k/\OkMk W k' (W.cl c) x ps (SpM W (.mu::ms) f)
noncomputable def zbB:IK->Prop
 | .seq=>True
 | k=>W.mg (ikN k)=none
mutual
noncomputable def Need:Xp->Prop
 | .g x t=>GlV W x t
 | .fz a=>Need a
 | .ap o es=>Ys W o/\wV es
 | .me _ o es=>Need o/\wV es
 | .chn _ _ a b c=>Need a/\Need b/\Need c
 | .bo _ es=>wV es
 | .not a=>Need a
 | .t a=>Need a
 | .tn a=>Need a
 | .tb _ es=>wV es
 | .ife t a b=>Need t/\Need a/\Need b
 | .lst es=>wV es
 | .tup es=>wV es
 | .dg a k w=>Need a/\Need k/\Need w
 | .tpl a=>W.mg "tuple" = none/\Need a
 | .ix a k=>Need a/\Need k
 | .at a c f=>(Cls W.K (W.cl c)/\qM W.K (W.cl c) f)/\Need a
 | .call h ms f es=>zhM W k h ms f/\wV es
 | .mu _ o es=>Need o/\wV es
 | .lc elt _ i its ifs=>zbB W i/\Need elt/\wV its/\wV ifs
 | _=>True
noncomputable def wV:List Xp->Prop
 | []=>True
 | e::es=>Need e/\wV es
end
end L5
namespace L5
open PySem L2 PySem.Spec PyProof.Rows
variable {W:Wd} {E:XS} {k:Nat} {X:Cx} {Y:Sy} {H:Hp} {σ:L2.St} {Q:VK}
structure Ctx (W:Wd)(k:Nat)(X:Cx)(Y:Sy)(E:XS):Prop where
 hP:X.prog=W.P
 hw:X.w=W.w
 hK:X.K=W.K
 hmg:X.mg=W.mg
 hb:X.base=W.base
 hN:X.N=Y.N
 nd:Y.N.Nodup
 hs:X.env.scope=Y.sc
 hc:X.calm=Y.cm
 rm:Room k X.A
 th:Thr X E
theorem Ctx.hu (C:Ctx W k X Y E):X.A.units+64<cLine:=by
 have:=C.rm.un
 lia
theorem zd5 {x:Str}(h:okN x=true):(x == ("__debug__":Str))=false/\(x == ("__classdict__":Str))=false:=by
 obtain⟨h1,h2⟩:=zc h
 exact⟨by simpa using h1,by simpa using h2⟩
theorem Ctx.gl (C:Ctx W k X Y E){x:Str}{e:Expr}(h:Zo Y.sc x e=true):∃ p,e=.Name x p/\Gl X x/\(x == ("__debug__":Str))=false:=by
 obtain⟨y,h1,h2⟩:=zh h
 obtain⟨p,rfl⟩:=Qv h1
 obtain⟨h3,h4⟩:=zc h2
 obtain⟨h5,h6⟩:=zc h4
 have h7:=dec_is h3
 subst h7
 refine⟨p,rfl,?_,(zd5 h6).1⟩
 show X.env.scope.names.lookup _=_
 rw [C.hs];exact dec_is h5
theorem Ctx.var (C:Ctx W k X Y E){e:Expr}{i:Nat}(h:chkV Y i e=true):PE X e (tVar i):=by
 obtain⟨x,h1,h2⟩:=zh h
 obtain⟨pos,rfl⟩:=Qv h1
 obtain⟨h3,h4⟩:=zc h2
 obtain⟨h1,h2⟩:=zc h3
 obtain⟨d1,d2⟩:=zd5 h4
 refine pv i (by rw [C.hN];exact dec_is h1) ?_ d1 d2
 rw [C.hs]
 rcases Uo.mp h2 with z | z
 ·rcases Uo.mp z with z | z
  ·exact .inl (dec_is z)
  ·exact .inr (.inl (dec_is z))
 ·exact .inr (.inr (dec_is z))
theorem Ctx.blk {scope:Scope}{xs:Lh}(C:Ctx W k X Y E)(hcm:Y.cm=true)(h:lcG Y scope xs=true):vt X xs scope/\∀ (cl:List (Str×Addr)) (Ca:Addr) (s3:Shared) (H3:Hp) (fp:Ld),Ctx W k (blkG X xs scope cl Ca s3 H3 fp) ⟨xs++Y.N.map (renL xs),relS scope Y.sc,true⟩ noE:=by
 obtain⟨h1,h⟩:=zc h
 obtain⟨h2,h⟩:=zc h
 obtain⟨h3,h⟩:=zc h
 obtain⟨h4,h⟩:=zc h
 obtain⟨h5,h⟩:=zc h
 obtain⟨h6,h⟩:=zc h
 obtain⟨h7,h8⟩:=zc h
 refine⟨⟨by rw [C.hN];exact dec_is h1,dec_is h2,dec_is h3,dec_is h4,dec_is h5,fun y hy hf=>?_,by rw [C.hN];exact dec_is h7,dec_is h8,C.hc.trans hcm⟩,fun cl Ca s3 H3 fp=>?_⟩
 ·show X.env.scope.names.lookup y.1=some .cell
  rw [C.hs];exact dec_is h6 y hy hf
 exact⟨C.hP,C.hw,C.hK,C.hmg,C.hb,by show xs++X.N.map (renL xs)=_;rw [C.hN],dec_is h1,by rw [← C.hs];rfl,C.hc.trans hcm,C.rm,fun e s' z=>by
  obtain⟨_,_,_,_,_,_,_,_,_,_,_,_,z⟩:=z
  exact z.elim⟩
theorem Ctx.tgt {scope:Scope}{tg:Expr}{q:Bool×Lh}(C:Ctx W k X Y E)(L:vt X q.2 scope)(h:tgN tg=some q):∀ (cl:List (Str×Addr)) (Ca:Addr) (s3:Shared) (H3:Hp) (fp:Ld),PG (blkG X q.2 scope cl Ca s3 H3 fp) tg (gOf W.K q.1 q.2.length):=fun cl Ca s3 H3 fp=>by
 rw [← C.hK]
 refine zfY (X:=blkG X q.2 scope cl Ca s3 H3 fp) L.calm L.nd (fun _=>rfl) h (fun k x hx=>?_) fun x hx=>?_
 ·show(q.2++X.N.map (renL q.2))[k]? = some x
  rw [Ui (uM.mp hx).1];exact hx
 ·have e:(blkG X q.2 scope cl Ca s3 H3 fp).env.scope.names.lookup x=(scope.names.lookup x).map fun k=>if (k == NameKind.free&&X.env.scope.kind == .function&&X.env.kindOf x == some .cell) then NameKind.cell else k:=wD x scope.names
  rw [e,L.var x hx]
  rfl
theorem Vs {t:T}{c:Const}{j:Nat}{pos:Pos}(h:chkC t c=true):shr t=true/\∃ v,(∀ X,PE X (.Constant c j pos) (tC v))/\∀ F:Hp,IsV W F t v:=by
 cases t with
 | non=>cases c<;>first | exact zt h | exact⟨rfl,.non,fun X=>zet,fun F=>rfl⟩
 | bl b=>
  cases c<;>first | exact zt h | skip
  rename_i c
  cases (eq_of_beq h:b=c)
  exact⟨rfl,.bl b,fun X=>zgT,fun F=>rfl⟩
 | int i=>
  cases c<;>first | exact zt h | skip
  rename_i c
  cases (eq_of_beq h:i=c)
  exact⟨rfl,.int i,fun X=>KY,fun F=>rfl⟩
 | str l=>
  cases c<;>first | exact zt h | skip
  obtain⟨h1,h2⟩:=zc h
  exact⟨rfl,.str (S l),fun X=>pe_S (dec_is h1),fun F=>⟨rfl,dec_is h2⟩⟩
 | _=>cases c<;>exact zt h
noncomputable def PEs (X:Cx)(W:Wd)(E:XS):List Xp->Lg->Prop
 | [],es=>es=[]
 | c::cs,es=>∃ e r,es=e::r/\PE X e (E5 W E c)/\PEs X W E cs r
theorem j7:∀ {cs:List Xp} {es:Lg},PEs X W E cs es->noSt es=true->PA X es (A5 W E cs)
 | [],_,h,_=>by rw [show _=[] from h];exact Yd kF fun σ H Q=>kR
 | c::cs,_,⟨e,r,h,h1,h2⟩,hs=>by
  subst h
  obtain⟨s1,s2⟩:=zr hs
  exact Yd (wm h1 (j7 h2 s2) (ze s1)) fun σ H Q=>zc2
theorem pes1 {cs:List Xp}{a:Expr}(h:PEs X W E cs [a]):∃ c,cs=[c]/\PE X a (E5 W E c):=by
 match cs,h with
 | [c],⟨e,r,h,h1,_⟩=>cases h;exact⟨c,rfl,h1⟩
 | _::_::_,⟨e,r,h,h1,e2,r2,h2,_⟩=>cases h;cases h2
theorem pes2 {cs:List Xp}{a b:Expr}(h:PEs X W E cs [a,b]):∃ c d,cs=[c,d]/\PE X a (E5 W E c)/\PE X b (E5 W E d):=by
 match cs,h with
 | c::cs,⟨e,r,h,h1,h2⟩=>
  cases h
  obtain⟨d,rfl,h3⟩:=pes1 h2
  exact⟨c,d,rfl,h1,h3⟩
theorem pes3 {cs:List Xp}{a b c:Expr}(h:PEs X W E cs [a,b,c]):∃ x y z,cs=[x,y,z]/\PE X a (E5 W E x)/\PE X b (E5 W E y)/\PE X c (E5 W E z):=by
 match cs,h with
 | x::cs,⟨e,r,h,h1,h2⟩=>
  cases h
  obtain⟨y,z,rfl,h3,h4⟩:=pes2 h2
  exact⟨x,y,z,rfl,h1,h3,h4⟩
noncomputable abbrev tAp (W:Wd)(E:XS)(o:Op)(es:List Xp):TE:=fun σ H Q=>A5 W E es σ H fun us H'=>rN W (opF o) us H' Q
theorem zgb {o:Op}{q:Operator}(h:bop o=some q):Zl W q (opF o):=by
 cases o<;>first | exact zE h | cases h
 ·exact zfs
 ·exact zfl
 ·exact zfm
 ·exact zfn
 ·exact zfo
 ·exact zfp
theorem kU {o:Op}{q:CmpOp}(h:cop o=some q):xw W q (opF o):=by
 cases o<;>first | exact zE h | cases h
 ·exact zhm
 ·exact zhn
 ·exact zho
 ·exact zhp
 ·exact zhq
 ·exact zhr
 ·exact zhs
 ·exact zfu
 ·exact zht
 ·exact zfv
theorem zhN {o:Op}{x:Str}(h:bnm o=some x)(n:Ys W o):BiOk W x (opF o)/\W.mg x=none:=by
 cases o<;>first | exact zE h | cases h
 ·exact⟨zfy,n⟩
 ·exact⟨zcV,n⟩
 ·exact⟨zcW,n⟩
 ·exact⟨zcX,n⟩
 ·exact⟨za3,n⟩
 ·exact⟨zfz,n⟩
 ·exact⟨zfA,n⟩
 ·exact⟨zfB,n⟩
theorem Ctx.call (C:Ctx W k X Y E){x:Str}{e:Expr}{xs:Lg}(h:y7 Y.sc x e=some xs):∃ p pos,e=.Call (.Name x p) xs [] pos/\Gl X x/\(x == ("__debug__":Str))=false/\noSt xs=true:=by
 obtain⟨p,h1,h2⟩:=za h
 obtain⟨h3,rfl⟩:=qw h2
 obtain⟨h4,h5⟩:=zc h3
 obtain⟨h6,h7⟩:=zc h5
 obtain⟨q,hq,g1,g2⟩:=C.gl h4
 refine⟨q,p.2.2.2,?_,g1,g2,h7⟩
 rw [Xm h1,hq,uR.mp h6]
theorem y8 {x:Str}{e:Expr}{q:Expr×Lg}(h:Jz x e=some q):∃ apos pos,e=.Call (.Attribute q.1 x apos) q.2 [] pos/\(apos.endLine == pos.line)=true/\noSt q.2=true/\q.2.length<30:=by
 obtain⟨p,h1,h2⟩:=za h
 obtain⟨r,h3,h4⟩:=za h2
 obtain⟨h5,rfl⟩:=qw h4
 obtain⟨h6,h7⟩:=zc h5
 obtain⟨h8,h9⟩:=zc h7
 obtain⟨h10,h11⟩:=zc h9
 obtain⟨h12,h13⟩:=zc h11
 refine⟨r.2.2,p.2.2.2,?_,h8,h12,dec_is h13⟩
 rw [Xm h1,Wf h3,dec_is h6,uR.mp h10]
theorem zd6 (C:Ctx W k X Y E){t:TyK}{e:Expr}(h:Zo Y.sc (tyN t) e=true)(hb:W.mg (tyN t)=none):star e=false/\PE X e (tC (.ty (tyN t))):=by
 obtain⟨pos,rfl,hg,_⟩:=C.gl h
 refine⟨rfl,?_⟩
 rw [← C.hmg] at hb
 cases t
 ·exact kH hb zaA rfl hg (by decide) (by decide)
 ·exact kH hb zaB rfl hg (by decide) (by decide)
 ·exact kH hb zcE rfl hg (by decide) (by decide)
 ·exact kH hb VT rfl hg (by decide) (by decide)
 ·exact kH hb Qa rfl hg (by decide) (by decide)
 ·exact kH hb (by rfl) rfl hg (by decide) (by decide)
theorem zbC (C:Ctx W k X Y E):∀ {ks:List TyK} {es:Lg},zbz Y.sc ks es=true->(∀ t∈ks,W.mg (tyN t)=none)->PA X es (tTys (ks.map tyN))
 | [],es,h,_=>by
  rw [uR.mp h]
  exact kF
 | t::ks,[],h,hb=>zt h
 | t::ks,e::es,h,hb=>by
  obtain⟨h1,h2⟩:=zc h
  obtain⟨p1,p2⟩:=zd6 C h1 (hb t ui)
  exact wm p2 (zbC C h2 fun k' hk=>hb k' (uk _ hk)) (ze p1)
noncomputable def IsP:Option V->Value->Prop
 | none,u=>u=.none
 | some v,u=>RelV v u
noncomputable abbrev TV:=L2.St->Hp->(Option V->Hp->Prop)->Prop
def PV (X:Cx)(e:Option Expr)(t:TV):Prop:=∀ (pins:List (Addr×Obj)) (s:Shared) (σ:L2.St) (H:Hp) (Q:Option V->Hp->Prop),Inv X pins σ H s->t σ H Q->wpAny (model X.prog X.w) X.A (evalPart e X.env) (fun u s'=>∃ o H',Inv X pins σ H' s'/\IsP o u/\Q o H') X.xe s
theorem ZS:PV X none (fun _ H Q=>Q none H):=by
 intro pins s σ H Q I h
 rw [evalPart_none]
 exact wpAny_pure ⟨none,H,I,rfl,h⟩
theorem ZT {e:Expr}{te:TE}(h:PE X e te):PV X (some e) (fun σ H Q=>te σ H fun x H1=>Q (some x) H1):=by
 intro pins s σ H Q I hw
 rw [evalPart_some]
 exact thn (h pins s σ H _ I hw) fun u s1 ⟨x,H1,I1,r1,q1⟩=>⟨some x,H1,I1,r1,q1⟩
noncomputable def intP:Option V->Option Int->Prop
 | none,i=>i=none
 | some v,i=>∃ j,v=.int j/\i=some j
theorem Yt {o:Option V}{u:Value}{i:Option Int}(r:IsP o u)(h:intP o i):IsPart u i:=by
 cases o with
 | none=>cases r;cases h;exact .none
 | some v=>
  obtain⟨j,rfl,rfl⟩:=h
  obtain⟨t,rfl⟩:=r
  exact .int j t
theorem vS {r:V->Option Int->Option Int->Hp->VK->Prop}{e:Expr}{te:TE}{lo hi:Option Expr}{tl th:TV}{pos p2:Pos}(hr:SlR X r)(he:PE X e te)(hl:PV X lo tl)(hu:PV X hi th):PE X (.Subscript e (.Slice lo hi none p2) pos) (fun σ H Q=>te σ H fun x H1=>tl σ H1 fun l H2=>th σ H2 fun u H3=>∃ i j,intP l i/\intP u j/\r x i j H3 Q):=by
 intro pins s σ H Q I h
 refine Subscript_ (thn (he pins s σ H _ I h) fun v s1 ⟨x,H1,I1,r1,q1⟩=>?_)
 refine wpAny_Slice (thn (hl pins s1 σ H1 _ I1 q1) fun vl s2 ⟨l,H2,I2,pl,q2⟩=>thn (hu pins s2 σ H2 _ I2 q2) fun vu s3 ⟨u,H3,I3,pu,i,j,k1,k2,q3⟩=>?_)
 rw [evalPart_none]
 refine wpAny_pure ?_
 have I4:Inv X pins σ H3 { s3 with heap:=s3.heap.push { cls:=.type "slice",data:=.fields #[vl,vu,.none] } }:=I3.kept (t':=s3.toks) fun b ob q=>Heap.get?_push_of_some _ q
 obtain⟨T,id,hT,ht,hg⟩:=hr pins { s3 with heap:=s3.heap.push { cls:=.type "slice",data:=.fields #[vl,vu,.none] } } σ H3 x v vl vu i j s3.heap.objs.size Q I4 r1 (Heap.IsSliceOf.new ..) (Yt pl k1) (Yt pu k2) q3
 show wpAny (model X.prog X.w) X.A (subscriptTail e (.Slice lo hi none p2) v (.ref s3.heap.objs.size)) (EP X pins σ Q) X.xe { s3 with heap:=s3.heap.push { cls:=.type "slice",data:=.fields #[vl,vu,.none] } }
 exact tail_any (ops:=[.ref s3.heap.objs.size,v]) ht hT hg (by with_unfolding_all rfl)
theorem zbD {c d e:Xp}{Q:List V->Hp->Prop}(h:A5 W E [c,d,e] σ H Q):E5 W E c σ H fun x H1=>E5 W E d σ H1 fun y H2=>E5 W E e σ H2 fun z H3=>Q [x,y,z] H3:=by
 obtain⟨F,s,τ,vs,γ,K,X4,R,h,q,x⟩:=h
 refine⟨F,s,τ,vs,γ,_,X4,R,h,fun F' H' s' y τ' v R' h'=>?_,x⟩
 refine⟨F',s',y::τ',v::vs,γ,_,X4,R',h',fun F2 H2 s2 y2 τ2 u R2 h2=>?_,x.app [v]⟩
 exact⟨F2,s2,y2::τ2,u::v::vs,γ,_,X4,R2,h2,fun F3 H3 s3 y3 τ3 w R3 h3=>q F3 H3 s3 _ [v,u,w] rfl R3 h3,x.app [u,v]⟩
end L5
namespace L5
open PySem L2 PySem.Spec PyProof.Rows
variable {W:Wd} {E:XS} {k:Nat} {X:Cx} {Y:Sy} {H:Hp} {σ:L2.St} {Q:VK}
theorem Yu {F:Hp}{a:AT}{Γ:List AT}{z:T}{lo hi:Option Int}(ha:OK W F H a)(e:slO (era a) lo hi=some z)(st:St W F H Γ)(q:∀ F' H' w,St W F' H' (w::Γ)->era w=z->Q (val w) H'):rSl W (val a) lo hi H Q:=⟨F,[a],Γ,z,⟨ha,trivial⟩,rfl,e,st,q⟩
theorem sl1 {x:V}(h:rN W (oSl false false) [x] H Q):rSl W x none none H Q:=by
 obtain⟨F,as,Γ,z,h1,h2,h3,h4,h5⟩:=h
 match as,h2 with
 | [a],h2=>cases h2;exact Yu h1.1 h3 h4 h5
theorem sl2 {lo:Bool}{x y:V}(h:rN W (oSl lo !lo) [x,y] H Q):∃ i:Int,y=.int i/\rSl W x (cond lo (some i) none) (cond lo none (some i)) H Q:=by
 obtain⟨F,as,Γ,z,h1,h2,h3,h4,h5⟩:=h
 match as,h2 with
 | [a,b],h2=>
  cases h2
  cases lo with
  | true=>
   obtain⟨i,e1,e⟩:=za h3
   exact⟨i,zx h1.2.1 e1,Yu h1.1 e h4 h5⟩
  | false=>
   obtain⟨i,e1,e⟩:=za h3
   exact⟨i,zx h1.2.1 e1,Yu h1.1 e h4 h5⟩
theorem sl3 {x y w:V}(h:rN W (oSl true true) [x,y,w] H Q):∃ i j:Int,y=.int i/\w=.int j/\rSl W x (some i) (some j) H Q:=by
 obtain⟨F,as,Γ,z,h1,h2,h3,h4,h5⟩:=h
 match as,h2 with
 | [a,b,c],h2=>
  cases h2
  obtain⟨i,j,e1,e2,e⟩:=zy h3
  exact⟨i,j,zx h1.2.1 e1,zx h1.2.2.1 e2,Yu h1.1 e h4 h5⟩
theorem zgc {x:V}(h:rN W oRev [x] H Q):∃ a xs,x=.ref a/\SqL W.K H a xs/\∀ p,H p=none->Q (.ref p) (upd H p (.lst xs.reverse)):=by
 obtain⟨F,a,Γ,z,g,ha,rfl,e,st,q⟩:=Xb h
 obtain⟨xs,e1,e⟩:=za e
 cases e
 obtain⟨e1,s⟩:=xc e1
 obtain⟨p,vs,k1,k2,k3⟩:=wH g ha e1
 exact⟨p,vs,k1,k2,kQ st q (Qu s) (k3.sh s).rev⟩
theorem zhO (C:Ctx W k X Y E){o:Op}{e:Expr}{xs:Lg}{es:List Xp}(h:otA Y e o=some xs)(n:Ys W o)(p:PEs X W E es xs):PE X e (tAp W E o es):=by
 cases o with
 | neg=>
  obtain⟨q,h1,h2⟩:=za h
  obtain⟨h3,rfl⟩:=qw h2
  obtain⟨pos,rfl⟩:=Wc h1
  obtain⟨c,rfl,p1⟩:=pes1 p
  rw [dec_is h3]
  exact zl (zdL zfw p1) fun σ H Q h=>yr h
 | sl lo hi=>
  obtain⟨q,h1,h2⟩:=za h
  obtain⟨r,h3,h4⟩:=za h2
  obtain⟨h5,rfl⟩:=qw h4
  obtain⟨h6,h7⟩:=zc h5
  obtain⟨h8,h9⟩:=zc h7
  obtain⟨pos,rfl⟩:=ZQ h1
  obtain⟨pos2,hq⟩:=Yq h3
  rw [hq,UU.mp h6]
  obtain⟨rlo,rhi,rst⟩:=r
  cases (eq_of_beq h8:rlo.isSome=lo)
  cases (eq_of_beq h9:rhi.isSome=hi)
  cases rlo with
  | none=>
   cases rhi with
   | none=>
    obtain⟨c,rfl,p1⟩:=pes1 p
    exact zl (vS (V8 C.hK) p1 ZS ZS) fun σ H Q h=>ji (yr h) fun x H1 h=>⟨none,none,rfl,rfl,sl1 h⟩
   | some hi=>
    obtain⟨c,d,rfl,p1,p2⟩:=pes2 p
    exact zl (vS (V8 C.hK) p1 ZS (ZT p2)) fun σ H Q h=>ji (Qq h) fun x H1 h=>ji h fun y H2 h=>by
     obtain⟨i,e,h⟩:=sl2 (lo:=false) h
     exact⟨none,some i,rfl,⟨i,e,rfl⟩,h⟩
  | some lo=>
   cases rhi with
   | none=>
    obtain⟨c,d,rfl,p1,p2⟩:=pes2 p
    exact zl (vS (V8 C.hK) p1 (ZT p2) ZS) fun σ H Q h=>ji (Qq h) fun x H1 h=>ji h fun y H2 h=>by
     obtain⟨i,e,h⟩:=sl2 (lo:=true) h
     exact⟨some i,none,⟨i,e,rfl⟩,rfl,h⟩
   | some hi=>
    obtain⟨c,d,f,rfl,p1,p2,p3⟩:=pes3 p
    exact zl (vS (V8 C.hK) p1 (ZT p2) (ZT p3)) fun σ H Q h=>ji (zbD h) fun x H1 h=>ji h fun y H2 h=>ji h fun z H3 h=>by
     obtain⟨i,j,e1,e2,h⟩:=sl3 h
     exact⟨some i,some j,⟨i,e1,rfl⟩,⟨j,e2,rfl⟩,h⟩
 | rev=>
  obtain⟨q,h1,h2⟩:=za h
  obtain⟨r,h3,h4⟩:=za h2
  obtain⟨h5,rfl⟩:=qw h4
  obtain⟨h6,h7⟩:=zc h5
  obtain⟨h8,h9⟩:=zc h7
  obtain⟨pos,rfl⟩:=ZQ h1
  obtain⟨pos2,hq⟩:=Yq h3
  obtain⟨st,e1,e2⟩:=zh h9
  obtain⟨u,e3,e4⟩:=zh e2
  obtain⟨pos3,rfl⟩:=Wc e3
  obtain⟨e5,e6⟩:=zc e4
  obtain⟨kk,e7,e8⟩:=zh e6
  have e9:kk.1=.int 1:=by
   revert e8
   cases kk.1<;>intro e8<;>first | exact zt e8 | exact congrArg _ (eq_of_beq e8).symm
  obtain⟨c,rfl,p1⟩:=pes1 p
  rw [hq,UU.mp h6,UU.mp h8,e1,dec_is e5,ZO e7,e9]
  refine zl (zcO p1 zhk) fun σ H Q h=>ji (yr h) fun x H1 h=>?_
  rw [C.hK]
  exact zgc h
 | isi ks=>
  obtain⟨ys,h1,h2⟩:=za h
  obtain⟨q,h3,h4⟩:=za h2
  obtain⟨h5,rfl⟩:=qw h4
  obtain⟨np,pos,rfl,hg,hd,hs⟩:=C.call h1
  obtain⟨c,rfl,p1⟩:=pes1 p
  rw [ZR h3] at hs ⊢
  obtain⟨s1,s2⟩:=zr hs
  have hb:X.mg "isinstance" = none:=by rw [C.hmg];exact n.1
  rcases Uo.mp h5 with h5 | h5
  ·obtain⟨t,h6,h7⟩:=zh h5
   cases yZ h6
   obtain⟨t1,t2⟩:=zd6 C h7 (n.2 t (uj.mpr rfl))
   exact zl (wC (Kj C.hK) hg hb xb (wm p1 (wm t2 kF (ze t1)) (ze s1)) (by decide) (by decide) (ze s1) (zT s2)) fun σ H Q h=>ji (yr h) fun x H1 h=>zcZ h
  ·obtain⟨hl,h5⟩:=zc h5
   obtain⟨es,h6,h7⟩:=zh h5
   obtain⟨kk,pt,hx2⟩:=ZP h6
   have hst:star q.2=false:=(zr s2).1
   refine zl (wC (zaP (ns:=ks.map tyN) C.hK) hg hb xb (wm p1 (wm (by rw [hx2];exact zag (zbC C h7 n.2)) kF (ze hst)) (ze s1)) (by decide) (by decide) (ze s1) (zT s2)) fun σ H Q h=>ji (yr h) fun x H1 h=>?_
   have:=dec_is hl
   exact⟨by rw [ug,ug,sizeLine_eq];lia,fun p hp=>zc0 h p hp⟩
 | isc x c=>
  obtain⟨ys,h1,h2⟩:=za h
  obtain⟨q,h3,h4⟩:=za h2
  obtain⟨h5,rfl⟩:=qw h4
  obtain⟨np,pos,rfl,hg,hd,hs⟩:=C.call h1
  obtain⟨c',rfl,p1⟩:=pes1 p
  rw [ZR h3] at hs ⊢
  obtain⟨s1,s2⟩:=zr hs
  have hb:X.mg "isinstance" = none:=by rw [C.hmg];exact n.1
  obtain⟨np2,hx2,g3,g4⟩:=C.gl h5
  have pc:PE X q.2 (tC (.ref (W.cl c))):=by
   rw [hx2]
   exact zdP (by rw [C.hmg];exact⟨_,n.2.m,rfl⟩) g3 g4
  exact zl (wC (za6 C.hK n.2) hg hb xb (wm p1 (wm pc kF (ze (zr s2).1)) (ze s1)) (by decide) (by decide) (ze s1) (zT s2)) fun σ H Q h=>ji (yr h) fun x H1 h=>zfE n.2 h
 | kget x d=>
  obtain⟨q,h1,h2⟩:=za h
  obtain⟨h5,rfl⟩:=qw h2
  obtain⟨h6,h7⟩:=zc h5
  obtain⟨apos,pos,rfl,hl,hs,_⟩:=y8 h1
  obtain⟨np,hx,g1,g2⟩:=C.gl h6
  obtain⟨a,kvs,k1,k2,k3⟩:=n
  have h2l:q.2.length=2:=dec_is h7
  rw [hx]
  revert p hs h2l
  match q.2 with
  | [e1,e2]=>
   intro p hs h2l
   exact zl (zaR ⟨a,by rw [C.hmg];exact k1,by rw [C.hw,C.hK];exact k2⟩ (j7 p hs) g1 g2 hs hl) fun σ H Q h=>zfF h fun us H1 h=>zc1 k3 h
  | []=>intro _ _ h2l;cases h2l
  | [_]=>intro _ _ h2l;cases h2l
  | _::_::_::_=>intro _ _ h2l;cases h2l
 | _=>exact zE h
theorem zhP (C:Ctx W k X Y E){o:Op}{e:Expr}{xs:Lg}{es:List Xp}(h:opA Y e o=some xs)(n:Ys W o)(p:PEs X W E es xs):PE X e (tAp W E o es):=by
 rcases zI h with h | h
 ·obtain⟨q,h1,h⟩:=za h
  obtain⟨r,h2,h⟩:=za h
  obtain⟨h3,rfl⟩:=qw h
  obtain⟨pos,rfl⟩:=zdj h2
  obtain⟨c,d,rfl,p1,p2⟩:=pes2 p
  rw [dec_is h3]
  exact zl (zgZ (zgb h1 X) p1 p2) fun σ H Q h=>Qq h
 rcases zI h with h | h
 ·obtain⟨q,h1,h⟩:=za h
  obtain⟨r,h2,h⟩:=za h
  obtain⟨b,h4,h⟩:=za h
  obtain⟨h3,rfl⟩:=qw h
  obtain⟨h5,h6⟩:=zc h3
  obtain⟨pos,rfl⟩:=We h2
  obtain⟨c,d,rfl,p1,p2⟩:=pes2 p
  rw [dec_is h5,yZ h4]
  exact zl (zcp (kU h1 X C.hK C.hu) p1 p2 (by simpa using h6)) fun σ H Q h=>Qq h
 rcases zI h with h | h
 ·obtain⟨x,h1,h⟩:=za h
  obtain⟨ys,h2,h⟩:=za h
  obtain⟨h3,rfl⟩:=qw h
  obtain⟨h4,h5⟩:=zc h3
  obtain⟨np,pos,rfl,hg,hd,hs⟩:=C.call h2
  obtain⟨b1,b2⟩:=zhN h1 n
  cases ys with
  | nil=>exact zt h5
  | cons e0 es0=>
   obtain⟨s1,s2⟩:=zr hs
   exact b1 X e0 es0 _ np pos C.hK (C.hc.trans h4) (by rw [C.hmg];exact b2) (j7 p hs) hg (ze s1) (zT s2)
 ·exact zhO C h n p
end L5
namespace L5
open PySem L2 PySem.Spec PyProof.Rows
variable {W:Wd} {E:XS} {k:Nat} {X:Cx} {Y:Sy} {H:Hp} {σ:L2.St} {Q:VK}
section
variable {j:Nat} {C:Addr} {x m:Str} {ps:Lh} {sp:Sp} {p pos apos:Pos} {e o:Expr} {es:Lg} {to:TE} {t:TA} {c:Nat}
theorem Ky (hx:Thr X E)(F:OkX X.prog X.w X.K X.mg X.base j x ps sp)(hr:Room k X.A)(hk:j<=k)(hg:Gl X x)(hdb:(x == ("__debug__":Str))=false):PE X (.Call (.Name x p) [] [] pos) (Z3 sp E tNil):=by
 intro pins s σ H Q I h
 obtain⟨f,fd,kp,b,m,G⟩:=F.ex
 refine wpAny_Call_Name_kw (yL I hg m ?_ hdb)
 exact gB I.kIn kp (ZH (us:=[]) G (hr.mono hk) b hx I .nil h)
theorem Kz {env:Env}(hb:qH o=true)(hs:noSt es=true)(hn:es.length<30)(hl:(apos.endLine == pos.line)=true):eval (.Call (.Attribute o m apos) es [] pos) env=(do
   let ov ← eval o env
   standAt apos.atName
   let (f,first) ← holding [ov] (getMethod ov m (do
    let b ← importBound o env
    pure (b.getD true)))
   callWith pos f first (backTo pos (starEach es env)) (backToKw pos (keywordEach [] env))):=by
 show(do
  let ov ← attributeBase o m env (eval o env)
  standAt apos.atName
  methodCall o m apos pos env ov (es.length+([]:List Keyword).length) (backTo pos (starEach es env)) (backToKw pos (keywordEach [] env)))=_
 rw [zG hb]
 have hf:methodCallForm (es.length+([]:List Keyword).length) (backTo pos (starEach es env)) (backToKw pos (keywordEach [] env))=true:=wc hs hn
 unfold methodCall
 rw [hf]
 simp only [calleeOf,methodCallPos,hl,UY,Bool.not_true,U0,pure_bind]
theorem zbE (Cx:Ctx W k X Y E)(F:OkMt W j (W.cl c) m ps sp)(hk:j<=k)(ho:PE X o to)(ha:PA X es t)(h0:es=[]->∀ σ H Q,t σ H Q->tNil σ H Q)(hb:qH o=true)(hs:noSt es=true)(hn:es.length<30)(hl:(apos.endLine == pos.line)=true) :
  PE X (.Call (.Attribute o m apos) es [] pos) (Z3 sp E (tCk (ckV W c m) to t)):=by
 intro pins s σ H Q I h
 obtain⟨f,fd,cl,hm,b,G⟩:=F.ex
 have hr:=Cx.rm.mono hk
 have hx:=Cx.th
 rw [← Cx.hK] at cl hm b G
 rw [← Cx.hP,← Cx.hw,← Cx.hmg,← Cx.hb] at G
 refine PySem.W.methodCall_KW (thn (ho pins s σ H _ I h) fun u s1 ⟨x,H1,I1,rx,⟨a,dx,fs,ex,ea,l⟩,q⟩=>?_) (Kz hb hs hn hl)
 subst ex
 obtain rfl:u=Value.ref a:=rx
 refine X2 I1 ea cl hm l ?_
 cases es with
 | nil=>
  have q:=h0 rfl _ _ _ q
  exact gB (first:=[.ref a]) I1.kIn hm.kp (ZH (us:=[.ref a]) (vs:=[.ref a]) G hr b hx I1 (.cons rfl .nil) q)
 | cons e es=>
  obtain⟨s1',s2⟩:=zr hs
  refine gD (first:=[.ref a]) (h₀:=X.base) I.ok.mod.kin hm.kp (thn (ha pos pins s1 σ H1 _ I1 q) fun us s2 ⟨vs,H2,I2,r,q2⟩=>⟨I2.kIn,?_⟩) (ze s1') (zT s2)
  exact ZH (us:=.ref a::us) (vs:=.ref a::vs) G hr b hx I2 (.cons rfl r) q2
theorem JA {f:Addr}{fd:FuncData}{pins:List (Addr×Obj)}{s:Shared}{us:Lf}{vs:List V}(M:Mk X.K C f)(F:FnOk X.prog X.w X.K X.mg X.base (CXE X.prog X.w) j f fd ps sp)(hr:Room (j+1) X.A)(hb:Binds X.K fd ps [])
  (hx:Thr X E) (I:Inv X pins σ H s) (r:Vals vs us)
  (h:∀ x dx,H x=none->H dx=none->dx≠x->sp (.ref x::vs) (upd (upd H dx (.own x)) x (.ins C dx [])) (fun v H2=>v=.non/\Q (.ref x) H2) fun c d H'=>E c d σ H') :
  wpAny (model X.prog X.w) X.A (call (.ref C) us) (EP X pins σ Q) X.xe s:=by
 have hq:=h (s.heap.objs.size+1) s.heap.objs.size (I.hok.fresh (UH _)) (I.hok.fresh (uf _)) (uX (UL _))
 have I2:=Inv.made (C:=C) I
 have r2:Vals (V.ref (s.heap.objs.size+1)::vs) (Value.ref (s.heap.objs.size+1)::us):=.cons rfl r
 have hl:(Value.ref (s.heap.objs.size+1)::us++[]).length=ps.length:=by
  have e:=r2.length
  rw [F.len _ _ _ _ hq] at e
  rw [uw]
  exact e.symm
 have hb':=hb _ (Value.ref (s.heap.objs.size+1)::us) I2.kIn hl
 rw [uw] at hb'
 refine wpAny_call (zaf (f:=f) I.kIn M.makes M.init (gc.mp M.fn) (codeAny_mono (F.run _ X.stack _ _ ⟨Value.ref (s.heap.objs.size+1)::us,[]⟩ (Value.ref (s.heap.objs.size+1)::us) _ _ _ (hr.make C us [])
  (I2.env0.make C us []) hb' r2 hq) fun r s' hq'=>?_))
 cases r with
 | error e=>exact hx e s' (VS I2 hq')
 | ok fl=>
  cases fl with
  | ret u=>
   obtain⟨v,H',I3,rv,ev,q3⟩:=I2.after hq'
   subst ev
   exact⟨rv,⟨V.ref (s.heap.objs.size+1),H',I3,rfl,q3⟩⟩
  | next=>exact False.elim hq'
  | brk=>exact False.elim hq'
  | cont=>exact False.elim hq'
theorem zbF (Cx:Ctx W k X Y E)(F:OkMk W j C x ps sp)(hk:j+1<=k)(ha:PA X es t)(h0:es=[]->∀ σ H Q,t σ H Q->tNil σ H Q)(hs:noSt es=true)(hg:Gl X x)(hdb:(x == ("__debug__":Str))=false):PE X (.Call (.Name x p) es [] pos) (zbd C sp E t):=by
 intro pins s σ H Q I h
 obtain⟨f,fd,M,b,m,G⟩:=F.ex
 have hr:=Cx.rm.mono hk
 have hx:=Cx.th
 rw [← Cx.hK] at M b G
 rw [← Cx.hP,← Cx.hw,← Cx.hmg,← Cx.hb] at G
 rw [← Cx.hmg] at m
 refine wpAny_Call_Name_kw (yL I hg m ?_ hdb)
 cases es with
 | nil=>exact gB I.kIn M.kp (JA (us:=[]) M G hr b hx I .nil (h0 rfl _ _ _ h))
 | cons e es=>
  obtain⟨s1',s2⟩:=zr hs
  refine gD (h₀:=X.base) I.ok.mod.kin M.kp (thn (ha pos pins s σ H _ I h) fun us s1 ⟨vs,H1,I1,r,q⟩=>⟨I1.kIn,?_⟩) (ze s1') (zT s2)
  exact JA M G hr b hx I1 r q
theorem zhQ {oc:Xp}{ec:List Xp}(m:MU)(hm:m≠.insert)(hK:X.K=W.K)(ho:PE X o (E5 W E oc))(ha:PA X es (A5 W E ec))(hb:qH o=true)(hl:(apos.endLine == pos.line)=true)(hs:noSt es=true)(hn:es.length=muAr m)(h0:es=[]->ec=[]) :
  PE X (.Call (.Attribute o (muN m) apos) es [] pos) (fun σ H Q=>E5 W E oc σ H fun x H1=>tyV W.K "list" x H1/\A5 W E ec σ H1 fun xs H2=>muR m x xs H2 Q):=by
 match m,es,hn,ha,hs,h0 with
 | .append,[e],_,ha,hs,_=>exact xH hK Uq PySem.F.slot_list_append PySem.F.type_list_append Jk ho ha (zG hb) (wc hs (by simp)) hl (ze (zr hs).1) rfl
 | .extend,[e],_,ha,hs,_=>exact xH hK Uq PySem.F.slot_list_extend PySem.F.type_list_extend Y3 ho ha (zG hb) (wc hs (by simp)) hl (ze (zr hs).1) rfl
 | .popI,[e],_,ha,hs,_=>exact xH hK Uq PySem.F.slot_list_pop PySem.F.type_list_pop zao ho ha (zG hb) (wc hs (by simp)) hl (ze (zr hs).1) rfl
 | .pop,[],_,ha,hs,h0=>
  cases h0 rfl
  exact zl (VW hK Uq PySem.F.slot_list_pop PySem.F.type_list_pop zeV ho (zG hb) hl) fun σ H Q h=>ji h fun x H1 h=>⟨h.1,kR h.2⟩
 | .clear,[],_,ha,hs,h0=>
  cases h0 rfl
  exact zl (VW hK Uq PySem.F.slot_list_clear PySem.F.type_list_clear zaq ho (zG hb) hl) fun σ H Q h=>ji h fun x H1 h=>⟨h.1,kR h.2⟩
 | .insert,_,_,_,_,_=>exact absurd rfl hm
end
end L5
namespace L5
open PySem L2 PySem.Spec PyProof.Rows
variable {W:Wd} {E:XS} {k:Nat} {X:Cx} {Y:Sy} {H:Hp} {σ:L2.St}
def SE (W:Wd)(k:Nat)(c:Xp):Prop:=∀ {X:Cx} {Y:Sy} {E:XS} {e:Expr},Ctx W k X Y E->chkE Y c e=true->Need W k c->PE X e (E5 W E c)
def ST (W:Wd)(k:Nat)(c:Xp):Prop:=∀ {X:Cx} {Y:Sy} {E:XS} {e:Expr},Ctx W k X Y E->chkT Y c e=true->Need W k c->PT X e (T5 W E c)
def SEs (W:Wd)(k:Nat)(cs:List Xp):Prop:=∀ {X:Cx} {Y:Sy} {E:XS} {es:Lg},Ctx W k X Y E->vc Y cs es=true->wV W k cs->PEs X W E cs es
noncomputable def PTL (X:Cx)(W:Wd)(E:XS):List Xp->Lg->Prop
 | [],es=>es=[]
 | c::cs,es=>∃ e r,es=e::r/\PT X e (T5 W E c)/\PTL X W E cs r
def STs (W:Wd)(k:Nat)(cs:List Xp):Prop:=∀ {X:Cx} {Y:Sy} {E:XS} {es:Lg},Ctx W k X Y E->Yr Y cs es=true->wV W k cs->PTL X W E cs es
theorem zd7 {kk:Bool}{pos:Pos}:∀ {cs:List Xp} {es:Lg},PEs X W E cs es->cs.isEmpty=false->PE X (.BoolOp (if kk then .And else .Or) es pos) (B5 W E kk cs)
 | [],_,_,h=>zt h.symm
 | [c],_,⟨e,r,h,h1,h2⟩,_=>by
  subst h
  rw [show r=[] from h2]
  exact zez h1
 | c::d::cs,_,⟨e,r,h,h1,h2⟩,_=>by
  subst h
  have ih:=zd7 (kk:=kk) (pos:=pos) h2 rfl
  obtain⟨e2,r2,rfl,_,_⟩:=h2
  cases kk with
  | true=>exact zl (zeA h1 ih) fun σ H Q=>zfM
  | false=>exact zl (zgV h1 ih) fun σ H Q=>zhB
theorem zd8 {kk:Bool}{pos:Pos}:∀ {cs:List Xp} {es:Lg},PTL X W E cs es->cs.isEmpty=false->PW X (.BoolOp (if kk then .And else .Or) es pos) (TB5 W E kk cs)
 | [],_,_,h=>zt h.symm
 | [c],_,⟨e,r,h,h1,h2⟩,_=>by
  subst h
  rw [show r=[] from h2]
  cases kk with
  | true=>exact zcj h1
  | false=>exact zew h1
 | c::d::cs,_,⟨e,r,h,h1,h2⟩,_=>by
  subst h
  have ih:=zd8 (kk:=kk) (pos:=pos) h2 rfl
  obtain⟨e2,r2,rfl,_,_⟩:=h2
  cases kk with
  | true=>exact Yc (zex h1 ih) fun σ H Q=>zfN
  | false=>exact Yc (zgU h1 ih) fun σ H Q=>zhD
theorem zbG {cs:List Xp}{es:Lg}(h:PTL X W E cs es)(hl:es.length<=1):PTs X es (TB5 W E true cs):=by
 match cs,h with
 | [],h=>
  rw [show es=[] from h]
  intro pins s σ H Q I h
  obtain⟨F,s,τ,vs,γ,K,X4,R,h,q,x⟩:=h
  exact zcz pins _ σ H Q I (q true F H s τ R h)
 | [c],⟨e,r,h,h1,h2⟩=>
  rw [h,show r=[] from h2]
  exact zcA h1
 | c::d::cs,⟨e,r,h,h1,e2,r2,h2,_⟩=>
  rw [h,h2] at hl
  exact absurd hl (by simp)
theorem ZU {cs:List Xp}{es:Lg}(h:PEs X W E cs es)(e:es=[]):cs=[]:=by
 cases cs with
 | nil=>rfl
 | cons c cs=>obtain⟨_,_,h,_⟩:=h;rw [e] at h;cases h
theorem Wg:∀ {cs:List Xp} {es:Lg},PEs X W E cs es->es.length=cs.length
 | [],_,h=>by rw [show _=[] from h];rfl
 | _::_,_,⟨_,_,h,_,h2⟩=>by rw [h];exact congrArg (· + 1) (Wg h2)
theorem zgd {o:Op}{es:List Xp}(ih:SEs W k es):SE W k (.ap o es)/\ST W k (.ap o es):=by
 refine⟨fun {X Y E e} C h n=>?_,fun {X Y E e} C h n=>?_⟩
 ·obtain⟨xs,h1,h2⟩:=zh h
  exact zl (zhP C h1 n.1 (ih C h2 n.2)) fun σ H Q=>zhw
 ·obtain⟨xs,h1,h2⟩:=zh h
  obtain⟨q,h3,h⟩:=za h1
  obtain⟨r,h4,h⟩:=za h
  obtain⟨b,h5,h⟩:=za h
  obtain⟨h6,rfl⟩:=qw h
  obtain⟨h7,h8⟩:=zc h6
  obtain⟨pos,rfl⟩:=We h4
  obtain⟨c,d,rfl,p1,p2⟩:=pes2 (ih C h2 n.2)
  rw [dec_is h7,yZ h5]
  exact ZN (zcq (kU h3 X C.hK C.hu) p1 p2 (by simpa using h8)) fun σ H Q h=>Qq (zhE h)
theorem zbH (C:Ctx W k X Y E){o1 o2:Op}{a b c:Xp}{e:Expr}{x:Expr×Expr×Expr}(h:chnA e o1 o2=some x)(pa:PE X x.1 (E5 W E a))(pb:PE X x.2.1 (E5 W E b))(pc:PE X x.2.2 (E5 W E c)):PE X e (kD (r2 W (opF o1)) (r2 W (opF o2)) (E5 W E a) (E5 W E b) (E5 W E c))/\PT X e (VM (kD (r2 W (opF o1)) (r2 W (opF o2)) (E5 W E a) (E5 W E b) (E5 W E c))):=by
 obtain⟨p,h1,h⟩:=za h
 obtain⟨q,h2,h⟩:=za h
 obtain⟨c1,h3,h⟩:=za h
 obtain⟨c2,h4,h⟩:=za h
 obtain⟨h5,rfl⟩:=qw h
 obtain⟨h6,h7⟩:=zc h5
 obtain⟨pos,rfl⟩:=We h1
 have hm:lastMarks [c1,c2] [q.1,q.2]=false:=by simpa using h7
 rw [dec_is h6,ZR h2]
 exact⟨zab (kU h3 X C.hK C.hu) (kU h4 X C.hK C.hu) pa pb pc hm,zac (kU h3 X C.hK C.hu) (kU h4 X C.hK C.hu) pa pb pc hm⟩
theorem zdl {o1 o2:Op}{a b c:Xp}(ha:SE W k a)(hb:SE W k b)(hc:SE W k c):SE W k (.chn o1 o2 a b c)/\ST W k (.chn o1 o2 a b c):=by
 refine⟨fun {X Y E e} C h n=>?_,fun {X Y E e} C h n=>?_⟩
 ·obtain⟨x,h1,h2⟩:=zh h
  obtain⟨h3,h4⟩:=zc h2
  obtain⟨h5,h6⟩:=zc h4
  exact zl (zbH C h1 (ha C h3 n.1) (hb C h5 n.2.1) (hc C h6 n.2.2)).1 fun σ H Q=>zfO
 ·obtain⟨x,h1,h2⟩:=zh h
  obtain⟨h3,h4⟩:=zc h2
  obtain⟨h5,h6⟩:=zc h4
  exact ZN (zbH C h1 (ha C h3 n.1) (hb C h5 n.2.1) (hc C h6 n.2.2)).2 fun σ H Q=>zfP
theorem tup_is {tg:Expr}(h:kT tg=true):∃ l kk pp,tg=.Tuple l kk pp:=by
 cases hq:eTup tg with
 | none=>unfold kT at h;rw [hq] at h;cases h
 | some l=>obtain⟨kk,pp,z⟩:=ZP hq;exact⟨l,kk,pp,z⟩
theorem zbI (C:Ctx W k X Y E){i:IK}{its:List Xp}{e tg:Expr}{xs:Lg}(h:itA Y i e (kT tg)=some xs)(n:zbB W i)(p:PEs X W E its xs):PI X tg e (I5 W E i its):=by
 have mono:∀ {t:TI},PI X tg e t->(∀ σ H R,I5 W E i its σ H R->t σ H R)->PI X tg e (I5 W E i its):=fun {t} h k pins s σ H R I z=>h pins s σ H R I (k σ H R z)
 by_cases hq:i=.seq
 ·subst hq
  cases h
  obtain⟨c,rfl,p1⟩:=pes1 p
  exact mono (zaS C.hK p1) fun σ H R h=>ji (yr (Zn h)) fun v H1 h=>zc8 h
 have h':((y7 Y.sc (ikN i) e).bind fun xs=>when ((kT tg||(decide (i=.rng)||(decide (i=.rvdL)||decide (i=.rvdT))))&&ikAr i xs.length) xs)=some xs:=by
  cases i<;>first | exact absurd rfl hq | exact h
 obtain⟨ys,h1,h2⟩:=za h'
 obtain⟨h3,rfl⟩:=qw h2
 obtain⟨h4,h5⟩:=zc h3
 obtain⟨np,pos,rfl,hg,hd,hs⟩:=C.call h1
 have hb:X.mg (ikN i)=none:=by
  rw [C.hmg]
  cases i<;>first | exact absurd rfl hq | exact n
 have one:ys.length=1->∃ e1,ys=[e1]:=fun z=>by
  match ys,z with
  | [e1],_=>exact⟨e1,rfl⟩
 have two:ys.length=2->∃ e1 e2,ys=[e1,e2]:=fun z=>by
  match ys,z with
  | [e1,e2],_=>exact⟨e1,e2,rfl⟩
 cases i with
 | seq=>exact absurd rfl hq
 | rng=>
  rcases Uo.mp h5 with z | z
  ·obtain⟨e1,rfl⟩:=one (eq_of_beq z)
   obtain⟨c,rfl,p1⟩:=pes1 p
   exact mono (YS hg hb (j7 p hs) (ze (zr hs).1)) fun σ H R h=>yX (Zn h) fun v H1 h=>zbi h
  ·obtain⟨e1,e2,rfl⟩:=two (eq_of_beq z)
   obtain⟨c,d,rfl,p1,p2⟩:=pes2 p
   obtain⟨s1,s2⟩:=zr hs
   have st2:starEach [e2] X.env=[(false,eval e2 X.env)]:=ze (zr s2).1
   exact mono (YT hg hb (j7 p hs) (by rw [ze s1,st2]) st2) fun σ H R h=>Ye (Zn h) fun v u H1 h=>zbj h
 | enumL=>
  obtain⟨e1,rfl⟩:=one (eq_of_beq h5)
  obtain⟨c,rfl,p1⟩:=pes1 p
  obtain⟨l,kk,pp,rfl⟩:=tup_is (tg:=tg) (by simpa using h4)
  exact mono (zaE C.hK hg hb (j7 p hs) (ze (zr hs).1)) fun σ H R h=>yX (Zn h) fun v H1 h=>Kv h
 | enumS=>
  obtain⟨e1,rfl⟩:=one (eq_of_beq h5)
  obtain⟨c,rfl,p1⟩:=pes1 p
  obtain⟨l,kk,pp,rfl⟩:=tup_is (tg:=tg) (by simpa using h4)
  exact mono (zaD hg hb (j7 p hs) (ze (zr hs).1)) fun σ H R h=>yX (Zn h) fun v H1 h=>Kw h
 | zip=>
  obtain⟨e1,e2,rfl⟩:=two (eq_of_beq h5)
  obtain⟨c,d,rfl,p1,p2⟩:=pes2 p
  obtain⟨s1,s2⟩:=zr hs
  obtain⟨l,kk,pp,rfl⟩:=tup_is (tg:=tg) (by simpa using h4)
  have st2:starEach [e2] X.env=[(false,eval e2 X.env)]:=ze (zr s2).1
  exact mono (zcK C.hK hg hb (j7 p hs) (by rw [ze s1,st2]) st2) fun σ H R h=>Ye (Zn h) fun v u H1 h=>zc9 h
 | rvdL=>
  obtain⟨e1,rfl⟩:=one (eq_of_beq h5)
  obtain⟨c,rfl,p1⟩:=pes1 p
  exact mono (zcN C.hK hg hb (j7 p hs) (ze (zr hs).1)) fun σ H R h=>yX (Zn h) fun v H1 h=>zbk h
 | rvdT=>
  obtain⟨e1,rfl⟩:=one (eq_of_beq h5)
  obtain⟨c,rfl,p1⟩:=pes1 p
  exact mono (zcM C.hK hg hb (j7 p hs) (ze (zr hs).1)) fun σ H R h=>yX (Zn h) fun v H1 h=>zbl h
theorem zge {m:ME}{o:Xp}{es:List Xp}(io:SE W k o)(ih:SEs W k es):SE W k (.me m o es):=fun {X Y E e} C h n=>by
 obtain⟨q,h1,h2⟩:=zh h
 obtain⟨h3,h4⟩:=zc h2
 obtain⟨h5,h6⟩:=zc h4
 obtain⟨h7,h8⟩:=zc h6
 obtain⟨apos,pos,rfl,hl,hs,hn⟩:=y8 h1
 have p:=ih C h8 n.2
 revert h5 hs hn p
 match q.2 with
 | []=>intro h5;exact zt h5
 | e0::es0=>intro h5 hs hn p;exact zl (zhu m C.hK (io C h7 n.1) (j7 p hs) h3 hl hs hn) fun σ H Q=>zhA
theorem zbJ {hd:Hd}{ms:List Md}{f:Fn}{es:List Xp}(ih:SEs W k es):SE W k (.call hd ms f es):=fun {X Y E e} C h n=>by
 obtain⟨xs,h1,h2⟩:=zh h
 have p:=ih C h2 n.2
 cases hd with
 | fn x=>
  obtain⟨np,pos,rfl,hg,hdb,hs⟩:=C.call h1
  obtain⟨k',ps,hk,F⟩:=n.1
  rw [← C.hP,← C.hw,← C.hK,← C.hmg,← C.hb] at F
  cases xs with
  | nil=>
   cases ZU p rfl
   exact zl (Ky C.th F C.rm hk hg hdb) fun σ H Q h=>kR (Yn h)
  | cons e0 es0=>
   obtain⟨s1,s2⟩:=zr hs
   exact zl (zaC C.th F C.rm hk (j7 p hs) hg hdb (ze s1) (zT s2)) fun σ H Q=>Yn
 | mk c x=>
  obtain⟨np,pos,rfl,hg,hdb,hs⟩:=C.call h1
  obtain⟨k',ps,hk,F⟩:=n.1
  exact zl (zbF C F hk (j7 p hs) (fun z=>by cases ZU p z;exact fun σ H Q=>kR) hs hg hdb) fun σ H Q=>zc5
 | mt c x=>
  obtain⟨q,h3,h4⟩:=za h1
  obtain⟨h5,rfl⟩:=qw h4
  obtain⟨h6,h7⟩:=zc h5
  obtain⟨apos,pos,rfl,hl,hs,hn⟩:=y8 h3
  obtain⟨k',ps,hk,F⟩:=n.1
  cases es with
  | nil=>cases p
  | cons o es=>
   obtain⟨e0,r,e1,p1,p2⟩:=p
   cases e1
   exact zl (zbE C F hk p1 (j7 p2 hs) (fun z=>by cases ZU p2 z;exact fun σ H Q=>kR) h6 hs hn hl) fun σ H Q=>zc4
theorem zgf {m:MU}{o:Xp}{es:List Xp}(io:SE W k o)(ih:SEs W k es):SE W k (.mu m o es):=fun {X Y E e} C h n=>by
 obtain⟨q,h1,h2⟩:=zh h
 obtain⟨h3,h4⟩:=zc h2
 obtain⟨h5,h6⟩:=zc h4
 obtain⟨h7,h8⟩:=zc h6
 obtain⟨h9,h10⟩:=zc h8
 obtain⟨apos,pos,rfl,hl,hs,hn⟩:=y8 h1
 have p:=ih C h10 n.2
 exact zl (zhQ m (dec_is h3) C.hK (io C h9 n.1) (j7 p hs) h5 hl hs (dec_is h7) (ZU p)) fun σ H Q=>zhG
theorem zdm {a:Xp}(ih:SE W k a):SE W k (.tpl a):=fun {X Y E e} C h n=>by
 obtain⟨hc,h⟩:=zc h
 obtain⟨xs,h1,h2⟩:=zh h
 obtain⟨x,h3,h4⟩:=zh h2
 obtain⟨np,pos,rfl,hg,hdb,hs⟩:=C.call h1
 rw [yZ h3] at hs ⊢
 obtain⟨s1,s2⟩:=zr hs
 have hb:X.mg "tuple" = none:=by rw [C.hmg];exact n.1
 exact zl (xn yb hg hb Qa (wm (ih C h4 n.2) kF (ze s1)) (by decide) (by decide) (ze s1) (zT s2)) fun σ H Q h=>ji (zfJ h) fun v H1 ⟨p,ys,e,h1,h2⟩=>by rw [← C.hK] at h1;exact⟨p,ys,congrArg (fun z=>[z]) e,.inl ⟨h1,h2⟩⟩
theorem zgg {elt:Xp}{n:Nat}{i:IK}{its ifs:List Xp}(he:SE W k elt)(hi:SEs W k its)(ht:STs W k ifs):SE W k (.lc elt n i its ifs):=fun {X Y E e} C h nn=>by
 obtain⟨p,h1,h⟩:=zh h
 obtain⟨g,h2,h⟩:=zh h
 obtain⟨hc,h⟩:=zc h
 obtain⟨h3,h⟩:=zc h
 obtain⟨h4,h⟩:=zc h
 obtain⟨h5,h⟩:=zc h
 obtain⟨q,h6,h⟩:=zh h
 obtain⟨h7,h⟩:=zc h
 obtain⟨h8,h⟩:=zc h
 obtain⟨h9,h⟩:=zc h
 obtain⟨h10,h11⟩:=zc h
 obtain⟨xs,h12,h13⟩:=zh h5
 obtain⟨pos,rfl⟩:=zbx h1
 obtain⟨L,bl⟩:=C.blk hc h9
 obtain rfl:q.2.length=n:=dec_is h7
 rw [zbA h2]
 have t1:q.1=decide (q.2.length≠1):=dec_is h8
 refine zl (zfW L (zbI C h12 nn.1 (hi C h13 nn.2.2.1)) (fun cl Ca s3 H3 fp=>zbG (ht (bl cl Ca s3 H3 fp) h11 nn.2.2.2) (dec_is h4)) (fun cl Ca s3 H3 fp=>he (bl cl Ca s3 H3 fp) h10 nn.2.1) (C.tgt L h6) (zbm t1) (JX h3)) fun σ H Q h=>?_
 rw [t1]
 exact zd4 h
theorem zd9 {pos:Pos}:∀ {d:List (Lc×T)} {ks:List (Option Expr)} {vs:Lg},zby d ks vs=true->∃ kvs,Dsp W d kvs/\PPs X pos ks vs (cTrs kvs)/\ks.all (·.isSome)=true/\ks.length=vs.length/\ks.length=d.length
 | [],ks,vs,h=>by
  obtain⟨h1,h2⟩:=zc h
  rw [uR.mp h1,uR.mp h2]
  exact⟨[],rfl,zcH,rfl,rfl,rfl⟩
 | p::d,ks,vs,h=>by
  match ks,vs,h with
  | some k::ks,v::vs,h=>
   obtain⟨h1,h2⟩:=zc h
   obtain⟨h2,h3⟩:=zc h2
   obtain⟨c,g1,g2⟩:=zh h1
   obtain⟨c',g3,g4⟩:=zh h2
   obtain⟨kvs,k1,k2,k3,k4,k5⟩:=zd9 h3
   obtain⟨_,v1,f1,f2⟩:=Vs (W:=W) (j:=c.2.1) (pos:=c.2.2) g2
   obtain⟨s1,v2,f3,f4⟩:=Vs (W:=W) (j:=c'.2.1) (pos:=c'.2.2) g4
   obtain⟨f5,f6⟩:=f2 fun _=>none
   subst f5
   rw [ZO g1,ZO g3]
   exact⟨(.inr (S p.1),v2)::kvs,⟨v2,kvs,rfl,f6,s1,f4,k1⟩,zaH (f1 X) (f3 X) k2,k3,congrArg (· + 1) k4,congrArg (· + 1) k5⟩
theorem zdn {d:List (Lc×T)}:SE W k (.dsp d):=fun {X Y E e} C h n=>by
 obtain⟨h0,h⟩:=zc h
 obtain⟨h1,h⟩:=zc h
 obtain⟨h2,h⟩:=zc h
 obtain⟨p,h3,h4⟩:=zh h
 obtain⟨pos,rfl⟩:=zga h3
 obtain⟨kvs,k1,k2,k3,k4,k5⟩:=zd9 (W:=W) (X:=X) (pos:=pos) h4
 have l:=dec_is h1
 refine zl (zcI k2 k3 k4 (fun z=>?_) (by lia)) fun σ H Q=>zfS k1 ?_ l
 ·rw [z] at k5
  cases d with
  | nil=>exact zt h0
  | cons _ _=>cases k5
 ·rw [(Dsp.all (F:=fun _=>none) k1).1]
  have hn:=dec_is h2
  rw [show(d.map fun p=>(Sum.inr (S p.1):Key))=(d.map (·.1)).map fun l=>.inr (S l) by rw [Uz];rfl]
  exact List.pairwise_map.mpr (List.Pairwise.imp (fun h z=>h (zdV (Sum.inr.inj z))) hn)
theorem zgh {a b w:Xp}(ia:SE W k a)(ib:SE W k b)(iw:SE W k w):SE W k (.dg a b w):=fun {X Y E e} C h n=>by
 obtain⟨q,h1,h2⟩:=zh h
 obtain⟨h3,h4⟩:=zc h2
 obtain⟨r,h5,h6⟩:=zh h4
 obtain⟨h7,h8⟩:=zc h6
 obtain⟨h9,h10⟩:=zc h8
 obtain⟨apos,pos,rfl,hl,hs,hn⟩:=y8 h1
 rw [ZR h5] at hs hn ⊢
 obtain⟨s1,s2⟩:=zr hs
 obtain⟨s3,s4⟩:=zr s2
 have hu:=C.hu
 refine zl (zaJ (by lia) (ia C h7 n.1) (ib C h9 n.2.1) (iw C h10 n.2.2) ⟨zG h3,wc hs hn,hl,?_⟩) fun σ H Q=>zhH
 rw [ze s1,ze s3]
 rfl
theorem noT {c:Xp}(h:∀ Y e,chkT Y c e=true->False):ST W k c:=fun {X Y E e} C z _=>(h Y e z).elim
theorem snd (c:Xp):SE W k c/\ST W k c:=by
 refine Xp.rec (motive_1:=fun c=>SE W k c/\ST W k c) (motive_2:=fun cs=>SEs W k cs/\STs W k cs) ?_ ?_ ?_ ?_ ?_ ?_ ?_ ?_ ?_ ?_ ?_ ?_ ?_ ?_ ?_ ?_ ?_ ?_ ?_ ?_ ?_ ?_ ?_ ?_ ?_ ?_ ?_ c
 ·exact fun i=>⟨fun {X Y E e} C h n=>zl (C.var h) fun σ H Q=>e5_v,noT fun _ _=>zt⟩
 ·exact fun i=>⟨fun {X Y E e} C h n=>zl (C.var h) fun σ H Q=>e5_m,noT fun _ _=>zt⟩
 ·refine fun t=>⟨fun {X Y E e} C h n=>?_,noT fun _ _=>zt⟩
  obtain⟨c,h1,h2⟩:=zh h
  obtain⟨s1,v,k1,k2⟩:=Vs (W:=W) (j:=c.2.1) (pos:=c.2.2) h2
  rw [ZO h1]
  exact zl (k1 X) fun σ H Q=>za8 (fun _ _ _ _ z=>z) s1 k2
 ·refine fun x t=>⟨fun {X Y E e} C h n=>?_,noT fun _ _=>zt⟩
  obtain⟨p,rfl,g1,g2⟩:=C.gl h
  obtain⟨s1,v,k1,u,k2,k3⟩:=n
  exact zl (zdP (by rw [C.hmg];exact⟨u,k2,k3⟩) g1 g2) fun σ H Q=>za8 (fun _ _ _ _ z=>z) s1 k1
 ·exact fun a ih=>⟨fun {X Y E e} C h n=>zl (ih.1 C h n) fun σ H Q=>zhx,noT fun _ _=>zt⟩
 ·exact fun o es ih=>zgd ih.1
 ·exact fun m o es io ih=>⟨zge io.1 ih.1,noT fun _ _=>zt⟩
 ·exact fun o1 o2 a b c ha hb hc=>zdl ha.1 hb.1 hc.1
 ·refine fun kk es ih=>⟨fun {X Y E e} C h n=>?_,noT fun _ _=>zt⟩
  obtain⟨p,h1,h2⟩:=zh h
  obtain⟨h3,h4⟩:=zc h2
  obtain⟨h5,h6⟩:=zc h4
  obtain⟨pos,rfl⟩:=zbw h1
  rw [dec_is h3]
  exact zd7 (ih.1 C h6 n) (by simpa using h5)
 ·refine fun a ih=>⟨fun {X Y E e} C h n=>?_,noT fun _ _=>zt⟩
  obtain⟨p,h1,h2⟩:=zh h
  obtain⟨h3,h4⟩:=zc h2
  obtain⟨pos,rfl⟩:=Wc h1
  rw [dec_is h3]
  exact zl (zeB (ih.1 C h4 n)) fun σ H Q=>zfL
 ·refine fun a ih=>⟨fun {X Y E e} C h n=>zt h,fun {X Y E e} C h n=>?_⟩
  obtain⟨h3,h4⟩:=zc h
  exact ZN (Ki C.hK (ih.1 C h4 n) (zcS h3)) fun σ H Q=>t5_t
 ·refine fun a ih=>⟨fun {X Y E e} C h n=>zt h,fun {X Y E e} C h n=>?_⟩
  obtain⟨p,h1,h2⟩:=zh h
  obtain⟨h3,h4⟩:=zc h2
  obtain⟨pos,rfl⟩:=Wc h1
  rw [dec_is h3]
  exact ZN (zey (ih.2 C h4 n)) fun σ H Q=>zhC
 ·refine fun kk es ih=>⟨fun {X Y E e} C h n=>zt h,fun {X Y E e} C h n=>?_⟩
  obtain⟨p,h1,h2⟩:=zh h
  obtain⟨h3,h4⟩:=zc h2
  obtain⟨h5,h6⟩:=zc h4
  obtain⟨pos,rfl⟩:=zbw h1
  rw [dec_is h3]
  exact(zd8 (ih.2 C h6 n) (by simpa using h5)).pt
 ·refine fun t a b it ia ib=>⟨fun {X Y E e} C h n=>?_,noT fun _ _=>zt⟩
  obtain⟨p,h1,h2⟩:=zh h
  obtain⟨h3,h4⟩:=zc h2
  obtain⟨h5,h6⟩:=zc h4
  obtain⟨pos,rfl⟩:=zf9 h1
  exact zl (KZ (it.2 C h3 n.1) (ia.1 C h5 n.2.1) (ib.1 C h6 n.2.2)) fun σ H Q=>zfQ
 ·refine fun es ih=>⟨fun {X Y E e} C h n=>?_,noT fun _ _=>zt⟩
  obtain⟨p,h1,h2⟩:=zh h
  obtain⟨h3,h4⟩:=zc h2
  obtain⟨h5,h6⟩:=zc h4
  obtain⟨pos,rfl⟩:=zdk h1
  have pp:=ih.1 C h6 n
  have hl:=Wg pp
  have h7:=dec_is h5
  exact zl (zeQ (j7 pp h3)) fun σ H Q=>zfG (by lia)
 ·refine fun es ih=>⟨fun {X Y E e} C h n=>?_,noT fun _ _=>zt⟩
  obtain⟨p,h1,h2⟩:=zh h
  obtain⟨h3,h4⟩:=zc h2
  obtain⟨h5,h6⟩:=zc h4
  obtain⟨kk,pos,rfl⟩:=ZP h1
  have pp:=ih.1 C h6 n
  have hl:=Wg pp
  have h7:=dec_is h5
  exact zl (zag (j7 pp h3)) fun σ H Q=>zfH (by lia)
 ·refine⟨fun {X Y E e} C h n=>?_,noT fun _ _=>zt⟩
  have h:eD0 e=true:=h
  unfold eD0 at h
  split at h
  ·exact zl zhe fun σ H Q=>zfI
  ·exact zt h
 ·exact fun d=>⟨zdn,noT fun _ _=>zt⟩
 ·exact fun a b w ia ib iw=>⟨zgh ia.1 ib.1 iw.1,noT fun _ _=>zt⟩
 ·exact fun a ih=>⟨zdm ih.1,noT fun _ _=>zt⟩
 ·refine fun a b ia ib=>⟨fun {X Y E e} C h n=>?_,noT fun _ _=>zt⟩
  obtain⟨p,h1,h2⟩:=zh h
  obtain⟨h3,h4⟩:=zc h2
  obtain⟨h5,h6⟩:=zc h4
  obtain⟨pos,rfl⟩:=ZQ h1
  exact zl (zg8 (zfK C.hK C.hu) (ia.1 C h5 n.1) (ib.1 C h6 n.2) (zaQ h3)) fun σ H Q=>zhy
 ·refine fun a c f ia=>⟨fun {X Y E e} C h n=>?_,noT fun _ _=>zt⟩
  obtain⟨p,h1,h2⟩:=zh h
  obtain⟨h3,h4⟩:=zc h2
  obtain⟨h5,h6⟩:=zc h4
  rw [Wf h1,dec_is h3]
  refine zl (zeO (ia.1 C h6 n.2) (zG h5)) fun σ H Q h=>?_
  rw [C.hK]
  exact zhz n.1.1 n.1.2 h
 ·exact fun hd ms f es ih=>⟨zbJ ih.1,noT fun _ _=>zt⟩
 ·exact fun m o es io ih=>⟨zgf io.1 ih.1,noT fun _ _=>zt⟩
 ·exact fun elt n i its ifs he hi ht=>⟨zgg he.1 hi.1 ht.2,noT fun _ _=>zt⟩
 ·exact⟨fun {X Y E es} C h n=>uR.mp h,fun {X Y E es} C h n=>uR.mp h⟩
 ·refine fun c cs hc hs=>⟨fun {X Y E es} C h n=>?_,fun {X Y E es} C h n=>?_⟩
  ·cases es with
   | nil=>exact zt h
   | cons e es=>
    obtain⟨h1,h2⟩:=zc h
    exact⟨e,es,rfl,hc.1 C h1 n.1,hs.1 C h2 n.2⟩
  ·cases es with
   | nil=>exact zt h
   | cons e es=>
    obtain⟨h1,h2⟩:=zc h
    exact⟨e,es,rfl,hc.2 C h1 n.1,hs.2 C h2 n.2⟩
theorem snds (cs:List Xp):SEs W k cs:=by
 induction cs with
 | nil=>exact fun {X Y E es} C h n=>uR.mp h
 | cons c cs ih=>
  refine fun {X Y E es} C h n=>?_
  cases es with
  | nil=>exact zt h
  | cons e es=>
   obtain⟨h1,h2⟩:=zc h
   exact⟨e,es,rfl,(snd c).1 C h1 n.1,ih C h2 n.2⟩
end L5
namespace L5
open PySem L2 PySem.Spec PyProof.Rows
variable {W:Wd} {E:XS} {k:Nat} {X:Cx} {Y:Sy} {H:Hp} {σ:L2.St}
noncomputable def sRet:Stmt->Option (Option Expr)
 | .Return e _=>some e
 | _=>none
noncomputable def sAsg:Stmt->Option (Lg×Expr×Pos)
 | .Assign tg e p=>some (tg,e,p)
 | _=>none
noncomputable def sAug:Stmt->Option (Expr×Operator×Expr)
 | .AugAssign t o e _=>some (t,o,e)
 | _=>none
noncomputable def sIf:Stmt->Option (Expr×List Stmt×List Stmt)
 | .If t a b _=>some (t,a,b)
 | _=>none
noncomputable def sFor:Stmt->Option (Expr×Expr×List Stmt)
 | .For t i b [] _=>some (t,i,b)
 | _=>none
noncomputable def sWh:Stmt->Option (Expr×List Stmt)
 | .While t b [] _=>some (t,b)
 | _=>none
noncomputable def sEx:Stmt->Option Expr
 | .Expr e _=>some e
 | _=>none
noncomputable def sKw:Stmt->Nat
 | .Pass _=>1
 | .Break _=>2
 | .Continue _=>3
 | _=>0
theorem Yv {s:Stmt}{x:Option Expr}(h:sRet s=some x):∃ p,s=.Return x p:=by cases s<;>first | exact zE h | (cases h;exact⟨_,rfl⟩)
theorem zdo {s:Stmt}{x:Lg×Expr×Pos}(h:sAsg s=some x):s=.Assign x.1 x.2.1 x.2.2:=by cases s<;>first | exact zE h | (cases h;rfl)
theorem zdp {s:Stmt}{x:Expr×Operator×Expr}(h:sAug s=some x):∃ p,s=.AugAssign x.1 x.2.1 x.2.2 p:=by cases s<;>first | exact zE h | (cases h;exact⟨_,rfl⟩)
theorem zgi {s:Stmt}{x:Expr×List Stmt×List Stmt}(h:sIf s=some x):∃ p,s=.If x.1 x.2.1 x.2.2 p:=by cases s<;>first | exact zE h | (cases h;exact⟨_,rfl⟩)
theorem Yw {s:Stmt}{x:Expr×Expr×List Stmt}(h:sFor s=some x):∃ p,s=.For x.1 x.2.1 x.2.2 [] p:=by
 cases s with
 | For t i b e p=>
  cases e with
  | nil=>cases h;exact⟨_,rfl⟩
  | cons _ _=>cases h
 | _=>cases h
theorem zgj {s:Stmt}{x:Expr×List Stmt}(h:sWh s=some x):∃ p,s=.While x.1 x.2 [] p:=by
 cases s with
 | While t b e p=>
  cases e with
  | nil=>cases h;exact⟨_,rfl⟩
  | cons _ _=>cases h
 | _=>cases h
theorem zgk {s:Stmt}{x:Expr}(h:sEx s=some x):∃ p,s=.Expr x p:=by cases s<;>first | exact zE h | (cases h;exact⟨_,rfl⟩)
noncomputable def locN (Y:Sy)(i:Nat)(e:Expr):Bool:=(eName e).any fun x=>decide (Y.N[i]? = some x)&&(decide (Y.sc.names.lookup x=some .local)||decide (Y.sc.names.lookup x=some .cell))
noncomputable def Xn (Y:Sy):Lc->Lg->Bool
 | [],es=>es.isEmpty
 | i::is,es=>match es with
  | e::es=>locN Y i e&&Xn Y is es
  | []=>false
noncomputable def isLc:Xp->Bool
 | .lc _ _ _ _ _=>true
 | _=>false
noncomputable def plainS (tg e:Expr):Bool:=JY e&&(!star tg&&(noTL tg||zdU e))
noncomputable def chkG (Y:Sy)(t:Tg)(e:Xp)(tg e':Expr):Bool:=
 match t with
 | .v i=>(plainS tg e'||isLc e)&&(locN Y i tg&&chkE Y e e')
 | .tup is=>plainS tg e'&&(Y.cm&&((eTup tg).any (fun es=>Xn Y is es)&&chkE Y e e'))
 | .sub p k=>plainS tg e'&&((eSub tg).any (fun q=>ZI q.2&&(chkE Y p q.1&&chkE Y k q.2))&&chkE Y e e')
 | .fld p _ f=>JY e'&&((eAtt tg).any (fun q=>decide (q.2.1=f)&&chkE Y p q.1)&&chkE Y e e')
noncomputable def chkL (Y:Sy)(t:Tg)(tg:Expr):Bool:=
 match t with
 | .v i=>locN Y i tg
 | .tup is=>(eTup tg).any fun es=>Xn Y is es
 | _=>false
noncomputable def opN:Op->Option Operator
 | .add=>some .Add
 | .sub=>some .Sub
 | _=>none
mutual
noncomputable def chkS (Y:Sy):Cm->Stmt->Bool
 | .ret e=>fun s=>(sRet s).any fun o=>o.any fun e'=>chkE Y e e'
 | .retN=>fun s=>(sRet s).any fun o=>o.isNone
 | .asg t e=>fun s=>(sAsg s).any fun p=>(one? p.1).any fun tg=>chkG Y t e tg p.2.1
 | .aug i op e=>fun s=>(sAug s).any fun p=>decide (opN op=some p.2.1)&&(locN Y i p.1&&chkE Y e p.2.2)
 | .ife t a b=>fun s=>(sIf s).any fun p=>chkT Y t p.1&&(zC Y a p.2.1&&zC Y b p.2.2)
 | .loop t k its b=>fun s=>(sFor s).any fun p=>Y.cm&&(VZ p.2.1&&(chkL Y t p.1&&((itA Y k p.2.1 (kT p.1)).any (fun xs=>vc Y its xs)&&zC Y b p.2.2)))
 | .loopA j e b=>fun s=>(sFor s).any fun p=>Y.cm&&(VZ p.2.1&&(locN Y j p.1&&(chkE Y e p.2.1&&zC Y b p.2.2)))
 | .whl t b=>fun s=>(sWh s).any fun p=>chkT Y t p.1&&zC Y b p.2
 | .ex e=>fun s=>(sEx s).any fun e'=>JY e'&&chkE Y e e'
 | .pass=>fun s=>sKw s == 1
 | .brk=>fun s=>sKw s == 2
 | .cnt=>fun s=>sKw s == 3
 | .never=>fun _=>true
noncomputable def zC (Y:Sy):List Cm->List Stmt->Bool
 | []=>fun ss=>ss.isEmpty
 | c::cs=>fun ss=>match ss with
  | s::ss=>chkS Y c s&&zC Y cs ss
  | []=>false
end
noncomputable def zhR (W:Wd)(k:Nat):Tg->Prop
 | .sub p i=>Need W k p/\Need W k i
 | .fld p c f=>(Cls W.K (W.cl c)/\qM W.K (W.cl c) f)/\Need W k p
 | _=>True
mutual
noncomputable def zea (W:Wd)(k:Nat):Cm->Prop
 | .ret e=>Need W k e
 | .asg t e=>zhR W k t/\Need W k e
 | .aug _ _ e=>Need W k e
 | .ife t a b=>Need W k t/\jQ W k a/\jQ W k b
 | .loop _ i its b=>zbB W i/\wV W k its/\jQ W k b
 | .loopA _ e b=>Need W k e/\jQ W k b
 | .whl t b=>Need W k t/\jQ W k b
 | .ex e=>Need W k e
 | _=>True
noncomputable def jQ (W:Wd)(k:Nat):List Cm->Prop
 | []=>True
 | c::cs=>zea W k c/\jQ W k cs
end
structure CtxS (W:Wd)(k:Nat)(X:Cx)(Y:Sy)(E:XS):Prop extends Ctx W k X Y E where
 po:PassesOwn (model X.prog X.w) X.A X.env X.xe
 fn:∀ x,X.fn x=true
theorem Yx {i:Nat}{e:Expr}(h:locN Y i e=true):∃ x p,e=.Name x p/\Y.N[i]? = some x/\Loc Y.sc x:=by
 obtain⟨x,h1,h2⟩:=zh h
 obtain⟨p,rfl⟩:=Qv h1
 obtain⟨h3,h4⟩:=zc h2
 refine⟨x,p,rfl,dec_is h3,?_⟩
 rcases Uo.mp h4 with z | z
 ·exact .inl (dec_is z)
 ·exact .inr (dec_is z)
theorem CtxS.loc (C:CtxS W k X Y E){i:Nat}{e:Expr}(h:locN Y i e=true):∃ x p,e=.Name x p/\X.N.Nodup/\X.N[i]? = some x/\Loc X.env.scope x:=by
 obtain⟨x,p,rfl,h1,h2⟩:=Yx h
 exact⟨x,p,rfl,by rw [C.hN];exact C.nd,by rw [C.hN];exact h1,by rw [C.hs];exact h2⟩
theorem CtxS.pgn (C:CtxS W k X Y E){i:Nat}{e:Expr}(h:locN Y i e=true):PG X e (wB i):=by
 obtain⟨x,p,rfl,h1,h2,h3⟩:=C.loc h
 exact JJ h1 h2 h3 (.inl (C.fn x))
theorem CtxS.pgns (C:CtxS W k X Y E):∀ {is:Lc} {es:Lg},Xn Y is es=true->PGs X es (is.foldr (fun i g=>WU (wB i) g) gNil)/\(assignEach es X.env).length=is.length/\(assignEach es X.env).findIdx? (·.1)=none
 | [],es,h=>by
  rw [uR.mp h]
  exact⟨VH,rfl,rfl⟩
 | i::is,[],h=>zt h
 | i::is,e::es,h=>by
  obtain⟨h1,h2⟩:=zc h
  obtain⟨p1,p2,p3⟩:=C.pgns h2
  have hn:=C.pgn h1
  obtain⟨x,p,rfl,_⟩:=Yx h1
  have ac:(assignEach (.Name x p::es) X.env)=(false,assign (.Name x p) X.env)::assignEach es X.env:=rfl
  exact⟨WV hn p1 rfl,by rw [ac,ua,ua,p2],by rw [ac,Ue,p3];rfl⟩
theorem CtxS.pgt (C:CtxS W k X Y E){is:Lc}{tg:Expr}(hc:Y.cm=true)(h:((eTup tg).any fun es=>Xn Y is es)=true):PG X tg (gNs W is):=by
 obtain⟨es,h1,h2⟩:=zh h
 obtain⟨kk,p,rfl⟩:=ZP h1
 obtain⟨p1,p2,p3⟩:=C.pgns h2
 unfold gNs
 rw [← C.hK]
 exact K2 (C.hc.trans hc) p1 p2 p3
theorem Qw {tg e:Expr}{te:TE}{g:TG}{pos:Pos}(h:plainS tg e=true)(he:PE X e te)(hg:PG X tg g):PS X (.Assign [tg] e pos) (tAsg te g):=by
 obtain⟨h1,h2⟩:=zc h
 obtain⟨h2,h3⟩:=zc h2
 exact zeE he hg (JZ h1) (Kr h3) (Vk (by simpa using h2))
theorem zgl {o i:Expr}{pos:Pos}{env:Env}(h:ZI i=true)(v:Value):assign (.Subscript o i pos) env v=(do
   let ov ← holding [v] (eval o env)
   let iv ← holding [v,ov] (eval i env)
   standAt pos
   holding [v,ov,iv] (setItem ov iv v)
   release [v,ov,iv] []):=by cases i<;>first | rfl | cases h
theorem qc {s:Stmt}{t t':TS}(h:PS X s t)(k:∀ D σ H,t' D σ H->t D σ H):PS X s t':=fun pins sh σ H D I z=>h pins sh σ H D I (k D σ H z)
theorem y9 {s:List Stmt}{t t':TS}(h:PSs X s t)(k:∀ D σ H,t' D σ H->t D σ H):PSs X s t':=fun pins sh σ H D I z=>h pins sh σ H D I (k D σ H z)
def SS (W:Wd)(k:Nat)(c:Cm):Prop:=∀ {X:Cx} {Y:Sy} {E:XS} {s:Stmt},CtxS W k X Y E->chkS Y c s=true->zea W k c->PS X s (S5 W E (WS c))
def SSs (W:Wd)(k:Nat)(cs:List Cm):Prop:=∀ {X:Cx} {Y:Sy} {E:XS} {ss:List Stmt},CtxS W k X Y E->zC Y cs ss=true->jQ W k cs->PSs X ss (S5 W E (WSs cs))
theorem KA (C:CtxS W k X Y E){i:Nat}{elt:Xp}{n:Nat}{ik:IK}{its ifs:List Xp}{tg e:Expr}{spos:Pos}(hl:locN Y i tg=true)(h:chkE Y (.lc elt n ik its ifs) e=true)(nn:Need W k (.lc elt n ik its ifs)):PS X (.Assign [tg] e spos) (S5 W E (WS (.asg (.v i) (.lc elt n ik its ifs)))):=by
 have pe:=(snd (.lc elt n ik its ifs)).1 C.toCtx h nn
 obtain⟨z,pz,rfl,hN,hi',hz⟩:=C.loc hl
 obtain⟨p,h1,h⟩:=zh h
 obtain⟨g,h2,h⟩:=zh h
 obtain⟨hc,h⟩:=zc h
 obtain⟨h3,h⟩:=zc h
 obtain⟨h4,h⟩:=zc h
 obtain⟨h5,h⟩:=zc h
 obtain⟨q,h6,h⟩:=zh h
 obtain⟨h7,h⟩:=zc h
 obtain⟨h8,h⟩:=zc h
 obtain⟨h9,h⟩:=zc h
 obtain⟨h10,h11⟩:=zc h
 obtain⟨xs,h12,h13⟩:=zh h5
 obtain⟨pos,rfl⟩:=zbx h1
 obtain⟨b,hb⟩:∃ b,swapsWith (.ListComp p.1 p.2.1 p.2.2 pos) (some (.Name z pz)) spos.line X.env=pure b:=⟨_,rfl⟩
 cases b with
 | false=>exact qc (zeF hN hi' hz pe hb (.inl (C.fn z))) fun D σ H=>Vr
 | true=>
  obtain⟨L,bl⟩:=C.toCtx.blk hc h9
  obtain rfl:q.2.length=n:=dec_is h7
  rw [zbA h2] at hb ⊢
  have t1:q.1=decide (q.2.length≠1):=dec_is h8
  have ht:STs W k ifs:=fun {X Y E es} C h n=>by
   have:∀ cs:List Xp,STs W k cs:=fun cs=>by
    induction cs with
    | nil=>exact fun {X Y E es} C h n=>uR.mp h
    | cons c cs ih=>
     refine fun {X Y E es} C h n=>?_
     cases es with
     | nil=>exact zt h
     | cons e es=>
      obtain⟨h1,h2⟩:=zc h
      exact⟨e,es,rfl,(snd c).2 C h1 n.1,ih C h2 n.2⟩
   exact this ifs C h n
  refine qc (Kx hN hi' hz L (zbI C.toCtx h12 nn.1 (snds its C.toCtx h13 nn.2.2.1)) (fun cl Ca s3 H3 fp=>zbG (ht (bl cl Ca s3 H3 fp) h11 nn.2.2.2) (dec_is h4)) (fun cl Ca s3 H3 fp=>(snd elt).1 (bl cl Ca s3 H3 fp) h10 nn.2.1) (C.toCtx.tgt L h6) (zbm t1) (JX h3) hb (.inl (C.fn z))) fun D σ H h=>?_
  rw [t1]
  exact zd4 (Vr h)
theorem zdq {t:Tg}{c:Xp}:SS W k (.asg t c):=fun {X Y E s} C h n=>by
 obtain⟨p,h1,h2⟩:=zh h
 obtain⟨tg,h3,h4⟩:=zh h2
 rw [zdo h1,yZ h3]
 have he:chkE Y c p.2.1=true->PE X p.2.1 (E5 W E c):=fun h=>(snd c).1 C.toCtx h n.2
 cases t with
 | v i=>
  obtain⟨h5,h6⟩:=zc h4
  obtain⟨h7,h8⟩:=zc h6
  rcases Uo.mp h5 with h5 | h5
  ·exact qc (Qw h5 (he h8) (C.pgn h7)) fun D σ H=>Vr
  ·cases c with
   | lc elt m ik its ifs=>exact KA C h7 h8 n.2
   | _=>exact zt h5
 | tup is=>
  obtain⟨h5,h6⟩:=zc h4
  obtain⟨h7,h8⟩:=zc h6
  obtain⟨h9,h10⟩:=zc h8
  exact qc (Qw h5 (he h10) (C.pgt h7 h9)) fun D σ H=>zdc
 | sub o i=>
  obtain⟨h5,h6⟩:=zc h4
  obtain⟨h7,h8⟩:=zc h6
  obtain⟨q,h9,h10⟩:=zh h7
  obtain⟨h11,h12⟩:=zc h10
  obtain⟨h13,h14⟩:=zc h12
  obtain⟨pp,rfl⟩:=ZQ h9
  exact qc (Qw h5 (he h8) (zeD ((snd o).1 C.toCtx h13 n.1.1) ((snd i).1 C.toCtx h14 n.1.2) (zbq C.toCtx.hu) (zgl h11))) fun D σ H=>zf4
 | fld o cc f=>
  obtain⟨h5,h6⟩:=zc h4
  obtain⟨h7,h8⟩:=zc h6
  obtain⟨q,h9,h10⟩:=zh h7
  obtain⟨h11,h12⟩:=zc h10
  rw [Wf h9,dec_is h11]
  refine qc (zeP ((snd o).1 C.toCtx h12 n.1.2) (he h8) (JZ h5)) fun D σ H h=>?_
  rw [C.hK]
  exact zf5 n.1.1.1 n.1.1.2 h
theorem ssnd (c:Cm):SS W k c:=by
 refine Cm.rec (motive_1:=fun c=>SS W k c) (motive_2:=fun cs=>SSs W k cs) ?_ ?_ ?_ ?_ ?_ ?_ ?_ ?_ ?_ ?_ ?_ ?_ ?_ ?_ ?_ c
 ·refine fun e=>fun {X Y E s} C h n=>?_
  obtain⟨o,h1,h2⟩:=zh h
  obtain⟨p,rfl⟩:=Yv h1
  obtain⟨e',rfl,h3⟩:=zh h2
  exact qc (zeC ((snd e).1 C.toCtx h3 n)) fun D σ H=>zfZ
 ·refine fun {X Y E s} C h n=>?_
  obtain⟨o,h1,h2⟩:=zh h
  obtain⟨p,rfl⟩:=Yv h1
  cases o with
  | none=>exact qc zcm fun D σ H=>zda
  | some _=>exact zt h2
 ·exact fun t e=>zdq
 ·refine fun i o e=>fun {X Y E s} C h n=>?_
  obtain⟨p,h1,h2⟩:=zh h
  obtain⟨h3,h4⟩:=zc h2
  obtain⟨h5,h6⟩:=zc h4
  obtain⟨pos,rfl⟩:=zdp h1
  obtain⟨x,px,hx,l1,l2,l3⟩:=C.loc h5
  have pe:=(snd e).1 C.toCtx h6 n
  rw [hx]
  have h3:=dec_is h3
  revert h3
  cases o<;>intro h3<;>first | exact zE h3 | skip
  ·rw [← uG h3]
   exact qc (K3 l1 l2 l3 pe zeG (.inl (C.fn _))) fun D σ H=>zbr (.inl rfl)
  ·rw [← uG h3]
   exact qc (K3 l1 l2 l3 pe zeH (.inl (C.fn _))) fun D σ H=>zbr (.inr rfl)
 ·refine fun t a b ia ib=>fun {X Y E s} C h n=>?_
  obtain⟨p,h1,h2⟩:=zh h
  obtain⟨h3,h4⟩:=zc h2
  obtain⟨h5,h6⟩:=zc h4
  obtain⟨pos,rfl⟩:=zgi h1
  exact qc (zgW ((snd t).2 C.toCtx h3 n.1) (ia C h5 n.2.1) (ib C h6 n.2.2)) fun D σ H=>zf2
 ·refine fun t i its b ib=>fun {X Y E s} C h n=>?_
  obtain⟨p,h1,h2⟩:=zh h
  obtain⟨hc,h⟩:=zc h2
  obtain⟨h3,h⟩:=zc h
  obtain⟨h4,h⟩:=zc h
  obtain⟨h5,h6⟩:=zc h
  obtain⟨xs,h7,h8⟩:=zh h5
  obtain⟨pos,rfl⟩:=Yw h1
  have pg:PG X p.1 (tgR W t):=by
   cases t with
   | v i=>exact C.pgn h4
   | tup is=>exact C.pgt hc h4
   | _=>exact zt h4
  exact qc (K8 C.po (C.hc.trans hc) (zbI C.toCtx h7 n.1 (snds its C.toCtx h8 n.2.1)) pg (ib C h6 n.2.2) (JX h3)) fun D σ H=>zdh
 ·refine fun j e b ib=>fun {X Y E s} C h n=>?_
  obtain⟨p,h1,h2⟩:=zh h
  obtain⟨hc,h⟩:=zc h2
  obtain⟨h3,h⟩:=zc h
  obtain⟨h4,h⟩:=zc h
  obtain⟨h5,h6⟩:=zc h
  obtain⟨pos,rfl⟩:=Yw h1
  exact qc (K8 C.po (C.hc.trans hc) (zaS C.hK ((snd e).1 C.toCtx h5 n.1)) (C.pgn h4) (ib C h6 n.2) (JX h3)) fun D σ H=>zbu
 ·refine fun t b ib=>fun {X Y E s} C h n=>?_
  obtain⟨p,h1,h2⟩:=zh h
  obtain⟨h3,h4⟩:=zc h2
  obtain⟨pos,rfl⟩:=zgj h1
  exact qc (K7 C.po ((snd t).2 C.toCtx h3 n.1) (ib C h4 n.2)) fun D σ H=>zf6
 ·refine fun e=>fun {X Y E s} C h n=>?_
  obtain⟨e',h1,h2⟩:=zh h
  obtain⟨h3,h4⟩:=zc h2
  obtain⟨pos,rfl⟩:=zgk h1
  exact qc (zcl ((snd e).1 C.toCtx h4 n) (JZ h3)) fun D σ H=>zhL
 ·refine fun {X Y E s} C h n=>?_
  cases s<;>first | exact zt h | exact qc zck fun D σ H=>zdb
 ·refine fun {X Y E s} C h n=>?_
  cases s<;>first | exact zt h | exact qc K1 fun D σ H=>zf0
 ·refine fun {X Y E s} C h n=>?_
  cases s<;>first | exact zt h | exact qc WR fun D σ H=>zf1
 ·exact fun {X Y E s} C h n=>fun pins sh σ H D I z=>zbp z
 ·refine fun {X Y E ss} C h n=>?_
  rw [uR.mp h]
  exact y9 VG fun D σ H=>zbo
 ·refine fun c cs hc hs=>fun {X Y E ss} C h n=>?_
  cases ss with
  | nil=>exact zt h
  | cons s ss=>
   obtain⟨h1,h2⟩:=zc h
   exact y9 (WQ (hc C h1 n.1) (hs C h2 n.2)) fun D σ H=>Yp
theorem zeb (cs:List Cm):SSs W k cs:=by
 induction cs with
 | nil=>
  refine fun {X Y E ss} C h n=>?_
  rw [uR.mp h]
  exact y9 VG fun D σ H=>zbo
 | cons c cs ih=>
  refine fun {X Y E ss} C h n=>?_
  cases ss with
  | nil=>exact zt h
  | cons s ss=>
   obtain⟨h1,h2⟩:=zc h
   exact y9 (WQ (ssnd c C h1 n.1) (ih C h2 n.2)) fun D σ H=>Yp
end L5
namespace L5
open PySem L2 PySem.Spec PyProof.Rows
variable {W:Wd} {k:Nat} {F H:Hp}
theorem St.nils {γ:List AT}(h:St W F H γ):∀ n:Nat,St W F H (List.replicate n nilA++γ)
 | 0=>h
 | n+1=>(h.nils n).nil
theorem zbK {X:List AT}:∀ (as:List AT) (n:Nat),as.length<=n->Ms X (fnS (eras as) n) (as.map (fun a=>some (val a))++List.replicate (n - as.length) none) (as++List.replicate (n - as.length) nilA)
 | [],0,_=>⟨rfl,rfl⟩
 | [],n+1,_=>⟨none,_,nilA,_,rfl,rfl,rfl,zbK (X:=X) [] n (uF _)⟩
 | a::as,0,h=>by cases h
 | a::as,n+1,h=>by
  have ih:=zbK (X:=X) as n (Nat.le_of_succ_le_succ h)
  rw [show n+1 - (a::as).length=n - as.length by simp]
  exact⟨some (val a),_,a,_,rfl,rfl,⟨rfl,rfl⟩,ih⟩
noncomputable def hidV:List Md->List V->List V
 | .mu::ms,v::vs=>v::hidV ms vs
 | .mv::ms,_::vs=>hidV ms vs
 | _,_=>[]
theorem Vt {X:List AT}:∀ (ms:List Md) (as:List AT) (i:Nat),as.length=ms.length->(∀ j,j<as.length->X[i+j]? = as[j]?)->Ms X (hidA ms i) ((hidV ms (vals as)).map some) (List.replicate (hidA ms i).length nilA)
 | [],as,i,hl,h=>⟨rfl,rfl⟩
 | m::ms,[],i,hl,h=>by cases hl
 | .mu::ms,a::as,i,hl,h=>by
  refine⟨some (val a),_,nilA,_,rfl,rfl,⟨rfl,a,?_,rfl⟩,Vt ms as (i+1) (US hl) fun j hj=>?_⟩
  ·have:=h 0 (Nat.succ_pos _)
   rw [Nat.add_zero] at this
   unfold getS
   rw [this];rfl
  ·have:=h (j+1) (gM hj)
   rw [show i+1+j=i+(j+1) by lia];exact this
 | .mv::ms,a::as,i,hl,h=>Vt ms as (i+1) (US hl) fun j hj=>by
   have:=h (j+1) (gM hj)
   rw [show i+1+j=i+(j+1) by lia];exact this
theorem JB {ms:List Md}{as γ:List AT}{n:Nat}(st:St W F H (as++γ))(hl:as.length=ms.length)(hn:as.length<=n):Rep W F H (fnS (eras as) n) (hidA ms 0) ((vals as).map some++List.replicate (n - (vals as).length) none) (hidV ms (vals as)) γ:=by
 refine⟨as++List.replicate (n - as.length) nilA,_,?_,?_,Vt ms as 0 hl fun j hj=>by rw [Us,Ui hj]⟩
 ·have:=(st.nils (n - as.length)).nils (hidA ms 0).length
  refine this.perm ?_
  rw [← uc,← uc,← uc]
  refine UK _ ?_
  refine List.Perm.trans ?_ uz
  rw [uc]
  exact gk _ uz
 ·have:=zbK (X:=as++List.replicate (n - as.length) nilA) as n hn
  simp only [vals,Uz,ug]
  exact this
theorem Wh {as:List AT}:∀ {ms:List Md} {i:Nat} {s τ:Sl} {ρ:List (Option V)} {cs bs γ:List AT} {us:List V} {r:List T},(∀ j,as[i+j]? = cs[j]?)->Ms as s ρ cs->Ms as τ ((hidV ms us).map some) bs->us.length=ms.length->retA ms i s τ=some r->St W F H (cs++γ)->∃ Bs,eras Bs=r/\yf ms us Bs/\St W F H (Bs++γ)
 | [],i,s,τ,ρ,cs,bs,γ,us,r,h,m1,m2,hl,e,st=>by
  cases e
  exact⟨[],rfl,rfl,st.right⟩
 | m::ms,i,s,τ,ρ,cs,bs,γ,[],r,h,m1,m2,hl,e,st=>by cases hl
 | .mu::ms,i,s,τ,ρ,cs,bs,γ,v::us,r,h,m1,m2,hl,e,st=>by
  match s,τ,e with
  | .own t::s,.al j []::τ,e=>
   have e:cond (j == i) ((retA ms (i+1) s τ).bind fun r=>some (t::r)) none=some r:=e
   cases c:j == i with
   | false=>rw [c] at e;cases e
   | true=>
    rw [c] at e
    obtain⟨r',e1,e⟩:=za e
    cases e
    cases (eq_of_beq c:j=i)
    obtain⟨o,ρ',a,cs',k1,k2,k3,k4⟩:=m1
    obtain⟨o2,ρ2,b,bs',g1,g2,⟨_,u,g3,g4⟩,g5⟩:=m2
    cases g1
    subst k2
    have h0:=h 0
    rw [Nat.add_zero] at h0
    have hu:u=a:=by
     obtain⟨a',f1,f2,_⟩:=ja g3
     rw [h0] at f1
     cases f1
     cases f2
     rfl
    subst hu
    obtain⟨Bs,q1,q2,q3⟩:=Wh (γ:=u::γ) (fun n=>by have:=h (n+1);rw [show i+1+n=i+(n+1) by lia];exact this) k4 g5 (US hl) e1 (st.perm uB.symm)
    exact⟨u::Bs,by rw [eras,q1,k3.1],⟨u,Bs,rfl,(uG g4).symm,q2⟩,q3.perm uB⟩
 | .mv::ms,i,s,τ,ρ,cs,bs,γ,v::us,r,h,m1,m2,hl,e,st=>by
  match s,e with
  | x::s,e=>
   obtain⟨r',e1,e⟩:=za e
   cases e
   obtain⟨o,ρ',a,cs',k1,k2,k3,k4⟩:=m1
   subst k2
   obtain⟨Bs,q1,q2,q3⟩:=Wh (ms:=ms) (us:=us) (fun n=>by have:=h (n+1);rw [show i+1+n=i+(n+1) by lia];exact this) k4 m2 (US hl) e1 (St.tail st)
   exact⟨.lf .non .non::Bs,by rw [eras,q1];rfl,⟨_,Bs,rfl,rfl,q2⟩,q3.leaf (t:=.non) rfl rfl⟩
theorem Rep.ret {ms:List Md}{s τ:Sl}{σ:L2.St}{us:List V}{γ:List AT}{r:List T}(R:Rep W F H s τ σ (hidV ms us) γ)(hl:us.length=ms.length)(e:retA ms 0 s τ=some r):∃ Bs,eras Bs=r/\yf ms us Bs/\St W F H (Bs++γ):=by
 obtain⟨as,bs,R⟩:=R
 refine Wh (as:=as) (fun j=>by rw [Us]) R.ls R.ts hl e ?_
 have:=R.st.perm (gT as bs γ)
 exact this.right
theorem Rep.retX {ms:List Md}{s τ:Sl}{σ:L2.St}{us ws:List V}{γ:List AT}{r:List T}{n:Nat}(R:Rep W F H s τ σ (ws++hidV ms us) γ)(hn:n=(hidV ms us).length)(hl:us.length=ms.length)(e:retA ms 0 s (τ.drop (τ.length - n))=some r):∃ Bs,eras Bs=r/\yf ms us Bs/\St W F H (Bs++γ):=by
 obtain⟨as,bs,R⟩:=R
 have l:=R.ts.len.1
 rw [ug,ub] at l
 have m:=R.ts.drop (τ.length - n)
 rw [show τ.length - n=ws.length by lia,uD,gP (by rw [ug];exact uf _),show(ws.map some).drop ws.length=[] from List.drop_of_length_le (by rw [ug];exact uf _),UE,← show τ.length - n=ws.length by lia] at m
 refine Wh (as:=as) (fun j=>by rw [Us]) R.ls m hl e ?_
 have:=R.st.perm (gT as bs γ)
 exact this.right
theorem Wi:∀ {ms:List Md} {us:List V} {i:Nat},us.length=ms.length->(hidA ms i).length=(hidV ms us).length
 | [],_,_,_=>rfl
 | _::_,[],_,h=>by cases h
 | .mu::ms,_::us,i,h=>congrArg (· + 1) (Wi (ms:=ms) (US h))
 | .mv::ms,_::us,i,h=>Wi (ms:=ms) (US h)
theorem Yy {x:Str}{st:Stmt}{ps N:Lh}{ms:List Md}{body:List Cm}(Sc:zi N ps (zb st))(hc:zC ⟨N,zb st,true⟩ body (zf st)=true)(hp:ms.length<=N.length)(n:jQ W k body):∀ (f:Addr) (cdv:Value) (A:Around) (outer:List Env) (s:Shared) (H:Hp) (vs:List V) (Q:VK) (E:L2.XK),Room k (A.deeper (envOfC x (zb st) s.heap.objs.size f cdv))->SpM W ms (fnD ms N.length body) vs H Q E ->
   ∃ t,PSs (cxOf (CXE W.P W.w) W.P W.w W.K W.mg W.base N x (zb st) f cdv A outer s H E) (zf st) t/\t { nx:=fun _ H'=>Q .non H',rt:=Q } (L2.start N vs) H:=fun f cdv A outer s H vs Q E hr h=>by
 obtain⟨F,as,γ,Q4,X4,st0,rfl,hl,⟨_,po⟩,q,xx⟩:=h
 refine⟨_,zeb body (X:=cxOf (CXE W.P W.w) W.P W.w W.K W.mg W.base N x (zb st) f cdv A outer s H E) (E:=fun c d _ H'=>E c d H') ⟨⟨rfl,rfl,rfl,rfl,rfl,rfl,Sc.nd,rfl,rfl,hr,Kf⟩,PassesOwn.leaving,fun _=>rfl⟩ hc n,?_⟩
 have hl':(vals as).length=ms.length:=by rw [ug];exact hl
 refine⟨F,_,_,_,γ,_,_,JB st0 hl (by lia),po,fun F' H' s' τ' σ' R h=>?_,fun F' H' s' τ' σ' t v R h=>?_,fun _ _ _ _ _ _ h=>h.elim,fun _ _ _ _ _ _ h=>h.elim,fun ex F' H' s' τ' σ' ws c d R hx h=>?_⟩
 ·obtain⟨r,e,h⟩:=zo h
  obtain⟨Bs,rfl,g2,g3⟩:=R.ret hl' e
  exact q F' H' (.lf .non .non) Bs (g3.leaf (t:=.non) rfl rfl) g2 h
 ·obtain⟨r,e,h⟩:=zo h
  obtain⟨b,rfl,rfl,_,R2⟩:=R.opened
  obtain⟨Bs,rfl,g2,g3⟩:=R2.ret hl' e
  exact q F' H' b Bs (g3.perm uB) g2 h
 ·obtain⟨r,e,h⟩:=zo h
  obtain⟨Bs,rfl,g2,g3⟩:=R.retX (Wi hl') hl' e
  exact xx ex F' H' Bs c d g3 g2 hx h
theorem Vu {ms:List Md}{f:Fn}{vs:List V}{Q:VK}{E:L2.XK}(h:SpM W ms f vs H Q E):vs.length=ms.length:=by
 obtain⟨_,as,_,_,_,_,rfl,hl,_⟩:=h
 rw [ug];exact hl
theorem jD {x:Str}{st:Stmt}{ps N:Lh}{ms:List Md}{body:List Cm}(D:Df W.K W.mg x st ps)(Sc:zi N ps (zb st))(hc:zC ⟨N,zb st,true⟩ body (zf st)=true)(hp:ms.length=ps.length)(hp':ms.length<=N.length)(n:jQ W k body):OkX W.P W.w W.K W.mg W.base (k+1) x ps (SpM W ms (fnD ms N.length body)):=
 D.okX Sc (fun vs H Q E h=>(Vu h).trans hp) (Yy Sc hc hp' n)
structure Mdf (K:Le)(C:Addr)(m qual:Str)(st:Stmt)(ps:Lh):Prop where
 ex:∃ (f:Addr) (fd:FuncData),Fun K m qual st f fd/\Binds K fd ps []/\Cls K C/\Meth K C m f
structure Cdf (K:Le)(mg:La)(C:Addr)(x qual:Str)(st:Stmt)(ps:Lh):Prop where
 ex:∃ (f:Addr) (fd:FuncData),Fun K "__init__" qual st f fd/\Binds K fd ps []/\Mk K C f/\mg x=some (.ref C)
theorem zbL {m x:Str}{st:Stmt}{ps N:Lh}{ms:List Md}{body:List Cm}{f:Addr}{fd:FuncData}(F:Fun W.K m x st f fd)(Sc:zi N ps (zb st))(hc:zC ⟨N,zb st,true⟩ body (zf st)=true)(hp:ms.length=ps.length)(hp':ms.length<=N.length)(n:jQ W k body):FnOk W.P W.w W.K W.mg W.base (CXE W.P W.w) (k+1) f fd ps (SpM W ms (fnD ms N.length body)):=by
 obtain⟨oc,od,kV,doc,pm,an,cdv,ct,osl,rfl,lk,hcd⟩:=F.ex
 exact zah lk hcd Sc (fun vs H Q E h=>(Vu h).trans hp) fun A outer s H vs Q E hr h=>Yy Sc hc hp' n f cdv A outer s H vs Q E hr h
theorem Zp {m x:Str}{c:Nat}{st:Stmt}{ps N:Lh}{ms:List Md}{body:List Cm}(D:Mdf W.K (W.cl c) m x st ps)(Sc:zi N ps (zb st))(hc:zC ⟨N,zb st,true⟩ body (zf st)=true)(hp:ms.length=ps.length)(hp':ms.length<=N.length)(n:jQ W k body):OkMt W (k+1) (W.cl c) m ps (SpM W ms (fnD ms N.length body)):=by
 obtain⟨f,fd,F,b,cl,hm'⟩:=D.ex
 exact⟨f,fd,cl,hm',b,zbL F Sc hc hp hp' n⟩
theorem zbM {x y:Str}{c:Nat}{st:Stmt}{ps N:Lh}{ms:List Md}{body:List Cm}(D:Cdf W.K W.mg (W.cl c) y x st ps)(Sc:zi N ps (zb st))(hc:zC ⟨N,zb st,true⟩ body (zf st)=true)(hp:ms.length=ps.length)(hp':ms.length<=N.length)(n:jQ W k body):OkMk W (k+1) (W.cl c) y ps (SpM W ms (fnD ms N.length body)):=by
 obtain⟨f,fd,F,b,M,e⟩:=D.ex
 exact⟨f,fd,M,b,e,zbL F Sc hc hp hp' n⟩
noncomputable def Xo (K:Le):Sp:=fun vs H Q _=>∃ (a:Addr) (ns:List Int),vs=[.ref a]/\SqL K H a (ns.map V.int)/\ns.length<=63/\∀ H',Q (.bl true) H'
theorem Wj:∀ ns:List Int,IsVs W F (ns.map T.int) (ns.map V.int)/\shrs (ns.map T.int)=true
 | []=>⟨rfl,rfl⟩
 | n::ns=>⟨⟨_,_,rfl,rfl,(Wj ns).1⟩,(Wj ns).2⟩
theorem zgm {x y:Str}{st:Stmt}{N:Lh}{body:List Cm}(D:Df W.K W.mg x st [y])(Sc:zi N [y] (zb st))(h1:1<=N.length)
  (hc:zC ⟨N,zb st,true⟩ body (zf st)=true) (n:jQ W k body) (hl:∀ ns:List Int,ns.length<=63->fnD [.mv] N.length body [.ks true (ns.map .int)] (fun t _=>t=.bl true) (fun _ _=>False)):OkF W.P W.w W.K W.mg W.base (k+1) x [y] (Xo W.K):=by
 refine D.ok Sc (fun vs H Q E h=>by obtain⟨_,_,rfl,_⟩:=h;rfl) (fun f cdv A outer s H vs Q E hr h=>?_)
 obtain⟨a,ns,rfl,hS,h63,q⟩:=h
 refine⟨_,zeb body (E:=noE) ⟨⟨rfl,rfl,rfl,rfl,rfl,rfl,Sc.nd,rfl,rfl,hr,fun e s' z=>?_⟩,PassesOwn.never,fun _=>rfl⟩ hc n,?_⟩
 ·obtain⟨_,_,_,_,_,_,_,_,_,_,_,_,z⟩:=z
  exact z.elim
 ·obtain⟨i1,i2⟩:=Wj (W:=W) (F:=H) ns
  have st0:St W H H ([.lf (.ks true (ns.map .int)) (.ref a)]++[]):=⟨fun _ _ h=>h,⟨⟨rfl,a,_,rfl,hS,i2,i1⟩,trivial⟩,.nil,fun _ h=>by cases h⟩
  obtain⟨_,po⟩:=hl ns h63
  refine⟨H,_,_,_,[],_,_,JB (ms:=[.mv]) st0 rfl h1,po,fun F' H' s' τ' σ' R h=>?_,fun F' H' s' τ' σ' t v R h=>?_,fun _ _ _ _ _ _ h=>h.elim,fun _ _ _ _ _ _ h=>h.elim,fun ex F' H' s' τ' σ' ws c d R hx h=>?_⟩
  ·obtain⟨r,e,h⟩:=zo h
   cases h
  ·obtain⟨r,e,h⟩:=zo h
   obtain⟨b,eb,rfl,hb,_⟩:=R.opened
   rw [yT hb (eb.trans h)]
   exact q H'
  ·obtain⟨r,e,h⟩:=zo h
   exact h.elim
end L5
namespace L5
open PySem L2 PySem.Spec PyProof.Rows
theorem Wk {α:Type}{f g:α->T}{tt:Sl->Sl->(Bool->KP)->Prop}{fe:Sl->Sl->KP->Prop}{s τ s1 τ1:Sl}{K:List T->KP}(e1:mapO (shN 1) s=some s1)(e2:mapO (shN 1) τ=some τ1)(e3:mapO (unN 1) s1=some s)(e4:mapO (unN 1) τ1=some τ) :
  ∀ {xs:List α} {acc:List T},(∀ a∈xs,∀ K:Bool->KP,K true (.own (f a)::s1) τ1->tt (.own (f a)::s1) τ1 K)->(∀ a∈xs,∀ K:KP,K (.own (f a)::s1) (.own (g a)::τ1)->fe (.own (f a)::s1) τ1 K)->acc.length+xs.length<=16777216->K (acc++xs.map g) s τ->Qk 1 tt fe (xs.map f) acc s τ K
 | [],acc,_,_,_,h=>by rw [Uy,uw] at h;exact h
 | a::xs,acc,ht,hf,hl,h=>by
  rw [ua] at hl
  refine zd e1 (zd e2 (ht a ui _ (hf a ui _ ⟨by lia,zd e3 (zd e4 ?_)⟩)))
  refine Wk e1 e2 e3 e4 (fun b hb=>ht b (uk _ hb)) (fun b hb=>hf b (uk _ hb)) ?_ ?_
  ·rw [ub,ua,ud];lia
  ·rw [uc];exact h
theorem zec {g:T->T}{tt:Sl->Sl->(Bool->KP)->Prop}{fe:Sl->Sl->KP->Prop}{s τ s1 τ1:Sl}{K:List T->KP}(e1:mapO (shN 1) s=some s1)(e2:mapO (shN 1) τ=some τ1)(e3:mapO (unN 1) s1=some s)(e4:mapO (unN 1) τ1=some τ){xs:List T}(ht:∀ a∈xs,∀ K:Bool->KP,K true (.own a::s1) τ1->tt (.own a::s1) τ1 K)(hf:∀ a∈xs,∀ K:KP,K (.own a::s1) (.own (g a)::τ1)->fe (.own a::s1) τ1 K)(hl:xs.length<=16777216)(h:K (xs.map g) s τ):Qk 1 tt fe xs [] s τ K:=by
 have:=Wk (f:=fun x=>x) (g:=g) (acc:=[]) (K:=K) e1 e2 e3 e4 ht hf (by simpa using hl) h
 rwa [gh] at this
theorem Yz {t:Tg}{o:Option T}{body:Sl->Sl->KP->Ends->Prop}{K:KP}{D:Ends}(I:Nat->Sl->Sl->Prop):∀ {ds:List T} {i:Nat} {s τ:Sl},I i s τ->(∀ j d s τ (K':KP),ds[j]? = some d->I (i+j) s τ->(∀ s τ,I (i+j+1) s τ->K' s τ)->V1 t d s τ fun s1 τ1=>body s1 τ1 K' { rt:=fun r s τ=>bnd2 (unS o s τ) (D.rt r),bk:=fun s τ=>bnd2 (unS o s τ) K,ct:=K',ex:=D.ex })->(∀ s τ,I (i+ds.length) s τ->bnd2 (unS o s τ) K)->kO t o body K D ds s τ
 | [],i,s,τ,h0,_,he=>he s τ h0
 | d::ds,i,s,τ,h0,hs,he=>by
  refine hs 0 d s τ _ rfl h0 fun s1 τ1 h1=>Yz I (i:=i+1) h1 (fun j e s2 τ2 K' hd h2 hK=>?_) fun s2 τ2 h2=>he s2 τ2 (by rw [ua,show i+(ds.length+1)=i+1+ds.length by lia];exact h2)
  exact hs (j+1) e s2 τ2 K' hd (by rw [show i+(j+1)=i+1+j by lia];exact h2) fun s3 τ3 h3=>hK s3 τ3 (by rw [show i+1+j+1=i+(j+1)+1 by lia];exact h3)
theorem Wl {t:Tg}{o:Option T}{body:Sl->Sl->KP->Ends->Prop}{K:KP}{D:Ends}{ds:List T}{s τ:Sl}(I:Nat->Sl->Sl->Prop)(h0:I 0 s τ)(hs:∀ j d s τ (K':KP),ds[j]? = some d->I j s τ->(∀ s τ,I (j+1) s τ->K' s τ)->V1 t d s τ fun s1 τ1=>body s1 τ1 K' { rt:=fun r s τ=>bnd2 (unS o s τ) (D.rt r),bk:=fun s τ=>bnd2 (unS o s τ) K,ct:=K',ex:=D.ex }) (he:∀ s τ,I ds.length s τ->bnd2 (unS o s τ) K):kO t o body K D ds s τ:=
 Yz I (i:=0) h0 (fun j d s τ K' hd h1 hK=>hs j d s τ K' hd (by rw [← Us j];exact h1) fun s τ h=>hK s τ (by rw [Us];exact h)) fun s τ h=>he s τ (by rw [← Us ds.length];exact h)
theorem zbN {test:Sl->Sl->(Bool->KP)->Prop}{body:Sl->Sl->KP->Ends->Prop}{K:KP}{D:Ends}(I:Nat->Sl->Sl->Prop)(hs:∀ m s τ (K':KP),I m s τ->(∀ m' s τ,m' < m->I m' s τ->K' s τ)->test s τ fun b s1 τ1=>brn b (body s1 τ1 K' { rt:=D.rt,bk:=K,ct:=K',ex:=D.ex }) (K s1 τ1)):∀ {n m:Nat} {s τ:Sl},m<n->I m s τ->Jv test body K D n s τ
 | 0,_,_,_,h,_=>absurd h (gR _)
 | n+1,m,s,τ,h,h0=>hs m s τ _ h0 fun m' s1 τ1 hm h1=>zbN I hs (by omega) h1
theorem zgn {test:Sl->Sl->(Bool->KP)->Prop}{body:Sl->Sl->KP->Ends->Prop}{K:KP}{D:Ends}{s τ:Sl}(I:Nat->Sl->Sl->Prop)(m:Nat)(h0:I m s τ)(hs:∀ m s τ (K':KP),I m s τ->(∀ m' s τ,m' < m->I m' s τ->K' s τ)->test s τ fun b s1 τ1=>brn b (body s1 τ1 K' { rt:=D.rt,bk:=K,ct:=K',ex:=D.ex }) (K s1 τ1)):∃ n,Jv test body K D n s τ:=⟨m+1,zbN I hs (UL m) h0⟩
theorem Wm {xs:List T}{s τ:Sl}{b:Bool}(h:shrs xs=true):itS .seq 1 s (.own (.nd b .ls xs)::τ)=some ((xs,none),(s,τ)):=by
 show(shO (some xs)).bind _=_
 show(cond (shrs xs) (some xs) none).bind _=_
 rw [h];rfl
theorem zgo {xs:List T}{s τ:Sl}(h:shrs xs=true):itS .seq 1 s (.own (.tp xs)::τ)=some ((xs,none),(s,τ)):=by
 show(shO (some xs)).bind _=_
 show(cond (shrs xs) (some xs) none).bind _=_
 rw [h];rfl
theorem zgp {xs:List T}{s τ:Sl}{l:Bool}(h:shrs xs=true):itS .seq 1 s (.own (.ks l xs)::τ)=some ((xs,none),(s,τ)):=by
 show(shO (some xs)).bind _=_
 show(cond (shrs xs) (some xs) none).bind _=_
 rw [h];rfl
theorem ka {n k:Nat}(h:k<n):ixN n (k:Int)=some k:=by unfold ixN;rw [uA (by lia),uA (by lia)];rfl
theorem Xq {n:Nat}:ixN (n+1) (-1)=some n:=by
 unfold ixN
 rw [uq (by lia),uA (by lia)]
 congr 1
 lia
theorem YA {α:Type}(f:α->Bool):∀ xs:List α,blOs (xs.map fun a=>.bl (f a))=some (xs.map f)
 | []=>rfl
 | x::xs=>by
  show two (some (f x)) (blOs (xs.map fun a=>.bl (f a))) _=_
  rw [YA f xs];rfl
section
variable {s s' τ τ':Sl} {i m:Nat} {p:Lc} {t t' u k o r:T} {xs ys ts:List T} {x:T} {c:Nat} {f:Str}
theorem we (h:s[i]? = some (.own r))(e:getT p r=some t):getP s i p=some t:=by unfold getP;rw [h];exact e
theorem yu {s1 s2 τ1:Sl}{n:T}(h1:mapO (jN i (p.length+1)) s=some s1)(h2:s1[i]? = some (.own r))(h3:setT p r n=some t')(h4:putN s1 i (.own t')=some s2)(h5:mapO (jN i (p.length+1)) τ=some τ1):putSt s τ i p n=some (s2,τ1):=by
 unfold putSt
 rw [h1,uJ,h2,uJ]
 show(setT p r n).bind _=_
 rw [h3,uJ,h4,uJ,h5]
 rfl
theorem KC {b:List T}:getT (b.length::p) (.nd true .ls (b++[x]))=getT p x:=by
 show((b++[x])[b.length]?).bind _=_
 rw [uL (uf _),UA]
 rfl
theorem KD {b:List T}(h:setT p x u=some t'):setT (b.length::p) (.nd true .ls (b++[x])) u=some (.nd true .ls (b++[t'])):=by
 show((b++[x])[b.length]?).bind _=_
 rw [uL (uf _),UA]
 show(setT p x u).bind _=_
 rw [h]
 show(putN (b++[x]) b.length t').bind _=_
 rw [ZJ (by simp)]
 show some (T.nd true .ls ((b++[x]).set b.length t'))=_
 rw [gm _ _ (uf _),UA]
 rfl
theorem yw (h:s[i]? = some (.own t))(hs:shr t=true):rdS s i=some (.own t):=by
 unfold rdS
 rw [h]
 show cond (shr t) _ _=_
 rw [hs];rfl
theorem zdr (h:shr t=true):frzS s (.own t::τ)=some (s,.own t::τ):=by
 show cond (shr t) _ _=_
 rw [h];rfl
theorem Wn (h1:ixJ t k=some m)(h2:parts t=some xs)(h3:xs[m]? = some u)(h0:strO t=none:=by rfl):ixS s (.own k::.own t::τ)=some (.own u::τ):=by
 show orO (two (some t) (intO k) _) ((ye s (.own t) fun t=>ixJ t k).bind _)=_
 have e:two (some t) (intO k) (fun t i=>(strO t).bind fun l=>(atI l i).bind fun c=>some (Slot.own (.str [c])::τ))=none:=by
  cases intO k with
  | none=>rfl
  | some i=>show((strO t).bind _)=none;rw [h0];rfl
 rw [e]
 show((ixJ t k).bind _).bind _=_
 rw [h1]
 show((parts t).bind _).bind _=_
 rw [h2]
 show((xs[m]?).bind _).bind _=_
 rw [h3]
 rfl
theorem Wo {J:T->Option Nat}(g:getP s i p=some t)(h1:J t=some m)(h2:parts t=some xs)(h3:xs[m]? = some u):ye s (.al i p) J=cond (shr u) (some (.own u)) (some (.al i (p++[m]))):=by
 show(getP s i p).bind _=_
 rw [g]
 show(J t).bind _=_
 rw [h1]
 show(parts t).bind _=_
 rw [h2]
 show(xs[m]?).bind _=_
 rw [h3]
 rfl
theorem zbO (g:getP s i p=some t)(h1:ixJ t k=some m)(h2:parts t=some xs)(h3:xs[m]? = some u)(hs:shr u=true):ixS s (.own k::.al i p::τ)=some (.own u::τ):=by
 show((ye s (.al i p) fun t=>ixJ t k).bind _)=_
 rw [Wo g h1 h2 h3,hs]
 rfl
theorem YB (g:getP s i p=some t)(h1:ixJ t k=some m)(h2:parts t=some xs)(h3:xs[m]? = some u)(hs:shr u=false):ixS s (.own k::.al i p::τ)=some (.al i (p++[m])::τ):=by
 show((ye s (.al i p) fun t=>ixJ t k).bind _)=_
 rw [Wo g h1 h2 h3,hs]
 rfl
theorem zhS (g:getP s i p=some t)(h1:fldJ t c f=some m)(h2:parts t=some xs)(h3:xs[m]? = some u)(hs:shr u=false):atS s c f (.al i p::τ)=some (.al i (p++[m])::τ):=by
 show((ye s (.al i p) fun t=>fldJ t c f).bind _)=_
 rw [Wo g h1 h2 h3,hs]
 rfl
theorem JC {b:List T}{o:Bool}:ixJ (.nd o .ls (b++[x])) (.int (-1))=some b.length:=by
 show ixN (b++[x]).length (-1)=_
 rw [ub]
 exact Xq
theorem JD {b:List T}:(b++[x])[b.length]? = some x:=by rw [uL (uf _),UA];rfl
theorem zbP (g:getP s i p=some t)(e:subF t k o=some t')(hp:putSt s τ i p t' = some (s',τ')):subS s (.own k::.al i p::.own o::τ)=some (s',τ'):=by
 show(getP s i p).bind _=_
 rw [g]
 show(subF t k o).bind _=_
 rw [e]
 exact hp
theorem zbQ {b:List T}:subF (.nd true .ls (b++[x])) (.int (-1)) o=some (.nd true .ls (b++[o])):=by
 show(ixN (b++[x]).length (-1)).bind _=_
 rw [ub]
 rw [show ixN (b.length + [x].length) (-1)=some b.length from Xq]
 show(putN (b++[x]) b.length o).bind _=_
 rw [ZJ (by simp)]
 show some (T.nd true .ls ((b++[x]).set b.length o))=_
 rw [gm _ _ (uf _),UA]
 rfl
theorem Qx {mm:MU}(g:getP s i p=some (.nd true .ls xs))(e:muF mm xs ts=some (ys,r))(hp:putSt s τ i p (.nd true .ls ys)=some (s',τ')):muS mm s (.al i p::τ) ts=some (s',.own r::τ'):=by
 show(getP s i p).bind _=_
 rw [g]
 show(muF mm xs ts).bind _=_
 rw [e]
 show(putSt s τ i p (.nd true .ls ys)).bind _=_
 rw [hp]
 rfl
theorem zgq (g:getP s i p=some (.nd true .ls xs)):ckL s (.al i p::τ)=true:=by
 show(match getP s i p with
  | some (.nd true .ls _)=>true
  | _=>false)=true
 rw [g]
theorem Qy (h:xs.length<16777216):muF .append xs [u]=some (xs++[u],.non):=by
 show(if xs.length<16777216 then some (xs++[u],T.non) else none)=_
 rw [uA h]
theorem zgr {b:List T}:muF .pop (b++[x]) []=some (b,x):=by
 show((b++[x]).getLast?).bind _=_
 rw [gv]
 show some ((b++[x]).dropLast,x)=_
 rw [List.dropLast_concat]
theorem zL {a b:Lc}(h:a.length+b.length<=16777216):opF .add [.str a,.str b]=some (.str (a++b)):=by
 show orO (if a.length+b.length<=16777216 then some (T.str (a++b)) else none) _=_
 rw [uA h]
 rfl
theorem YC {a b:List T}{o o':Bool}(h:a.length+b.length<=16777216)(ha:shrs a=true)(hb:shrs b=true):opF .add [.nd o .ls a,.nd o' .ls b]=some (.nd true .ls (a++b)):=by
 show orO (if a.length+b.length<=16777216/\(shrs a&&shrs b)=true then some (T.nd true .ls (a++b)) else none) _=_
 rw [uA ⟨h,by rw [ha,hb];rfl⟩]
 rfl
end
section
variable {s s1 s2 τ τ1 τ2 xs xs1:Sl} {ms:List Md} {i:Nat} {p:Lc} {t:T} {ts:List T} {ps:Pl}
theorem Zq {b:Bool}{P R:Prop}(h:b=true)(q:P):Bool.rec (motive:=fun _=>Prop) R P b:=by subst h;exact q
theorem wI {b:Bool}{P R:Prop}(h:b=false)(q:R):Bool.rec (motive:=fun _=>Prop) R P b:=by subst h;exact q
theorem take1 (g:getP s i p=some t)(hp:putSt s τ i p .any=some (s1,τ1))(hx:mapO (jN i 0) xs=some xs1)(hr:xY ms xs1 s1 τ1=some ((ts,ps),(s2,τ2))):xY (.mu::ms) (.al i p::xs) s τ=some ((t::ts,some (i,p)::ps),(s2,τ2)):=by
 show(getP s i p).bind _=_
 rw [g]
 show(putSt s τ i p .any).bind _=_
 rw [hp]
 show(mapO (jN i 0) xs).bind _=_
 rw [hx]
 show(xY ms xs1 s1 τ1).bind _=_
 rw [hr]
 rfl
theorem zbR (hr:j5 ps ts s τ=some (s1,τ1))(g:getP s1 i p=some .any)(hp:putSt s1 τ1 i p t=some (s2,τ2)):j5 (some (i,p)::ps) (t::ts) s τ=some (s2,τ2):=by
 show(j5 ps ts s τ).bind _=_
 rw [hr]
 show(getP s1 i p).bind _=_
 rw [g]
 exact hp
theorem Vv {c:Nat}{m:Str}{o:Nat×Lh×List T}(g:getP s i p=some t)(e:obO t=some o)(h1:o.1=c)(h2:o.2.1.contains m=false):ckM s (.mt c m) (.al i p::τ)=true:=by
 show(match (getP s i p).bind obO with
   | some o=>o.1 == c&&!o.2.1.contains m
   | none=>false)=true
 rw [g]
 show(match obO t with
   | some o=>o.1 == c&&!o.2.1.contains m
   | none=>false)=true
 rw [e]
 show(o.1 == c&&!o.2.1.contains m)=true
 rw [h1,h2,uQ]
 rfl
end
end L5
set_option maxHeartbeats 4000000
namespace My
open PySem L2 L5 PySem.Spec PyProof.Rows
local macro_rules | `(tactic| walk_at "sc") => `(tactic| exact ⟨rfl, rfl, rfl, by decide +kernel, rfl, by decide +kernel, by decide +kernel⟩)
noncomputable def top (i:Nat):Stmt:=PySem.Challenge.pw_sealpress_k55_braces_as_signs.main.body.getD i (.Pass ⟨0,0,0,0⟩)
noncomputable def topC (i j:Nat):Stmt:=match top i with
 | .ClassDef _ _ _ body _ _ _ _ _ _ _=>body.getD j (.Pass ⟨0,0,0,0⟩)
 | _=>.Pass ⟨0,0,0,0⟩
noncomputable abbrev jE:Stmt:=top 38
noncomputable abbrev kb:Lh:=["_law_cell","_law_k","_law_first","_law_second","_law_number"]
noncomputable abbrev jV:Lh:=["_law_cell","_law_k"]
theorem QX:zi kb jV (zb jE):=by walk_at "sc"
noncomputable abbrev j8:Stmt:=top 39
noncomputable abbrev Zr:Lh:=["_law_cell"]
noncomputable abbrev wo:Lh:=["_law_cell"]
theorem Wq:zi Zr wo (zb j8):=by walk_at "sc"
noncomputable abbrev qS:Stmt:=top 49
noncomputable abbrev vv:Lh:=["_law_text","_law_found","_law_sign_here"]
noncomputable abbrev jq:Lh:=["_law_text"]
theorem ZC:zi vv jq (zb qS):=by walk_at "sc"
noncomputable abbrev jF:Stmt:=top 40
noncomputable abbrev kc:Lh:=["_law_low"]
noncomputable abbrev jW:Lh:=[]
theorem QY:zi kc jW (zb jF):=by walk_at "sc"
noncomputable abbrev j9:Stmt:=top 50
noncomputable abbrev Zs:Lh:=["_law_number"]
noncomputable abbrev wq:Lh:=["_law_number"]
theorem Wr:zi Zs wq (zb j9):=by walk_at "sc"
noncomputable abbrev vw:Stmt:=top 2
noncomputable abbrev Xr:Lh:=["words"]
noncomputable abbrev vT:Lh:=["words"]
theorem KG:zi Xr vT (zb vw):=by walk_at "sc"
noncomputable abbrev qT:Stmt:=top 3
noncomputable abbrev vx:Lh:=["text"]
noncomputable abbrev jr:Lh:=["text"]
theorem ZD:zi vx jr (zb qT):=by walk_at "sc"
noncomputable abbrev qU:Stmt:=top 4
noncomputable abbrev Zt:Lh:=["pieces"]
noncomputable abbrev qx:Lh:=["pieces"]
theorem Ws:zi Zt qx (zb qU):=by walk_at "sc"
noncomputable abbrev qy:Stmt:=top 5
noncomputable abbrev ke:Lh:=["piece","word","begin","behind"]
noncomputable abbrev qJ:Lh:=["piece"]
theorem QZ:zi ke qJ (zb qy):=by walk_at "sc"
noncomputable abbrev qK:Stmt:=top 6
noncomputable abbrev yg:Lh:=["pieces"]
noncomputable abbrev zQ:Lh:=["pieces"]
theorem vy:zi yg zQ (zb qK):=by walk_at "sc"
noncomputable abbrev jG:Stmt:=top 7
noncomputable abbrev kf:Lh:=["sheet","over"]
noncomputable abbrev jX:Lh:=["sheet"]
theorem Q0:zi kf jX (zb jG):=by walk_at "sc"
noncomputable abbrev xA:Stmt:=top 15
noncomputable abbrev Xs:Lh:=["pieces","own","piece"]
noncomputable abbrev wz:Lh:=["pieces"]
theorem JE:zi Xs wz (zb xA):=by walk_at "sc"
noncomputable abbrev qp:Stmt:=topC 29 0
noncomputable abbrev xB:Lh:=["self","over","pieces"]
noncomputable abbrev qN:Lh:=["self","over","pieces"]
theorem kg:zi xB qN (zb qp):=by walk_at "sc"
noncomputable abbrev wa:Stmt:=top 22
noncomputable abbrev Zu:Lh:=["thing","at","sign"]
noncomputable abbrev wt:Lh:=["thing"]
theorem Wt:zi Zu wt (zb wa):=by walk_at "sc"
noncomputable abbrev qf:Stmt:=topC 30 0
noncomputable abbrev wW:Lh:=["self","word","name"]
noncomputable abbrev qz:Lh:=["self","word","name"]
theorem yx:zi wW qz (zb qf):=by walk_at "sc"
noncomputable abbrev qq:Stmt:=topC 31 0
noncomputable abbrev xC:Lh:=["self"]
noncomputable abbrev qO:Lh:=["self"]
theorem kh:zi xC qO (zb qq):=by walk_at "sc"
noncomputable abbrev z7:Stmt:=topC 30 1
noncomputable abbrev wJ:Lh:=["self","piece","pieces"]
noncomputable abbrev ql:Lh:=["self","piece"]
theorem vY:zi wJ ql (zb z7):=by walk_at "sc"
noncomputable abbrev zU:Stmt:=topC 30 2
noncomputable abbrev wj:Lh:=["self"]
noncomputable abbrev qg:Lh:=["self"]
theorem vz:zi wj qg (zb zU):=by walk_at "sc"
noncomputable abbrev qV:Stmt:=topC 30 3
noncomputable abbrev vA:Lh:=["self"]
noncomputable abbrev js:Lh:=["self"]
theorem ZE:zi vA js (zb qV):=by walk_at "sc"
noncomputable abbrev z8:Stmt:=topC 31 1
noncomputable abbrev wK:Lh:=["self"]
noncomputable abbrev qm:Lh:=["self"]
theorem vZ:zi wK qm (zb z8):=by walk_at "sc"
noncomputable abbrev qh:Stmt:=topC 31 2
noncomputable abbrev wX:Lh:=["self","token","at","word"]
noncomputable abbrev qA:Lh:=["self","token","at"]
theorem yy:zi wX qA (zb qh):=by walk_at "sc"
noncomputable abbrev zV:Stmt:=topC 31 3
noncomputable abbrev wk:Lh:=["self","word","name"]
noncomputable abbrev qi:Lh:=["self","word","name"]
theorem vB:zi wk qi (zb zV):=by walk_at "sc"
noncomputable abbrev jH:Stmt:=topC 31 4
noncomputable abbrev ki:Lh:=["self","token","at","word","last"]
noncomputable abbrev jY:Lh:=["self","token","at"]
theorem Q1:zi ki jY (zb jH):=by walk_at "sc"
noncomputable abbrev jm:Stmt:=topC 31 5
noncomputable abbrev yh:Lh:=["self","at"]
noncomputable abbrev jI:Lh:=["self","at"]
theorem Qz:zi yh jI (zb jm):=by walk_at "sc"
noncomputable abbrev xD:Stmt:=top 21
noncomputable abbrev JF:Lh:=["thing"]
noncomputable abbrev xM:Lh:=["thing"]
theorem Vw:zi JF xM (zb xD):=by walk_at "sc"
noncomputable abbrev jn:Stmt:=top 32
noncomputable abbrev yi:Lh:=["word"]
noncomputable abbrev jJ:Lh:=["word"]
theorem QA:zi yi jJ (zb jn):=by walk_at "sc"
noncomputable abbrev wL:Stmt:=top 33
noncomputable abbrev QB:Lh:=["inside","words"]
noncomputable abbrev wY:Lh:=["inside"]
theorem Xu:zi QB wY (zb wL):=by walk_at "sc"
noncomputable abbrev wM:Stmt:=top 34
noncomputable abbrev QC:Lh:=["text","at","stop","inside"]
noncomputable abbrev wZ:Lh:=["text","at"]
theorem Xv:zi QC wZ (zb wM):=by walk_at "sc"
noncomputable abbrev jK:Stmt:=top 35
noncomputable abbrev kj:Lh:=["text","draft","at","found"]
noncomputable abbrev jZ:Lh:=["text"]
theorem Q2:zi kj jZ (zb jK):=by walk_at "sc"
noncomputable abbrev wb:Stmt:=top 51
noncomputable abbrev Zv:Lh:=["_law_text","_law_pieces","_law_found","_law_told_here"]
noncomputable abbrev wu:Lh:=["_law_text","_law_pieces"]
theorem Wu:zi Zv wu (zb wb):=by walk_at "sc"
noncomputable abbrev Xw:Stmt:=top 52
noncomputable abbrev zed:Lh:=["_law_script","_law_signs_here","_law_code","_law_pieces","_law_both","_law_other"]
noncomputable abbrev Wv:Lh:=["_law_script"]
theorem zgs:zi zed Wv (zb Xw):=by walk_at "sc"
noncomputable abbrev jb:List (Lc×T):=[([123],.str [123,40,125]),([125],.str [123,41,125])]
noncomputable abbrev g_SIGNS:T:=.str [32,33,34,35,36,38,39,40,41,42,43,44,45,46,47,48,49,50,51,52,53,54,55,56,57,58,59,60,61,62,63,64,65,66,67,68,69,70,71,72,73,74,75,76,77,78,79,80,81,82,83,84,85,86,87,88,89,90,91,92,93,94,95,96,97,98,99,100,101,102,103,104,105,106,107,108,109,110,111,112,113,114,115,116,117,118,119,120,121,122,123,124,125,126]
noncomputable abbrev g_LETTERS:T:=.str [97,98,99,100,101,102,103,104,105,106,107,108,109,110,111,112,113,114,115,116,117,118,119,120,121,122]
noncomputable abbrev g_LONGEST_NAME:T:=.int 8
noncomputable abbrev g_MOST_SIGNS:T:=.int 2000
noncomputable abbrev g_MOST_OPENED:T:=.int 12
noncomputable abbrev g_BRACE_WORDS:T:=.ks false [.str [101,97,99,104],.str [105,102],.str [101,108,115,101],.str [101,110,100],.str [98,108,111,99,107],.str [101,108,100,101,114],.str [100,114,97,119],.str [111,118,101,114]]
noncomputable abbrev xg:List (Lc×T):=[([40],.ks false [.str [108,105,116],.str [123]]),([41],.ks false [.str [108,105,116],.str [125]]),([101,108,115,101],.ks false [.str [101,108,115,101]]),([101,110,100],.ks false [.str [101,110,100]]),([101,108,100,101,114],.ks false [.str [101,108,100,101,114]])]
noncomputable abbrev g_OPENERS:T:=.ks false [.str [101,97,99,104],.str [105,102],.str [98,108,111,99,107]]
noncomputable def xN:List Cm:=[.asg (.v 2) (.ix (.lst [(.c (.int 1000000007)),(.c (.int 1181783503)),(.c (.int 1372345291)),(.c (.int 1518500279)),(.c (.int 1636201513)),(.c (.int 1734723539)),(.c (.int 1871234567)),(.c (.int 2012345681))]) (.ap .mod [(.v 1),(.c (.int 8))])),
  .asg (.v 3) (.ix (.lst [(.c (.int 100000000003)),(.c (.int 223606797763)),(.c (.int 314159265359)),(.c (.int 414213562379)),(.c (.int 577215664943)),(.c (.int 693147180563)),(.c (.int 732050807573))]) (.ap .mod [(.v 1),(.c (.int 7))])),
  .asg (.v 4) (.ap .mod [(.ap .mul [(.ap .add [(.ap .mod [(.v 0),(.c (.int 1000000000039))]),(.c (.int 1))]),(.v 2)]),(.c (.int 2147483629))]),
  .ret (.ap .mod [(.ap .mul [(.ap .add [(.v 4),(.c (.int 1))]),(.v 3)]),(.c (.int 999999999989))])]
@[irreducible] noncomputable def qB:Fn:=fnD [.mv,.mv] 5 xN
noncomputable def vC:List Cm:=[.ife (.ap .ge [(.v 0),(.ap .pow [(.c (.int 10)),(.c (.int 18))])]) [.ret (.v 0)] [],
  .ret (.call (.fn "_law_mixed") [.mv,.mv] qB [(.v 0),(.c (.int 1))])]
@[irreducible] noncomputable def qW:Fn:=fnD [.mv] 1 vC
noncomputable def wN:List Cm:=[.asg (.v 1) (.c (.str [])),
  .loop (.v 2) .seq [(.v 0)] [.asg (.v 1) (.ap .add [(.v 1),(.dg (.dsp [([123],.str [123,40,125]),([125],.str [123,41,125])]) (.v 2) (.v 2))])],
  .ret (.v 1)]
@[irreducible] noncomputable def z9:Fn:=fnD [.mv] 3 wN
noncomputable def xO:List Cm:=[.asg (.v 0) (.c (.str [32,33,34,35,36,38,39,40,41,42,43,44,45,46,47,48,49,50,51,52,53,54,55,56,57,58,59,60,61,62,63,64])),
  .ret (.ap .add [(.v 0),(.c (.str [65,66,67,68,69,70,71,72,73,74,75,76,77,78,79,80,81,82,83,84,85,86,87,88,89,90,91,92,93,94,95,96,97,98,99,100,101,102,103,104,105,106,107,108,109,110,111,112,113,114,115,116,117,118,119,120,121,122,124,126]))])]
@[irreducible] noncomputable def jc:Fn:=fnD [] 1 xO
noncomputable def vD:List Cm:=[.ife (.ap .eq [(.ap .mod [(.v 0),(.c (.int 3))]),(.c (.int 0))]) [.ret (.ix (.c (.str [123,125])) (.ap .mod [(.ap .fdiv [(.v 0),(.c (.int 3))]),(.c (.int 2))]))] [],
  .ret (.ix (.ap .add [(.call (.fn "_law_signs") [] jc []),(.c (.str [123,125]))]) (.ap .mod [(.ap .fdiv [(.v 0),(.c (.int 3))]),(.c (.int 94))]))]
@[irreducible] noncomputable def qX:Fn:=fnD [.mv] 1 vD
noncomputable def QD:List Cm:=[.ret (.ap .add [(.ap .add [(.c (.str [123])),(.v 0)]),(.c (.str [125]))])]
@[irreducible] noncomputable def qr:Fn:=fnD [.mv] 1 QD
noncomputable def wO:List Cm:=[.ret (.me .join (.c (.str [])) [(.lc (.ap (.kget "LITERAL_BRACES" jb) [(.v 0),(.v 0)]) 1 .seq [(.v 0)] [])])]
@[irreducible] noncomputable def qa:Fn:=fnD [.mv] 1 wO
noncomputable def vE (zg:Fn):List Cm:=[.ret (.ife (.t (.v 0)) (.ap .add [(.call (.fn "braced") [.mv] qr [(.c (.str [101,108,115,101]))]),(.call (.fn "pieces_text") [.mv] zg [(.v 0)])]) (.c (.str [])))]
noncomputable def qj (P:Fn):Fn:=fnD [.mv] 1 (vE P)
noncomputable def xP (qj:Fn)(zg:Fn):List Cm:=[.asg (.v 1) (.ix (.v 0) (.c (.int 0))),
  .ife (.ap .eq [(.v 1),(.c (.str [108,105,116]))]) [.ret (.call (.fn "literal_text") [.mv] qa [(.ix (.v 0) (.c (.int 1)))])] [],
  .ife (.ap .eq [(.v 1),(.c (.str [104,111,108,101]))]) [.ret (.call (.fn "braced") [.mv] qr [(.ix (.v 0) (.c (.int 1)))])] [],
  .ife (.ap .eq [(.v 1),(.c (.str [101,108,100,101,114]))]) [.ret (.call (.fn "braced") [.mv] qr [(.c (.str [101,108,100,101,114]))])] [],
  .asg (.v 2) (.call (.fn "braced") [.mv] qr [(.ap .add [(.ap .add [(.v 1),(.c (.str [32]))]),(.ix (.v 0) (.c (.int 1)))])]),
  .ife (.ap .eq [(.v 1),(.c (.str [100,114,97,119]))]) [.ret (.v 2)] [],
  .asg (.v 3) (.ife (.ap .eq [(.v 1),(.c (.str [105,102]))]) (.call (.fn "else_text") [.mv] qj [(.ix (.v 0) (.c (.int 3)))]) (.c (.str []))),
  .ret (.ap .add [(.ap .add [(.ap .add [(.v 2),(.call (.fn "pieces_text") [.mv] zg [(.ix (.v 0) (.c (.int 2)))])]),(.v 3)]),(.call (.fn "braced") [.mv] qr [(.c (.str [101,110,100]))])])]
noncomputable def zX (P:Fn):Fn:=fnD [.mv] 4 (xP (qj P) P)
noncomputable def xh (zX:Fn):List Cm:=[.ret (.me .join (.c (.str [])) [(.lc (.call (.fn "piece_text") [.mv] zX [(.v 0)]) 1 .seq [(.v 0)] [])])]
noncomputable def zg:Nat->Fn
 | 0=>fun _ _ _=>False
 | n+1=>fnD [.mv] 1 (xh (zX (zg n)))
noncomputable def xQ:List Cm:=[.asg (.v 1) (.ife (.ap .is [(.at (.v 0) 0 "over"),(.c .non)]) (.c (.str [])) (.call (.fn "braced") [.mv] qr [(.ap .add [(.c (.str [111,118,101,114,32])),(.at (.v 0) 0 "over")])])),
  .ret (.ap .add [(.v 1),(.call (.fn "pieces_text") [.mv] (zg 40) [(.at (.v 0) 0 "pieces")])])]
@[irreducible] noncomputable def zY:Fn:=fnD [.mv] 2 xQ
noncomputable def QF (qt:Fn):List Cm:=[.asg (.v 1) (.lst []),
  .loop (.v 2) .seq [(.v 0)] [.ex (.mu .append (.v 1) [(.tpl (.lc (.ife (.t (.ap (.isi [.list]) [(.v 0)])) (.call (.fn "copied") [.mv] qt [(.v 0)]) (.v 0)) 1 .seq [(.v 2)] []))])],
  .ret (.m 1)]
noncomputable def qt:Nat->Fn
 | 0=>fun _ _ _=>False
 | n+1=>fnD [.mv] 3 (QF (qt n))
noncomputable def jR:List Cm:=[.asg (.fld (.v 0) 0 "over") (.v 1),
  .asg (.fld (.v 0) 0 "pieces") (.call (.fn "copied") [.mv] (qt 40) [(.v 2)])]
@[irreducible] noncomputable def zA:Fn:=fnD [.mu,.mv,.mv] 3 jR
noncomputable def vF:List Cm:=[.ife (.tn (.t (.ap (.isi [.str]) [(.v 0)]))) [.never] [],
  .loop (.tup [1,2]) .enumS [(.v 0)] [.ife (.ap .notin [(.v 2),(.g "SIGNS" g_SIGNS)]) [.never] []],
  .ret (.v 0)]
@[irreducible] noncomputable def qY:Fn:=fnD [.mv] 3 vF
noncomputable def jL:List Cm:=[.asg (.fld (.v 0) 1 "word") (.v 1),
  .asg (.fld (.v 0) 1 "name") (.v 2),
  .asg (.fld (.v 0) 1 "branches") (.lst [(.lst [])])]
@[irreducible] noncomputable def zu:Fn:=fnD [.mu,.mv,.mv] 3 jL
noncomputable def jS:List Cm:=[.asg (.fld (.v 0) 2 "over") (.c .non),
  .asg (.fld (.v 0) 2 "opened") (.lst [(.call (.mk 1 "Opened") [.mv,.mv] zu [(.c (.str [])),(.c (.str []))])]),
  .asg (.fld (.v 0) 2 "named") .dct]
@[irreducible] noncomputable def zN:Fn:=fnD [.mu] 1 jS
noncomputable def jv:List Cm:=[.asg (.v 2) (.ix (.at (.v 0) 1 "branches") (.ap .neg [(.c (.int 1))])),
  .ife (.tb true [(.ap .eq [(.ix (.v 1) (.c (.int 0))),(.c (.str [108,105,116]))]),(.t (.v 2)),(.ap .eq [(.ix (.ix (.v 2) (.ap .neg [(.c (.int 1))])) (.c (.int 0))),(.c (.str [108,105,116]))])]) [.asg (.sub (.v 2) (.ap .neg [(.c (.int 1))])) (.tup [(.c (.str [108,105,116])),(.ap .add [(.ix (.ix (.v 2) (.ap .neg [(.c (.int 1))])) (.c (.int 1))),(.ix (.v 1) (.c (.int 1)))])])] [.ex (.mu .append (.v 2) [(.v 1)])]]
@[irreducible] noncomputable def zz:Fn:=fnD [.mu,.mv] 3 jv
noncomputable def jj:List Cm:=[.ret (.bo true [(.ap .eq [(.at (.v 0) 1 "word"),(.c (.str [105,102]))]),(.ap .eq [(.ap .len [(.at (.v 0) 1 "branches")]),(.c (.int 1))])])]
@[irreducible] noncomputable def zp:Fn:=fnD [.mu] 1 jj
noncomputable def wQ:List Cm:=[.ife (.ap .ne [(.at (.v 0) 1 "word"),(.c (.str [105,102]))]) [.ret (.tup [(.at (.v 0) 1 "word"),(.at (.v 0) 1 "name"),(.fz (.ix (.at (.v 0) 1 "branches") (.c (.int 0))))])] [],
  .ret (.tup [(.c (.str [105,102])),(.at (.v 0) 1 "name"),(.fz (.ix (.at (.v 0) 1 "branches") (.c (.int 0)))),(.ife (.t (.call (.mt 1 "takes_else") [.mu] zp [(.v 0)])) (.fz (.lst [])) (.fz (.ix (.at (.v 0) 1 "branches") (.c (.int 1)))))])]
@[irreducible] noncomputable def qb:Fn:=fnD [.mu] 1 wQ
noncomputable def jw:List Cm:=[.ret (.ap .eq [(.ap .len [(.at (.v 0) 2 "opened")]),(.c (.int 1))])]
@[irreducible] noncomputable def zm:Fn:=fnD [.mu] 1 jw
noncomputable def qP:List Cm:=[.asg (.v 3) (.ix (.v 1) (.c (.int 0))),
  .ife (.ap .eq [(.v 3),(.c (.str [111,118,101,114]))]) [.ret (.ap .eq [(.v 2),(.c (.int 0))])] [],
  .ife (.tb true [(.ap .isnot [(.at (.v 0) 2 "over"),(.c .non)]),(.t (.call (.mt 2 "is_outside") [.mu] zm [(.v 0)])),(.ap .ne [(.v 3),(.c (.str [98,108,111,99,107]))])]) [.ret (.c (.bl false))] [],
  .ife (.ap .eq [(.v 3),(.c (.str [101,108,115,101]))]) [.ret (.call (.mt 1 "takes_else") [.mu] zp [(.ix (.at (.v 0) 2 "opened") (.ap .neg [(.c (.int 1))]))])] [],
  .ife (.ap .eq [(.v 3),(.c (.str [101,110,100]))]) [.ret (.not (.call (.mt 2 "is_outside") [.mu] zm [(.v 0)]))] [],
  .ife (.ap .eq [(.v 3),(.c (.str [101,108,100,101,114]))]) [.ret (.ap .isnot [(.at (.v 0) 2 "over"),(.c .non)])] [],
  .ret (.c (.bl true))]
@[irreducible] noncomputable def zq:Fn:=fnD [.mu,.mv,.mv] 4 qP
noncomputable def jk:List Cm:=[.ife (.tb true [(.ap .eq [(.v 1),(.c (.str [98,108,111,99,107]))]),(.ap .isin [(.v 2),(.at (.v 0) 2 "named")])]) [.never] [],
  .ife (.ap .gt [(.ap .len [(.at (.v 0) 2 "opened")]),(.g "MOST_OPENED" g_MOST_OPENED)]) [.never] [],
  .ife (.ap .eq [(.v 1),(.c (.str [98,108,111,99,107]))]) [.asg (.sub (.at (.v 0) 2 "named") (.v 2)) (.c (.bl true))] [],
  .ex (.mu .append (.at (.v 0) 2 "opened") [(.call (.mk 1 "Opened") [.mv,.mv] zu [(.v 1),(.v 2)])])]
@[irreducible] noncomputable def zB:Fn:=fnD [.mu,.mv,.mv] 3 jk
noncomputable def xR:List Cm:=[.ife (.tb false [(.ap .is [(.v 1),(.c .non)]),(.tn (.t (.call (.mt 2 "can_stand") [.mu,.mv,.mv] zq [(.v 0),(.v 1),(.v 2)])))]) [.never] [],
  .asg (.v 3) (.ix (.v 1) (.c (.int 0))),
  .ife (.ap .eq [(.v 3),(.c (.str [111,118,101,114]))]) [.asg (.fld (.v 0) 2 "over") (.ix (.v 1) (.c (.int 1)))] [.ife (.ap .isin [(.v 3),(.g "OPENERS" g_OPENERS)]) [.ex (.call (.mt 2 "begin_piece") [.mu,.mv,.mv] zB [(.v 0),(.v 3),(.ix (.v 1) (.c (.int 1)))])] [.ife (.ap .eq [(.v 3),(.c (.str [101,108,115,101]))]) [.ex (.mu .append (.at (.ix (.at (.v 0) 2 "opened") (.ap .neg [(.c (.int 1))])) 1 "branches") [(.lst [])])] [.ife (.ap .eq [(.v 3),(.c (.str [101,110,100]))]) [.asg (.v 4) (.mu .pop (.at (.v 0) 2 "opened") []),
  .ex (.call (.mt 1 "add_piece") [.mu,.mv] zz [(.ix (.at (.v 0) 2 "opened") (.ap .neg [(.c (.int 1))])),(.call (.mt 1 "whole") [.mu] qb [(.v 4)])])] [.ex (.call (.mt 1 "add_piece") [.mu,.mv] zz [(.ix (.at (.v 0) 2 "opened") (.ap .neg [(.c (.int 1))])),(.v 1)])]]]]]
@[irreducible] noncomputable def zZ:Fn:=fnD [.mu,.mv,.mv] 5 xR
noncomputable def xi:List Cm:=[.ife (.tn (.t (.call (.mt 2 "is_outside") [.mu] zm [(.v 0)]))) [.never] [],
  .ret (.call (.mk 0 "Sheet") [.mv,.mv] zA [(.at (.v 0) 2 "over"),(.fz (.ix (.at (.ix (.at (.v 0) 2 "opened") (.c (.int 0))) 1 "branches") (.c (.int 0))))])]
@[irreducible] noncomputable def qk:Fn:=fnD [.mu,.mv] 2 xi
noncomputable def kW:List Cm:=[.ife (.tb false [(.tn (.t (.ap (.isi [.str]) [(.v 0)]))),(.tn (.chn .le .le (.c (.int 1)) (.ap .len [(.v 0)]) (.g "LONGEST_NAME" g_LONGEST_NAME)))]) [.ret (.c (.bl false))] [],
  .ret (.ap .all [(.lc (.ap .isin [(.v 0),(.g "LETTERS" g_LETTERS)]) 1 .seq [(.v 0)] [])])]
@[irreducible] noncomputable def jd:Fn:=fnD [.mv] 1 kW
noncomputable def xj:List Cm:=[.ret (.bo true [(.call (.fn "is_name") [.mv] jd [(.v 0)]),(.ap .notin [(.v 0),(.g "BRACE_WORDS" g_BRACE_WORDS)])])]
@[irreducible] noncomputable def z0:Fn:=fnD [.mv] 1 xj
noncomputable def yz:List Cm:=[.asg (.v 1) (.me .split (.v 0) [(.c (.str [32]))]),
  .ife (.ap .eq [(.ap .len [(.v 1)]),(.c (.int 1))]) [.ret (.ap (.kget "LONE_TOKENS" xg) [(.v 0),(.ife (.t (.call (.fn "is_own_name") [.mv] z0 [(.v 0)])) (.tup [(.c (.str [104,111,108,101])),(.v 0)]) (.c .non))])] [],
  .ife (.ap .ne [(.ap .len [(.v 1)]),(.c (.int 2))]) [.ret (.c .non)] [],
  .ife (.ap .isin [(.ix (.v 1) (.c (.int 0))),(.tup [(.c (.str [101,97,99,104])),(.c (.str [105,102]))])]) [.ret (.ife (.t (.call (.fn "is_own_name") [.mv] z0 [(.ix (.v 1) (.c (.int 1)))])) (.tup [(.ix (.v 1) (.c (.int 0))),(.ix (.v 1) (.c (.int 1)))]) (.c .non))] [],
  .ife (.ap .isin [(.ix (.v 1) (.c (.int 0))),(.tup [(.c (.str [98,108,111,99,107])),(.c (.str [100,114,97,119])),(.c (.str [111,118,101,114]))])]) [.ret (.ife (.t (.call (.fn "is_name") [.mv] jd [(.ix (.v 1) (.c (.int 1)))])) (.tup [(.ix (.v 1) (.c (.int 0))),(.ix (.v 1) (.c (.int 1)))]) (.c .non))] [],
  .ret (.c .non)]
@[irreducible] noncomputable def zO:Fn:=fnD [.mv] 2 yz
noncomputable def yA:List Cm:=[.ife (.ap .eq [(.ix (.v 0) (.v 1)),(.c (.str [125]))]) [.ret (.tup [(.c .non),(.c (.int 1))])] [],
  .ife (.ap .ne [(.ix (.v 0) (.v 1)),(.c (.str [123]))]) [.ret (.tup [(.tup [(.c (.str [108,105,116])),(.ix (.v 0) (.v 1))]),(.c (.int 1))])] [],
  .asg (.v 2) (.me .find (.v 0) [(.c (.str [125])),(.v 1)]),
  .ife (.ap .lt [(.v 2),(.c (.int 0))]) [.ret (.tup [(.c .non),(.c (.int 1))])] [],
  .asg (.v 3) (.ap (.sl true true) [(.v 0),(.ap .add [(.v 1),(.c (.int 1))]),(.v 2)]),
  .ret (.tup [(.call (.fn "token_of") [.mv] zO [(.v 3)]),(.ap .add [(.ap .len [(.v 3)]),(.c (.int 2))])])]
@[irreducible] noncomputable def qC:Fn:=fnD [.mv,.mv] 4 yA
noncomputable def xS:List Cm:=[.ife (.tb true [(.t (.ap (.isi [.str]) [(.v 0)])),(.ap .gt [(.ap .len [(.v 0)]),(.g "MOST_SIGNS" g_MOST_SIGNS)])]) [.never] [],
  .ex (.call (.fn "need_text") [.mv] qY [(.v 0)]),
  .asg (.v 1) (.call (.mk 2 "Draft") [] zN []),
  .asg (.v 2) (.c (.int 0)),
  .whl (.ap .lt [(.v 2),(.ap .len [(.v 0)])]) [.asg (.v 3) (.fz (.call (.fn "token_at") [.mv,.mv] qC [(.v 0),(.v 2)])),
  .ex (.call (.mt 2 "take") [.mu,.mv,.mv] zZ [(.v 1),(.ix (.v 3) (.c (.int 0))),(.v 2)]),
  .aug 2 .add (.ix (.v 3) (.c (.int 1)))],
  .ret (.call (.mt 2 "ended") [.mu,.mv] qk [(.v 1),(.ap .len [(.v 0)])])]
@[irreducible] noncomputable def qD:Fn:=fnD [.mv] 4 xS
noncomputable def vG:List Cm:=[.asg (.v 2) (.fz (.call (.fn "sheet_read") [.mv] qD [(.v 0)])),
  .ife (.tb false [(.ap .isnot [(.at (.v 2) 0 "over"),(.c .non)]),(.ap .ne [(.at (.v 2) 0 "pieces"),(.v 1)])]) [.ret (.c (.bl false))] [],
  .asg (.v 3) (.call (.fn "sheet_text") [.mv] zY [(.fz (.call (.mk 0 "Sheet") [.mv,.mv] zA [(.c .non),(.v 1)]))]),
  .ret (.bo true [(.ap (.isi [.str]) [(.v 3)]),(.ap .eq [(.v 3),(.v 0)]),(.ap .eq [(.call (.fn "sheet_text") [.mv] zY [(.v 2)]),(.v 0)])])]
@[irreducible] noncomputable def zD:Fn:=fnD [.mv,.mv] 4 vG
noncomputable def YD:List Cm:=[.asg (.v 1) (.me .join (.c (.str [])) [(.lc (.call (.fn "_law_sign") [.mv] qX [(.call (.fn "_law_rest") [.mv] qW [(.v 0)])]) 1 .seq [(.ap (.sl true true) [(.v 0),(.c (.int 2)),(.c (.int 62))])] [])]),
  .asg (.v 2) (.call (.fn "_law_spelled") [.mv] z9 [(.v 1)]),
  .asg (.v 3) (.fz (.ap (.sl false true) [(.lst [(.tup [(.c (.str [108,105,116])),(.v 1)])]),(.ap .len [(.v 1)])])),
  .ife (.tb false [(.tn (.t (.call (.fn "_law_told") [.mv,.mv] zD [(.v 2),(.v 3)]))),(.tn (.t (.call (.fn "_law_told") [.mv,.mv] zD [(.ap .add [(.ap .add [(.c (.str [123,101,97,99,104,32,97,125])),(.v 2)]),(.c (.str [123,101,110,100,125]))]),(.fz (.lst [(.tup [(.c (.str [101,97,99,104])),(.c (.str [97])),(.v 3)])]))])))]) [.ret (.c (.bl false))] [],
  .ife (.tn (.t (.call (.fn "_law_told") [.mv,.mv] zD [(.ap .add [(.ap .add [(.c (.str [123,97,125])),(.v 2)]),(.c (.str [123,98,125]))]),(.fz (.ap .add [(.ap .add [(.lst [(.tup [(.c (.str [104,111,108,101])),(.c (.str [97]))])]),(.v 3)]),(.lst [(.tup [(.c (.str [104,111,108,101])),(.c (.str [98]))])])]))]))) [.ret (.c (.bl false))] [],
  .ife (.ap .eq [(.v 1),(.c (.str []))]) [.ret (.call (.fn "_law_told") [.mv,.mv] zD [(.c (.str [123,105,102,32,97,125,123,101,110,100,125])),(.fz (.lst [(.tup [(.c (.str [105,102])),(.c (.str [97])),(.lst []),(.lst [])])]))])] [],
  .ife (.tn (.t (.call (.fn "_law_told") [.mv,.mv] zD [(.ap .add [(.ap .add [(.c (.str [123,105,102,32,97,125,123,101,108,115,101,125])),(.v 2)]),(.c (.str [123,101,110,100,125]))]),(.fz (.lst [(.tup [(.c (.str [105,102])),(.c (.str [97])),(.lst []),(.v 3)])]))]))) [.ret (.c (.bl false))] [],
  .asg (.v 4) (.fz (.lst [(.tup [(.c (.str [108,105,116])),(.ap .add [(.v 1),(.v 1)])])])),
  .asg (.v 5) (.ap .add [(.ap .add [(.ap .add [(.ap .add [(.ap .add [(.c (.str [123,98,108,111,99,107,32,101,97,99,104,125])),(.v 2)]),(.v 2)]),(.c (.str [123,101,110,100,125,123,105,102,32,97,125]))]),(.v 2)]),(.c (.str [123,101,108,115,101,125,123,41,125,123,101,110,100,125]))]),
  .ret (.call (.fn "_law_told") [.mv,.mv] zD [(.v 5),(.fz (.lst [(.tup [(.c (.str [98,108,111,99,107])),(.c (.str [101,97,99,104])),(.v 4)]),(.tup [(.c (.str [105,102])),(.c (.str [97])),(.v 3),(.lst [(.tup [(.c (.str [108,105,116])),(.c (.str [125]))])])])]))])]
@[irreducible] noncomputable def zee:Fn:=fnD [.mv] 6 YD
theorem Ww:zC ⟨kb,zb jE,true⟩ xN (zf jE)=true:=by decide +kernel
theorem Xx:zC ⟨Zr,zb j8,true⟩ vC (zf j8)=true:=by decide +kernel
theorem QG:zC ⟨vv,zb qS,true⟩ wN (zf qS)=true:=by decide +kernel
theorem Wx:zC ⟨kc,zb jF,true⟩ xO (zf jF)=true:=by decide +kernel
theorem Xy:zC ⟨Zs,zb j9,true⟩ vD (zf j9)=true:=by decide +kernel
theorem zbS:zC ⟨Xr,zb vw,true⟩ QD (zf vw)=true:=by decide +kernel
theorem QH:zC ⟨vx,zb qT,true⟩ wO (zf qT)=true:=by decide +kernel
theorem Xz {zg:Fn}:zC ⟨Zt,zb qU,true⟩ (vE zg) (zf qU)=true:=by kernel_rfl
theorem Wy {qj:Fn}{zg:Fn}:zC ⟨ke,zb qy,true⟩ (xP qj zg) (zf qy)=true:=by kernel_rfl
theorem Q3 {zX:Fn}:zC ⟨yg,zb qK,true⟩ (xh zX) (zf qK)=true:=by kernel_rfl
theorem Wz:zC ⟨kf,zb jG,true⟩ xQ (zf jG)=true:=by decide +kernel
theorem zbT {qt:Fn}:zC ⟨Xs,zb xA,true⟩ (QF qt) (zf xA)=true:=by kernel_rfl
theorem kX:zC ⟨xB,zb qp,true⟩ jR (zf qp)=true:=by decide +kernel
theorem XA:zC ⟨Zu,zb wa,true⟩ vF (zf wa)=true:=by decide +kernel
theorem kl:zC ⟨wW,zb qf,true⟩ jL (zf qf)=true:=by decide +kernel
theorem kY:zC ⟨xC,zb qq,true⟩ jS (zf qq)=true:=by decide +kernel
theorem yB:zC ⟨wJ,zb z7,true⟩ jv (zf z7)=true:=by decide +kernel
theorem v7:zC ⟨wj,zb zU,true⟩ jj (zf zU)=true:=by decide +kernel
theorem QI:zC ⟨vA,zb qV,true⟩ wQ (zf qV)=true:=by decide +kernel
theorem yC:zC ⟨wK,zb z8,true⟩ jw (zf z8)=true:=by decide +kernel
theorem km:zC ⟨wX,zb qh,true⟩ qP (zf qh)=true:=by decide +kernel
theorem v8:zC ⟨wk,zb zV,true⟩ jk (zf zV)=true:=by decide +kernel
theorem WA:zC ⟨ki,zb jH,true⟩ xR (zf jH)=true:=by decide +kernel
theorem Q5:zC ⟨yh,zb jm,true⟩ xi (zf jm)=true:=by decide +kernel
theorem KI:zC ⟨JF,zb xD,true⟩ kW (zf xD)=true:=by decide +kernel
theorem Q6:zC ⟨yi,zb jn,true⟩ xj (zf jn)=true:=by decide +kernel
theorem Vx:zC ⟨QB,zb wL,true⟩ yz (zf wL)=true:=by decide +kernel
theorem Vy:zC ⟨QC,zb wM,true⟩ yA (zf wM)=true:=by decide +kernel
theorem WC:zC ⟨kj,zb jK,true⟩ xS (zf jK)=true:=by decide +kernel
theorem XB:zC ⟨Zv,zb wb,true⟩ vG (zf wb)=true:=by decide +kernel
theorem zhT:zC ⟨zed,zb Xw,true⟩ YD (zf Xw)=true:=by decide +kernel
section
noncomputable abbrev wLit:Lc:=[108,105,116]
noncomputable abbrev wIf:Lc:=[105,102]
noncomputable abbrev zM:Lc:=[101,97,99,104]
noncomputable abbrev w6:Lc:=[101,108,115,101]
noncomputable abbrev wEnd:Lc:=[101,110,100]
noncomputable abbrev zH:Lc:=[98,108,111,99,107]
noncomputable abbrev yD:Lc:=[101,108,100,101,114]
noncomputable abbrev JG:Lc:=[100,114,97,119]
noncomputable abbrev jg:Lc:=[111,118,101,114]
noncomputable abbrev XC:Lc:=[104,111,108,101]
noncomputable abbrev Vz:List (Lc):=[zM,wIf,w6,wEnd,zH,yD,JG,jg]
noncomputable def SG:Lc:=[32,33,34,35,36,38,39,40,41,42,43,44,45,46,47,48,49,50,51,52,53,54,55,56,57,58,59,60,61,62,63,64,65,66,67,68,69,70,71,72,73,74,75,76,77,78,79,80,81,82,83,84,85,86,87,88,89,90,91,92,93,94,95,96,97,98,99,100,101,102,103,104,105,106,107,108,109,110,111,112,113,114,115,116,117,118,119,120,121,122,123,124,125,126]
noncomputable def hd1:T->Lc
 | .tp (.str w::_)=>w
 | _=>[]
noncomputable def hd2:T->Lc
 | .tp (_::.str s::_)=>s
 | _=>[]
noncomputable abbrev fl (xs:List T):T:=.nd false .ls xs
noncomputable abbrev litP (s:Lc):T:=.tp [.str wLit,.str s]
noncomputable def addP (l:List T)(p:T):List T:=match l.getLast? with
 | some q=>if hd1 p=wLit/\hd1 q=wLit then l.dropLast++[litP (hd2 q++hd2 p)] else l++[p]
 | none=>l++[p]
theorem XD {p:T}:addP [] p=[p]:=rfl
theorem wA {l:List T}{q p:T}:addP (l++[q]) p=if hd1 p=wLit/\hd1 q=wLit then l++[litP (hd2 q++hd2 p)] else l++[q]++[p]:=by
 unfold addP
 rw [gv]
 simp only [List.dropLast_concat]
theorem zbU (l:List T)(a b:Lc):addP (addP l (litP a)) (litP b)=addP l (litP (a++b)):=by
 rcases gn l with rfl | ⟨l',q,rfl⟩
 ·rfl
 ·rw [gp,wA,wA]
  by_cases h:hd1 q=wLit
  ·rw [uA ⟨rfl,h⟩,uA ⟨rfl,h⟩,wA,uA ⟨rfl,rfl⟩]
   show l'++[litP ((hd2 q++a)++b)]=l'++[litP (hd2 q++(a++b))]
   rw [uc]
  ·rw [uq (fun z=>h z.2),uq (fun z=>h z.2),wA,uA ⟨rfl,rfl⟩]
   rfl
structure Fr where
 w:Lc
 n:Lc
 ps:List (List T)
 cur:List T
noncomputable def Fr.put (f:Fr)(p:T):Fr:={ f with cur:=addP f.cur p }
noncomputable def Fr.whole (f:Fr):T:=.tp (.str f.w::.str f.n::((f.ps++[f.cur]).map fl++if f.w=wIf/\f.ps=[] then [fl []] else []))
noncomputable abbrev Sx:=List Fr×List (Lc)
inductive Tok where
 | lit (s:Lc) | hole (n:Lc) | draw (n:Lc) | elder | op (w n:Lc) | els | fin
noncomputable def Tok.xs:Tok->List T
 | .lit s=>[.str wLit,.str s]
 | .hole n=>[.str XC,.str n]
 | .draw n=>[.str JG,.str n]
 | .elder=>[.str yD]
 | .op w n=>[.str w,.str n]
 | .els=>[.str w6]
 | .fin=>[.str wEnd]
noncomputable def Tok.isP (ov:Bool):Tok->Bool
 | .lit _=>true
 | .hole _=>true
 | .draw _=>true
 | .elder=>ov
 | _=>false
inductive Stp (ov:Bool):Sx->Tok->Sx->Prop where
 | put {f:Fr} {st:List Fr} {nm:List (Lc)} {k:Tok}:k.isP ov=true->(ov=true->st≠[])->Stp ov (f::st,nm) k (f.put (.tp k.xs)::st,nm)
 | op {st:List Fr} {nm:List (Lc)} {w n:Lc}:st.length<=12->st≠[]->(w=zM\/w=wIf\/w=zH)->(ov=true->st.length=1->w=zH)->(w=zH->n∉nm)->Stp ov (st,nm) (.op w n) (⟨w,n,[],[]⟩::st,if w=zH then nm++[n] else nm)
 | els {f:Fr} {st:List Fr} {nm:List (Lc)}:f.w=wIf->f.ps=[]->(ov=true->st≠[])->Stp ov (f::st,nm) .els ({ f with ps:=[f.cur],cur:=[] }::st,nm)
 | fin {f g:Fr} {st:List Fr} {nm:List (Lc)}:Stp ov (f::g::st,nm) .fin (g.put f.whole::st,nm)
def wR (n:Lc):Prop:=1<=n.length/\n.length<=8/\∀ c∈n,97<=c/\c<=122
def QJ (n:Lc):Prop:=wR n/\n∉Vz
inductive Ins:Tok->Lc->Prop where
 | lb:Ins (.lit [123]) [40]
 | rb:Ins (.lit [125]) [41]
 | hole {n:Lc}:QJ n->Ins (.hole n) n
 | draw {n:Lc}:wR n->Ins (.draw n) (JG++32::n)
 | elder:Ins .elder yD
 | els:Ins .els w6
 | fin:Ins .fin wEnd
 | op1 {w n:Lc}:w=zM\/w=wIf->QJ n->Ins (.op w n) (w++32::n)
 | op2 {n:Lc}:wR n->Ins (.op zH n) (zH++32::n)
inductive Tx:Tok->Lc->Prop where
 | sign {c:Nat}:c∈SG->c≠123->c≠125->Tx (.lit [c]) [c]
 | word {k:Tok} {i:Lc}:Ins k i->Tx k (123::(i++[125]))
inductive Rd (ov:Bool):Sx->Lc->Sx->Prop where
 | nil {s:Sx}:Rd ov s [] s
 | cons {s s1 s2:Sx} {k:Tok} {t r:Lc}:Stp ov s k s1->Tx k t->Rd ov s1 r s2->Rd ov s (t++r) s2
theorem Rd.app {ov:Bool}{s s1 s2:Sx}{a b:Lc}(h:Rd ov s a s1)(k:Rd ov s1 b s2):Rd ov s (a++b) s2:=by
 induction h with
 | nil=>exact k
 | cons h1 h2 _ ih=>rw [uc];exact .cons h1 h2 (ih k)
theorem Rd.one {ov:Bool}{s s1:Sx}{k:Tok}{t:Lc}(h:Stp ov s k s1)(ht:Tx k t):Rd ov s t s1:=by
 have:=Rd.cons h ht .nil
 rwa [uw] at this
theorem wx {n:Lc}(h:wR n):∀ c∈n,c∈SG/\c≠125/\c≠32:=fun c hc=>by
 have:=h.2.2 c hc
 have e:∀ c,97<=c/\c<=122->c∈SG/\c≠125/\c≠32:=fun c h=>⟨by
  have:c=97+(c - 97)/\c - 97<26:=by lia
  have z:∀ k,k<26->97+k∈SG:=by decide
  rw [this.1]
  exact z _ this.2,by lia,by lia⟩
 exact e c this
theorem zbV {k:Tok}{i:Lc}(h:Ins k i):i.length<=14/\∀ c∈i,c∈SG/\c≠125:=by
 have two:∀ (w n:Lc),w.length<=5->(∀ c∈w,c∈SG/\c≠125)->wR n->(w++32::n).length<=14/\∀ c∈w++32::n,c∈SG/\c≠125:=fun w n hl hw hn=>by
  refine⟨?_,fun c hc=>?_⟩
  ·have:=hn.2.1
   simp only [ub,ua]
   lia
  ·rcases uC.mp hc with z | z
   ·exact hw c z
   ·rcases uh.mp z with z | z
    ·subst z;decide
    ·exact⟨(wx hn c z).1,(wx hn c z).2.1⟩
 cases h with
 | lb=>decide
 | rb=>decide
 | hole h=>exact⟨by have:=h.1.2.1;omega,fun c hc=>⟨(wx h.1 c hc).1,(wx h.1 c hc).2.1⟩⟩
 | draw h=>exact two _ _ (by decide) (by decide) h
 | elder=>decide
 | els=>decide
 | fin=>decide
 | op1 hw h=>
  rcases hw with rfl | rfl
  ·exact two _ _ (by decide) (by decide) h.1
  ·exact two _ _ (by decide) (by decide) h.1
 | op2 h=>exact two _ _ (by decide) (by decide) h
theorem YE {k:Tok}{t:Lc}(h:Tx k t):1<=t.length/\∀ c∈t,c∈SG:=by
 cases h with
 | sign h _ _=>exact⟨uf _,fun c hc=>by rw [uj.mp hc];exact h⟩
 | word h=>
  refine⟨by simp,fun c hc=>?_⟩
  rcases uh.mp hc with rfl | hc
  ·decide
  ·rcases uC.mp hc with z | z
   ·exact((zbV h).2 c z).1
   ·rw [uj.mp z];decide
theorem Rd.sg {ov:Bool}{s s1:Sx}{a:Lc}(h:Rd ov s a s1):∀ c∈a,c∈SG:=by
 induction h with
 | nil=>exact nofun
 | cons _ h2 _ ih=>exact fun c hc=>(uC.mp hc).elim (fun z=>(YE h2).2 c z) (ih c)
def Pb (B:Nat)(R:T->Prop)(t:T):Prop:=∃ (w:Lc) (xs:List T),t=.tp (.str w::xs)/\w.length<=B/\(w=wLit->∃ s,xs=[.str s])/\xs.length<=8/\∀ x∈xs,(∃ s,x=.str s/\s.length<=B)\/∃ ps,x=fl ps/\ps.length<=B/\∀ p∈ps,R p
noncomputable def Pc (B:Nat):Nat->T->Prop
 | 0=>Pb B fun _=>False
 | n+1=>Pb B (Pc B n)
theorem Pb.mono {B B':Nat}{R R':T->Prop}{t:T}(h:Pb B R t)(hB:B<=B')(hR:∀ p,R p->R' p):Pb B' R' t:=by
 obtain⟨w,xs,e,h1,h2,h3,h4⟩:=h
 refine⟨w,xs,e,by lia,h2,h3,fun x hx=>(h4 x hx).imp (fun⟨s,a,b⟩=>⟨s,a,by lia⟩) fun⟨ps,a,b,c⟩=>⟨ps,a,by lia,fun p hp=>hR p (c p hp)⟩⟩
theorem Pc.mono {B B':Nat}(hB:B<=B'):∀ {n:Nat} {t:T},Pc B n t->Pc B' n t
 | 0,_,h=>Pb.mono h hB fun _ z=>z
 | n+1,_,h=>Pb.mono h hB fun _ z=>Pc.mono hB z
theorem Pc.up {B:Nat}:∀ {n:Nat} {t:T},Pc B n t->Pc B (n+1) t
 | 0,_,h=>Pb.mono (R':=Pc B 0) h (uf _) fun _ z=>z.elim
 | n+1,_,h=>Pb.mono (R':=Pc B (n+1)) h (uf _) fun _ z=>Pc.up z
theorem Pc.body {B:Nat}:∀ {n:Nat} {t:T},Pc B n t->Pb B (fun p=>∃ m,m<n/\Pc B m p) t
 | 0,_,h=>Pb.mono h (uf _) fun _ z=>z.elim
 | n+1,_,h=>Pb.mono h (uf _) fun _ z=>⟨n,UL n,z⟩
theorem Pc.to {B n m:Nat}(h:n<=m){t:T}(k:Pc B n t):Pc B m t:=by
 induction h with
 | refl=>exact k
 | step _ ih=>exact ih.up
theorem kn {B n:Nat}{w:Lc}{xs:List T}(h1:w.length<=B)(h2:w=wLit->∃ s,xs=[.str s])(h3:xs.length<=8)(h:∀ x∈xs,∃ s,x=.str s/\s.length<=B):Pc B n (.tp (.str w::xs)):=by
 refine Pc.to (uF n) (?_:Pc B 0 _)
 exact⟨w,xs,rfl,h1,h2,h3,fun x hx=>.inl (h x hx)⟩
def PcL (B n:Nat)(l:List T):Prop:=l.length<=B/\∀ p∈l,Pc B n p
theorem PcL.mono {B B' n:Nat}(hB:B<=B'){l:List T}(h:PcL B n l):PcL B' n l:=⟨uN h.1 hB,fun p hp=>(h.2 p hp).mono hB⟩
def FrK (B n:Nat)(f:Fr):Prop:=PcL B n f.cur/\(∀ l∈f.ps,PcL B n l)/\(f.ps=[]\/f.w=wIf/\∃ a,f.ps=[a])/\f.w.length<=8/\f.n.length<=8/\f.w≠wLit
theorem FrK.mono {B B' n:Nat}(hB:B<=B'){f:Fr}(h:FrK B n f):FrK B' n f:=⟨h.1.mono hB,fun l hl=>(h.2.1 l hl).mono hB,h.2.2⟩
noncomputable def StK (B:Nat):List Fr->Prop
 | []=>True
 | f::st=>st.length<=12/\FrK B (12 - st.length) f/\StK B st
theorem StK.mono {B B':Nat}(hB:B<=B'):∀ {st:List Fr},StK B st->StK B' st
 | [],_=>trivial
 | _::_,h=>⟨h.1,h.2.1.mono hB,StK.mono hB h.2.2⟩
theorem YF {B n:Nat}{t:T}(h:Pc B n t)(hl:hd1 t=wLit):∃ s,t=litP s/\s.length<=B:=by
 obtain⟨w,xs,rfl,h1,h2,h3,h4⟩:=h.body
 obtain⟨s,rfl⟩:=h2 hl
 have hl:w=wLit:=hl
 subst hl
 refine⟨s,rfl,?_⟩
 rcases h4 _ ui with⟨u,e,z⟩ | ⟨ps,e,_⟩
 ·cases e;exact z
 ·cases e
theorem YG {B n d:Nat}{l:List T}{p:T}(hl:PcL B n l)(hp:Pc (B+d) n p)(hd:1<=d)(hs:hd1 p=wLit->(hd2 p).length<=d)(h8:8<=B):PcL (B+d) n (addP l p):=by
 rcases gn l with rfl | ⟨l',q,rfl⟩
 ·exact⟨by rw [XD];simp only [ua,ud];lia,fun x hx=>by rw [XD] at hx;rw [uj.mp hx];exact hp⟩
 ·rw [gp] at hl ⊢
  have l1:=hl.1
  rw [ub] at l1
  rw [wA]
  split
  ·rename_i h
   obtain⟨s,rfl,hs'⟩:=YF (hl.2 q (uy _ ui)) h.2
   refine⟨by rw [ub];simp only [ua,ud] at l1 ⊢;lia,fun x hx=>?_⟩
   rcases uC.mp hx with z | z
   ·exact(hl.2 x (uS _ z)).mono (by lia)
   ·rw [uj.mp z]
    refine kn (by simp only [ua,ud];lia) (fun _=>⟨_,rfl⟩) (by simp) fun x hx=>⟨_,uj.mp hx,?_⟩
    have:=hs h.1
    show(s++hd2 p).length<=_
    rw [ub]
    lia
  ·refine⟨by rw [ub,ub];simp only [ua,ud] at l1 ⊢;lia,fun x hx=>?_⟩
   rcases uC.mp hx with z | z
   ·exact(hl.2 x z).mono (by lia)
   ·rw [uj.mp z];exact hp
theorem XE {B n:Nat}{f:Fr}(h:FrK B n f)(h8:8<=B):Pc B (n+1) f.whole:=by
 obtain⟨h1,h2,h3,h4,h5,h6⟩:=h
 have hb:∀ l∈f.ps++[f.cur],PcL B n l:=fun l hl=>by
  rcases uC.mp hl with z | z
  ·exact h2 l z
  ·rw [uj.mp z];exact h1
 have hl:(f.ps++[f.cur]).length<=2:=by
  rcases h3 with z | ⟨_,a,z⟩<;>simp [z]
 refine⟨f.w,_,rfl,by lia,fun z=>absurd z h6,?_,fun x hx=>?_⟩
 ·rw [ua,ub,ug]
  split<;>simp only [ua,ud]<;>lia
 ·rcases uh.mp hx with rfl | hx
  ·exact .inl ⟨_,rfl,by lia⟩
  ·rcases uC.mp hx with z | z
   ·obtain⟨l,hl,rfl⟩:=Ur.mp z
    exact .inr ⟨l,rfl,(hb l hl).1,(hb l hl).2⟩
   ·split at z
    ·rw [uj.mp z]
     exact .inr ⟨[],rfl,uF _,nofun⟩
    ·cases z
theorem zbW {ov:Bool}{k:Tok}{t:Lc}{B n:Nat}(hp:k.isP ov=true)(ht:Tx k t)(h8:8<=B):Pc (B+t.length) n (.tp k.xs)/\(hd1 (.tp k.xs)=wLit->(hd2 (.tp k.xs)).length<=t.length):=by
 have leaf:∀ (w s:Lc),w.length<=8->s.length<=B+t.length->Pc (B+t.length) n (.tp [.str w,.str s]):=fun w s h1 h2=>kn (by lia) (fun _=>⟨_,rfl⟩) (by simp) fun x hx=>⟨s,uj.mp hx,h2⟩
 have nm:∀ {n:Lc},wR n->n.length<=B+t.length:=fun h=>by have:=h.2.1;lia
 cases ht with
 | sign h=>exact⟨leaf _ _ (by decide) (by simp only [ua,ud];omega),fun _=>uf _⟩
 | word h=>
  cases h with
  | lb=>exact⟨leaf _ _ (by decide) (by simp only [ua,ud];omega),fun _=>by decide⟩
  | rb=>exact⟨leaf _ _ (by decide) (by simp only [ua,ud];omega),fun _=>by decide⟩
  | hole h=>exact⟨leaf _ _ (by decide) (nm h.1),fun z=>absurd (show XC=wLit from z) (by decide)⟩
  | draw h=>exact⟨leaf _ _ (by decide) (nm h),fun z=>absurd (show JG=wLit from z) (by decide)⟩
  | elder=>exact⟨kn (by simp only [ua,ud];omega) (fun z=>absurd z (by decide)) (by simp) nofun,fun z=>absurd z (by decide)⟩
  | els=>cases hp
  | fin=>cases hp
  | op1 _ _=>cases hp
  | op2 _=>cases hp
theorem zbX {ov:Bool}{s s':Sx}{k:Tok}{t:Lc}{B:Nat}(h:Stp ov s k s')(ht:Tx k t)(hk:StK B s.1)(h8:8<=B):StK (B+t.length) s'.1:=by
 have t1:=(YE ht).1
 cases h with
 | put hp ho=>
  obtain⟨k1,k2,k3⟩:=hk
  obtain⟨p1,p2⟩:=zbW (n:=12 - _) hp ht h8
  exact⟨k1,⟨YG k2.1 p1 t1 p2 h8,(k2.mono (uY _ _)).2⟩,k3.mono (uY _ _)⟩
 | op h1 h2 h3 h4 h5=>
  refine⟨h1,⟨⟨uF _,nofun⟩,nofun,.inl rfl,?_,?_,?_⟩,StK.mono (uY _ _) hk⟩
  ·rcases h3 with rfl | rfl | rfl<;>(simp only [ua,ud];lia)
  ·cases ht with
   | word h=>
    cases h with
    | op1 _ h=>exact h.1.2.1
    | op2 h=>exact h.2.1
  ·rcases h3 with rfl | rfl | rfl
   ·exact(by decide:zM≠wLit)
   ·exact(by decide:wIf≠wLit)
   ·exact(by decide:zH≠wLit)
 | els h1 h2 h3=>
  obtain⟨k1,k2,k3⟩:=hk
  have k2:=k2.mono (uY B t.length)
  refine⟨k1,⟨⟨uF _,nofun⟩,fun l hl=>?_,.inr ⟨h1,_,rfl⟩,k2.2.2.2⟩,k3.mono (uY _ _)⟩
  rw [uj.mp hl];exact k2.1
 | fin=>
  obtain⟨k1,k2,k3,k4,k5⟩:=hk
  rename_i f g st nm
  have e:12 - st.length=12 - (st.length+1)+1:=by simp only [ua] at k1;lia
  have w:=XE k2 h8
  have w1:Pc (B+t.length) (12 - st.length) f.whole:=by rw [e];exact w.mono (uY _ _)
  exact⟨k3,⟨YG k4.1 w1 t1 (fun z=>absurd z k2.2.2.2.2.2) h8,(k4.mono (uY _ _)).2⟩,k5.mono (uY _ _)⟩
theorem Rd.ok {ov:Bool}{s s':Sx}{a:Lc}(h:Rd ov s a s'):∀ {B:Nat},StK B s.1->8<=B->StK (B+a.length) s'.1:=by
 induction h with
 | nil=>exact fun h _=>h
 | cons h1 h2 _ ih=>
  intro B hk h8
  have:=ih (zbX h1 h2 hk h8) (by lia)
  rwa [ub,← Nat.add_assoc]
end
section
theorem getD_at (l:Lc)(v:Nat):(S l).cps.getD v 0=l.getD v 0:=by
 simp [S,Array.getD]
 by_cases h:v<l.length
 ·rw [dif_pos h,um h];rfl
 ·rw [dif_neg h,List.getElem?_eq_none (by lia)];rfl
theorem zds {l i r:Lc}{a:Nat}(h:l.drop a=123::(i++125::r))(hi:125∉i):Txt.find3 (S l) (S [125]) (a:Int)=((a+1+i.length:Nat):Int):=by
 have hf:fromIndex (S l).length (a:Int)=a:=by
  unfold fromIndex
  rw [uq (by lia)]
  lia
 have hat:∀ j,l.getD (a+j) 0=(123::(i++125::r)).getD j 0:=fun j=>by
  rw [← h,uU,uU,List.getElem?_drop]
 have h1:l.getD (a+(1+i.length)) 0=125:=by
  rw [hat,show 1+i.length=i.length+1 by lia,uU,U8,uL (uf _),UA]
  rfl
 have h2:∀ j,j<1+i.length->l.getD (a+j) 0≠125:=fun j hj=>by
  rw [hat]
  cases j with
  | zero=>exact(by decide:(123:Nat)≠125)
  | succ j=>
   rw [uU,U8,Ui (by lia),um (by lia)]
   exact fun z=>hi (by rw [← show i[j]=125 from z];exact UM _)
 have hl:a+(1+i.length)<l.length:=by
  have:=congrArg List.length h
  simp only [u6,ua,ub] at this
  lia
 rcases StrLaws.find3_spec (S l) 125 (a:Int) with⟨_,z⟩ | ⟨k,e,k1,k2,k3,k4⟩
 ·rw [hf] at z
  exact absurd h1 (by rw [← getD_at];exact z _ (by lia) (by rw [jf];exact hl))
 ·rw [hf] at k1 k4
  rw [getD_at] at k3
  refine e.trans ?_
  have a1:¬ k<a+(1+i.length):=fun z=>h2 (k - a) (by lia) (by rw [show a+(k - a)=k by lia];exact k3)
  have a2:¬ a+(1+i.length)<k:=fun z=>k4 _ (by lia) z (by rw [getD_at];exact h1)
  congr 1
  lia
theorem Zw (l:Lc)(c:Nat):∃ ps:List (Lc),splits l [c]=ps/\(∀ p∈ps,c∉p)/\Str.join (S [c]) (ps.map S)=S l/\ps≠[]:=by
 refine⟨_,rfl,fun p hp=>?_,?_,fun z=>?_⟩
 ·obtain⟨q,hq,rfl⟩:=Ur.mp hp
  exact StrLaws.split_free (S l) c q hq
 ·have:=StrLaws.join_split (S l) (S [c])
  have e:(splits l [c]).map S=Txt.split (S l) (S [c]):=by
   unfold splits
   rw [Uz]
   conv=>rhs;rw [← List.map_id (Txt.split (S l) (S [c]))]
   exact u9 fun a _=>by simp [S]
  rw [e];exact this
 ·have z':Txt.split (S l) (S [c])=[]:=by
   unfold splits at z
   exact Up.mp z
  have:=StrLaws.join_split (S l) (S [c])
  rw [z'] at this
  have e:l=[]:=by
   have:=congrArg (fun x=>x.cps.toList) this
   simpa [S,Str.join,Str.empty] using this.symm
  subst e
  unfold Txt.split at z'
  rw [uA (by rw [jf,jf];rfl)] at z'
  cases z'
theorem S_app (a b:Lc):S a++S b=S (a++b):=by
 show Str.append (S a) (S b)=_
 simp [S,Str.append]
theorem zbY {l:Lc}(h:32∉l):splits l [32]=[l]:=by
 obtain⟨ps,e,h1,h2,h3⟩:=Zw l 32
 rw [e]
 match ps,h3,h1,h2 with
 | [p],_,_,h2=>
  have:S p=S l:=h2
  rw [Z0.mp this]
 | p::q::ps,_,_,h2=>
  have h2:S p++S [32]++Str.join (S [32]) ((q::ps).map S)=S l:=h2
  refine absurd ?_ h
  have z:(S p++S [32]++Str.join (S [32]) ((q::ps).map S)).cps.toList=l:=by rw [h2];simp [S]
  rw [← z]
  show 32∈(Str.append (Str.append (S p) (S [32])) _).cps.toList
  simp [Str.append,S]
theorem XF {p q x y:Lc}{c:Nat}(hp:c∉p)(hq:c∉q)(h:p++c::x=q++c::y):p=q/\x=y:=by
 induction p generalizing q with
 | nil=>
  cases q with
  | nil=>simpa using h
  | cons a q=>simp at h;exact absurd (ui) (h.1 ▸ hq)
 | cons a p ih=>
  cases q with
  | nil=>simp at h;exact absurd (ui) (h.1 ▸ hp)
  | cons b q=>
   simp only [List.cons_append,gS] at h
   obtain⟨rfl,h⟩:=h
   obtain⟨e1,e2⟩:=ih (fun z=>hp (uk _ z)) (fun z=>hq (uk _ z)) h
   exact⟨by rw [e1],e2⟩
theorem KJ {a b:Lc}(ha:32∉a)(hb:32∉b):splits (a++32::b) [32]=[a,b]:=by
 obtain⟨ps,e,h1,h2,h3⟩:=Zw (a++32::b) 32
 rw [e]
 match ps,h3,h1,h2 with
 | [p],_,h1,h2=>
  have:S p=S (a++32::b):=h2
  rw [Z0.mp this] at h1
  exact absurd (uy _ ui) (h1 _ ui)
 | [p,q],_,h1,h2=>
  have h2:S p++S [32]++S q=S (a++32::b):=h2
  rw [S_app,S_app] at h2
  have:=Z0.mp h2
  rw [uc] at this
  obtain⟨e1,e2⟩:=XF (h1 p ui) ha this
  have e2:q=b:=e2
  rw [e1,e2]
 | p::q::r::ps,_,h1,h2=>
  have h2:S p++S [32]++(S q++S [32]++Str.join (S [32]) ((r::ps).map S))=S (a++32::b):=h2
  have z:∃ y,Str.join (S [32]) ((r::ps).map S)=S y:=⟨_,(show _=S (Str.join (S [32]) ((r::ps).map S)).cps.toList by simp [S])⟩
  obtain⟨y,hy⟩:=z
  rw [hy,S_app,S_app,S_app,S_app] at h2
  have:=Z0.mp h2
  rw [uc] at this
  obtain⟨e1,e2⟩:=XF (h1 p ui) ha this
  refine absurd ?_ hb
  rw [← e2]
  simp
end
section
variable {Q:T->List T->Prop} {X:Exn->List T->Prop}
noncomputable def LT:Lc:=[97,98,99,100,101,102,103,104,105,106,107,108,109,110,111,112,113,114,115,116,117,118,119,120,121,122]
theorem zhU {c:Nat}(h:97<=c/\c<=122):c∈LT:=by
 have e:c=97+(c - 97)/\c - 97<26:=by lia
 have z:∀ k,k<26->97+k∈LT:=by decide
 rw [e.1];exact z _ e.2
theorem QK {n:Lc}(hl:n.length<=1000000)(q:∀ b,(wR n->b=true)->Q (.bl b) [.non]):jd [.str n] Q X:=by
 unfold jd
 refine⟨rfl,?_⟩
 refine jh (fun h=>?_) (fun h=>?_)
 ·refine jh (fun h2=>?_) (fun h2=>?_)
  ·exact q _ fun k=>absurd k.2.1 (by simp at h2;lia)
  ·refine Wk (f:=fun c=>.str [c]) (g:=fun c=>.bl (decide (c∈LT))) rfl rfl rfl rfl (fun c _ K h=>h) (fun c _ K h=>h) (by simp;lia) ?_
   refine zd (z:=.bl ((n.map fun c=>decide (c∈LT)).all id)) ?_ ?_
   ·show((blOs (n.map fun c=>T.bl (decide (c∈LT)))).bind fun bs=>some (T.bl (bs.all id)))=_
    rw [YA]
    rfl
   ·refine q _ fun h=>?_
    rw [gL]
    intro b hb
    obtain⟨c,hc,rfl⟩:=Ur.mp hb
    exact uT (zhU (h.2.2 c hc))
 ·exact q _ fun k=>absurd k.1 (by simp at h;lia)
theorem YH {n:Lc}:∀ {ws:List (Lc)},inV (.str (S n)) (ws.map fun w=>.str (S w))=decide (n∈ws)
 | []=>rfl
 | w::ws=>by
  show(eqV (.str (S w)) (.str (S n))||inV (.str (S n)) (ws.map fun w=>.str (S w)))=_
  rw [YH]
  show((S w == S n)||_)=_
  by_cases h:n=w
  ·subst h;simp
  ·have:(S w == S n)=false:=by
    rw [uZ]
    exact fun z=>h (Z0.mp z).symm
   rw [this]
   simp [h]
theorem JH {n:Lc}(hl:n.length<=1000000)(q:∀ b,(QJ n->b=true)->Q (.bl b) [.non]):z0 [.str n] Q X:=by
 unfold z0
 refine⟨rfl,?_⟩
 refine QK hl fun b hb=>?_
 cases b with
 | false=>exact q _ fun h=>hb h.1
 | true=>
  refine q _ fun h=>?_
  show(!inV (.str (S n)) (Vz.map fun w=>.str (S w)))=true
  rw [YH,uo h.2]
  rfl
def TokF (xs:List T)(t:T):Prop:=t=.tp xs\/t=.ks false xs
theorem sp1 {i:Lc}(h:32∉i)(hl:i.length<=1000000):meF .split i [.str [32]]=some (.nd true .ls [.str i]):=by
 show(if ([32]:Lc)≠[]/\i.length<=1000000 then some (T.nd true .ls ((splits i [32]).map .str)) else none)=_
 rw [uA ⟨by decide,hl⟩,zbY h]
 rfl
theorem sp2 {a b:Lc}(ha:32∉a)(hb:32∉b)(hl:(a++32::b).length<=1000000):meF .split (a++32::b) [.str [32]]=some (.nd true .ls [.str a,.str b]):=by
 show(if ([32]:Lc)≠[]/\(a++32::b).length<=1000000 then some (T.nd true .ls ((splits (a++32::b) [32]).map .str)) else none)=_
 rw [uA ⟨by decide,hl⟩,KJ ha hb]
 rfl
theorem lone {i:Lc}(h:32∉i)(hl:i.length<=1000)(q:∀ w,(QJ i->w=.tp [.str XC,.str i])->Q (kgO xg i w) [.non]):zO [.str i] Q X:=by
 unfold zO
 refine⟨rfl,?_⟩
 refine zd (sp1 h (by lia)) ?_
 refine JH (n:=i) (by lia) fun b hb=>?_
 cases b with
 | true=>exact q _ fun _=>rfl
 | false=>exact q _ fun h=>absurd (hb h) (by decide)
theorem zhV {a b:Lc}(ha:a=zM\/a=wIf)(hb:QJ b)(q:Q (.tp [.str a,.str b]) [.non]):zO [.str (a++32::b)] Q X:=by
 unfold zO
 refine⟨rfl,?_⟩
 have hl:=hb.1.2.1
 have h32:32∉a:=by rcases ha with rfl | rfl<;>decide
 refine zd (sp2 h32 (fun z=>(wx hb.1 32 z).2.2 rfl) (by rcases ha with rfl | rfl<;>simp only [ub,ua,ud]<;>lia)) ?_
 rcases ha with rfl | rfl
 all_goals
  refine JH (n:=b) (by lia) fun c hc=>?_
  cases hc hb
  exact q
theorem zbZ {a b:Lc}(ha:a=zH\/a=JG\/a=jg)(hb:wR b)(q:Q (.tp [.str a,.str b]) [.non]):zO [.str (a++32::b)] Q X:=by
 unfold zO
 refine⟨rfl,?_⟩
 have hl:=hb.2.1
 have h32:32∉a:=by rcases ha with rfl | rfl | rfl<;>decide
 refine zd (sp2 h32 (fun z=>(wx hb 32 z).2.2 rfl) (by rcases ha with rfl | rfl | rfl<;>simp only [ub,ua,ud]<;>lia)) ?_
 rcases ha with rfl | rfl | rfl
 all_goals
  refine QK (n:=b) (by lia) fun c hc=>?_
  cases hc hb
  exact q
theorem XG {k:Tok}{i:Lc}(h:Ins k i)(q:∀ t,TokF k.xs t->Q t [.non]):zO [.str i] Q X:=by
 cases h with
 | lb=>exact lone (by decide) (by decide) fun w _=>q _ (.inr rfl)
 | rb=>exact lone (by decide) (by decide) fun w _=>q _ (.inr rfl)
 | hole h=>
  refine lone (fun z=>(wx h.1 32 z).2.2 rfl) (by have:=h.1.2.1;lia) fun w hw=>q _ (.inl ?_)
  rw [hw h]
  have ne:∀ {c:Nat},c<97->¬ [c]=i:=fun hc z=>by
   have:=(h.1.2.2 _ (z ▸ ui)).1
   lia
  have nb:∀ {u:Lc},u∈Vz->¬ u=i:=fun hu z=>h.2 (z ▸ hu)
  simp only [kgO]
  rw [uq (ne (by decide)),uq (ne (by decide)),uq (nb (by decide)),uq (nb (by decide)),uq (nb (by decide))]
  rfl
 | draw h=>exact zbZ (.inr (.inl rfl)) h (q _ (.inl rfl))
 | elder=>exact lone (by decide) (by decide) fun w _=>q _ (.inr rfl)
 | els=>exact lone (by decide) (by decide) fun w _=>q _ (.inr rfl)
 | fin=>exact lone (by decide) (by decide) fun w _=>q _ (.inr rfl)
 | op1 hw h=>exact zhV hw h (q _ (.inl rfl))
 | op2 h=>exact zbZ (.inl rfl) h (q _ (.inl rfl))
theorem WD {l r:Lc}{a c:Nat}(h:l.drop a=c::r):a<l.length/\∀ {s τ:Sl},ixS s (.own (.int (a:Int))::.own (.str l)::τ)=some (.own (.str [c])::τ):=by
 have hl:a<l.length:=by
  have:=congrArg List.length h
  simp only [u6,ua] at this
  lia
 refine⟨hl,fun {s τ}=>?_⟩
 have e:l[a]? = some c:=by
  have:=congrArg (fun x=>x[0]?) h
  simpa using this
 have e2:atI l (a:Int)=some c:=by
  unfold atI
  rw [ka hl]
  exact e
 show orO ((atI l (a:Int)).bind fun c=>some (Slot.own (.str [c])::τ)) _=_
 rw [e2]
 rfl
theorem yj {P:T->Prop}{l i r:Lc}{a:Nat}(hi:125∉i)(hF:∀ {Q:T->List T->Prop} {X:Exn->List T->Prop},(∀ t,P t->Q t [.non])->zO [.str i] Q X)(hd':l.drop a=123::(i++125::r))(q:∀ u,P u->Q (.tp [u,.int ((i.length:Int)+2)]) [.non,.non]):qC [.str l,.int a] Q X:=by
 unfold qC
 refine⟨rfl,?_⟩
 obtain⟨hlt,e⟩:=WD hd'
 refine zd e (zd e ?_)
 have hf:=zds hd' hi
 refine jh (fun h=>absurd (uK h) (by rw [hf];lia)) fun _=>?_
 have cu:cutL l (some ((a:Int)+1)) (some (Txt.find3 (S l) (S [125]) (a:Int)))=i:=by
  have e1:((a:Int)+1)=((a+1:Nat):Int):=by lia
  have ll:a+1+i.length<l.length:=by
   have:=congrArg List.length hd'
   simp only [u6,ua,ub] at this
   lia
  unfold cutL
  rw [hf,e1,HT.sIx_nat,HT.sIx_nat,Nat.min_eq_left (by lia),Nat.min_eq_left (by lia),← List.drop_drop,hd',show a+1+i.length - (a+1)=i.length by lia]
  simp
 rw [← cu] at hF
 refine hF fun u hu=>?_
 have:=q u hu
 rw [← cu] at this
 exact this
theorem XH {k:Tok}{l t r:Lc}{a:Nat}(h:Tx k t)(hd:l.drop a=t++r)(q:∀ u,TokF k.xs u->Q (.tp [u,.int t.length]) [.non,.non]):qC [.str l,.int a] Q X:=by
 cases h with
 | sign h1 h2 h3=>
  unfold qC
  refine⟨rfl,?_⟩
  rename_i c
  obtain⟨_,e⟩:=WD (c:=c) (r:=r) hd
  refine zd e ?_
  refine jh (fun h=>absurd (uK h) fun z=>h3 (UO z).1) fun _=>?_
  refine zd e ?_
  refine jh (fun _=>?_) (fun h=>absurd h (by simp [h2]))
  exact zd e (q _ (.inl rfl))
 | word h=>
  rename_i i
  refine yj (P:=TokF k.xs) (i:=i) (r:=r) (fun z=>((zbV h).2 _ z).2 rfl) (fun q=>XG h q) (by rw [hd];simp) fun u hu=>?_
  have e:(i.length:Int)+2=((123::(i++[125])).length:Nat):=by simp only [ua,ub,ud];lia
  rw [e]
  exact q u hu
end
section
variable {Q:T->List T->Prop} {X:Exn->List T->Prop}
mutual
noncomputable def can:T->T
 | .tp xs=>.tp (cans xs)
 | .nd _ k xs=>.nd false k (cans xs)
 | .ks l xs=>cond l (.ks true (cans xs)) (.tp (cans xs))
 | .xo c fs xs=>.xo c fs (cans xs)
 | t=>t
noncomputable def cans:List T->List T
 | []=>[]
 | x::xs=>can x::cans xs
end
theorem qG:∀ xs:List T,cans xs=xs.map can
 | []=>rfl
 | x::xs=>congrArg (can x::·) (qG xs)
mutual
theorem zdt:∀ t:T,can (frz t)=can t
 | .non=>rfl
 | .bl _=>rfl
 | .int _=>rfl
 | .str _=>rfl
 | .any=>rfl
 | .xo c fs xs=>congrArg (T.xo c fs) (jT xs)
 | .tp xs=>congrArg T.tp (jT xs)
 | .nd _ k xs=>congrArg (T.nd false k) (jT xs)
 | .ks true xs=>congrArg (T.ks true) (jT xs)
 | .ks false xs=>congrArg T.tp (jT xs)
theorem jT:∀ ts:List T,cans (frzs ts)=cans ts
 | []=>rfl
 | t::ts=>by
  show can (frz t)::cans (frzs ts)=can t::cans ts
  rw [zdt t,jT ts]
end
mutual
theorem ZV:∀ t:T,frz (frz t)=frz t
 | .non=>rfl
 | .bl _=>rfl
 | .int _=>rfl
 | .str _=>rfl
 | .any=>rfl
 | .xo c fs xs=>congrArg (T.xo c fs) (xE xs)
 | .tp xs=>congrArg T.tp (xE xs)
 | .nd _ k xs=>congrArg (T.nd false k) (xE xs)
 | .ks l xs=>congrArg (T.ks l) (xE xs)
theorem xE:∀ ts:List T,frzs (frzs ts)=frzs ts
 | []=>rfl
 | t::ts=>by
  show frz (frz t)::frzs (frzs ts)=frz t::frzs ts
  rw [ZV t,xE ts]
end
theorem qZ:∀ xs:List T,frzs xs=xs.map frz
 | []=>rfl
 | x::xs=>congrArg (frz x::·) (qZ xs)
structure PF (t p:T):Prop where
 fz:frz t=t
 cn:can t=p
theorem PF.sh {t p:T}(h:PF t p):shr t=true:=by rw [← h.fz];exact yQ t
theorem PF.xs {t:T}{ys:List T}(h:PF t (.tp ys)):∃ xs,frzs xs=xs/\cans xs=ys/\(t=.tp xs\/t=.ks false xs):=by
 obtain⟨hs,hc⟩:=h
 cases t with
 | tp xs=>cases hc;exact⟨xs,T.tp.inj hs,rfl,.inl rfl⟩
 | ks l xs=>
  cases l with
  | true=>cases hc
  | false=>cases hc;exact⟨xs,(T.ks.inj hs).2,rfl,.inr rfl⟩
 | _=>cases hc
theorem YI {t:T}{s:Lc}(h:can t=.str s):t=.str s:=by
 cases t with
 | ks l xs=>cases l<;>cases h
 | _=>first | exact h | cases h
theorem PF.ix {t:T}{ys:List T}(h:PF t (.tp ys)){k:Nat}{u:Lc}(e:ys[k]? = some (.str u)){s τ:Sl}:ixS s (.own (.int (k:Int))::.own t::τ)=some (.own (.str u)::τ):=by
 obtain⟨xs,h1,rfl,h2⟩:=h.xs
 rw [qG,uv] at e
 obtain⟨x,e1,e2⟩:=uu.mp e
 cases YI e2
 rcases h2 with rfl | rfl
 ·exact Wn (ka (xX e1)) rfl e1
 ·exact Wn (ka (xX e1)) rfl e1
theorem PF.ix0 {t p:T}(h:PF t p){B n:Nat}(k:Pc B n p){s τ:Sl}:ixS s (.own (.int 0)::.own t::τ)=some (.own (.str (hd1 p))::τ):=by
 obtain⟨w,xs,rfl,_⟩:=k.body
 exact h.ix (k:=0) rfl
theorem PF.ix1 {t p:T}(h:PF t p){B n:Nat}(k:Pc B n p)(hl:hd1 p=wLit):(∀ {s τ:Sl},ixS s (.own (.int 1)::.own t::τ)=some (.own (.str (hd2 p))::τ))/\(hd2 p).length<=B:=by
 obtain⟨s,rfl,hs⟩:=YF k hl
 exact⟨h.ix (k:=1) rfl,hs⟩
noncomputable abbrev ol (xs:List T):T:=.nd true .ls xs
noncomputable abbrev oF:Lh:=["word","name","branches"]
noncomputable abbrev frT (f:Fr)(bs:List (List T))(c:List T):T:=.nd true (.ob 1 oF) [.str f.w,.str f.n,ol (bs.map ol++[ol c])]
structure LsP (c cur:List T):Prop where
 fz:frzs c=c
 cn:cans c=cur
theorem LsP.sh {c cur:List T}(h:LsP c cur):shrs c=true:=by rw [← h.fz];exact wy c
theorem LsP.snoc {c cur:List T}{u p:T}(h:LsP c cur)(k:PF u p):LsP (c++[u]) (cur++[p]):=by
 refine⟨by rw [qZ,uD,← qZ,h.fz];exact congrArg (c++[·]) k.fz,by rw [qG,uD,← qG,h.cn];exact congrArg (cur++[·]) k.cn⟩
theorem LsP.last {c cur:List T}{v:T}(h:LsP (c++[v]) cur):∃ cur' v',cur=cur'++[v']/\LsP c cur'/\PF v v':=by
 obtain⟨hs,hc⟩:=h
 rw [qG,uD] at hc
 rw [qZ,uD] at hs
 obtain⟨h1,h2⟩:=gQ hs (by simp)
 exact⟨_,_,hc.symm,⟨by rw [qZ];exact h1,qG _⟩,(UO h2).1,rfl⟩
theorem LsP.len {c cur:List T}(h:LsP c cur):c.length=cur.length:=by rw [← h.cn,qG,ug]
def FrP (f:Fr)(t:T):Prop:=∃ bs c,t=frT f bs c/\bs.map cans=f.ps/\(∀ b∈bs,frzs b=b)/\LsP c f.cur
theorem zgt {s:Lc}:PF (litP s) (litP s):=⟨rfl,rfl⟩
theorem zdu {l:List T}{p:T}(h:¬ (hd1 p=wLit/\∃ q,l.getLast? = some q/\hd1 q=wLit)):addP l p=l++[p]:=by
 unfold addP
 split
 ·rename_i q e
  rw [uq fun z=>h ⟨z.1,q,e,z.2⟩]
 ·rfl
theorem zb0 {f:Fr}{t u p:T}{B n:Nat}(h:FrP f t)(hf:f.ps=[]\/∃ a,f.ps=[a])(hu:PF u p)(hc:PcL B n f.cur)(hp:Pc B n p)(hB:B<=1000000)(q:∀ t',FrP (f.put p) t'->Q .non [t',.non]):zz [t,u] Q X:=by
 obtain⟨bs,c,rfl,h0,h1,h3⟩:=h
 unfold zz
 refine⟨rfl,?_⟩
 have e0:=fun s τ=>hu.ix0 hp (s:=s) (τ:=τ)
 have fin:∀ c',LsP c' (addP f.cur p)->Q .non [frT f bs c',.non]:=fun c' e1=>q _ ⟨bs,c',rfl,h0,h1,e1⟩
 have hlen:c.length<=1000000:=by rw [h3.len];have:=hc.1;lia
 have l16:c.length<16777216:=by lia
 clear q h1
 have hbs:bs=[]\/∃ b,bs=[b]:=by
  rcases hf with hf | ⟨a,hf⟩
  ·left;rw [hf] at h0;exact Up.mp h0
  ·right;rw [hf] at h0
   match bs,h0 with
   | [b],_=>exact⟨b,rfl⟩
 have r1:∀ {t':T} {x:Slot},rdS [.own t',.own u,x] 1=some (.own u):=fun {t' x}=>yw rfl hu.sh
 have app:¬ (hd1 p=wLit/\∃ q,f.cur.getLast? = some q/\hd1 q=wLit)->Q .non [frT f bs (c++[u]),.non]:=fun hn=>fin _ (by rw [zdu hn];exact h3.snoc hu)
 rcases hbs with rfl | ⟨b,rfl⟩
 all_goals
  refine zd r1 (zd (e0 _ _) ?_)
  refine jh (fun hw=>?_) (fun hw=>?_)
  ·have hw:hd1 p=wLit:=uK hw
   rcases gn c with rfl | ⟨c',v,rfl⟩
   ·refine zd r1 (app fun⟨_,z,e,_⟩=>?_)
    have:=h3.len
    rw [gO this.symm] at e
    cases e
   ·rw [gp] at *
    obtain⟨cur',v',ec,h5,hv⟩:=h3.last
    have hvc:Pc B n v':=hc.2 _ (by rw [ec];simp)
    refine jh (fun _=>?_) (fun z=>absurd z (by simp))
    refine zd (zbO rfl JC rfl JD hv.sh) (zd (hv.ix0 hvc) ?_)
    refine jh (fun hv'=>?_) (fun hv'=>?_)
    ·have hv':hd1 v' = wLit:=uK hv'
     obtain⟨i3,l3⟩:=hv.ix1 hvc hv'
     obtain⟨i4,l4⟩:=hu.ix1 hp hw
     refine zd (zbO rfl JC rfl JD hv.sh) (zd i3 (zd r1 (zd i4 (zd (zL (by lia)) ?_))))
     refine zd (zbP rfl zbQ rfl) ?_
     refine fin _ ?_
     rw [ec,wA,uA ⟨hw,hv'⟩]
     exact h5.snoc zgt
    ·refine zd r1 ?_
     refine zd (Qx (by rfl) (Qy l16) (by rfl)) ?_
     refine app fun⟨_,q,e,z⟩=>?_
     rw [ec,gv] at e
     cases e
     exact uW hv' z
  ·refine zd r1 ?_
   refine zd (Qx (by rfl) (Qy l16) (by rfl)) ?_
   exact app fun z=>uW hw z.1
end
section
variable {Q:T->List T->Prop} {X:Exn->List T->Prop}
theorem VA {w n:Lc}(q:Q .non [.nd true (.ob 1 oF) [.str w,.str n,ol [ol []]],.non,.non]):zu [.nd true (.ob 1 []) [],.str w,.str n] Q X:=by
 unfold zu
 exact⟨rfl,q⟩
theorem QL {w n:Lc}{bl:List T}{b:Bool}(hb:decide (w=wIf/\bl.length=1)=b)(q:Q (.bl b) [.nd true (.ob 1 oF) [.str w,.str n,ol bl]]):zp [.nd true (.ob 1 oF) [.str w,.str n,ol bl]] Q X:=by
 unfold zp
 refine⟨rfl,?_⟩
 subst hb
 refine jh (fun h=>?_) (fun h=>?_)
 ·have h:w=wIf:=uK h
  rw [show decide (w=wIf/\bl.length=1)=decide ((bl.length:Int)=1) by simp [h];lia] at q
  exact q
 ·have h:¬ w=wIf:=uW h
  rw [show decide (w=wIf/\bl.length=1)=false by simp [h]] at q
  exact q
theorem zdv {f:Fr}{t:T}(h:FrP f t)(hf:f.ps=[]\/f.w=wIf/\∃ a,f.ps=[a])(q:∀ r t',PF r f.whole->Q r [t']):qb [t] Q X:=by
 obtain⟨bs,c,rfl,h1,h2,h3⟩:=h
 unfold qb
 refine⟨rfl,?_⟩
 have fc:∀ {c cur:List T},LsP c cur->can (fl (frzs c))=fl cur:=fun {c cur} h=>by
  show T.nd false .ls (cans (frzs c))=_
  rw [jT,h.cn]
 have ff1:∀ {a b:Lc} {c:List T},frz (.tp [.str a,.str b,frz (ol c)])=.tp [.str a,.str b,frz (ol c)]:=fun {a b c}=>by
  show T.tp [.str a,.str b,frz (frz (ol c))]=_
  rw [ZV]
 have ff3:∀ {a b:Lc} {c d:T},frz (.tp [.str a,.str b,frz c,frz d])=.tp [.str a,.str b,frz c,frz d]:=fun {a b c d}=>by
  show T.tp [.str a,.str b,frz (frz c),frz (frz d)]=_
  rw [ZV,ZV]
 refine jh (fun hw=>?_) (fun hw=>?_)
 ·have hw:¬ f.w=wIf:=uW (by simpa using hw)
  have hf:f.ps=[]:=hf.resolve_right fun z=>hw z.1
  rw [hf] at h1
  cases Up.mp h1
  refine q _ _ ⟨ff1,?_⟩
  unfold Fr.whole
  rw [hf,uq fun z=>hw z.1]
  show T.tp [.str f.w,.str f.n,can (fl (frzs c))]=_
  rw [fc h3]
  rfl
 ·have hw:f.w=wIf:=by simpa using hw
  rcases hf with hf | ⟨_,a,hf⟩
  ·rw [hf] at h1
   cases Up.mp h1
   refine QL (uT ⟨hw,rfl⟩) (q _ _ ⟨ff3 (d:=ol []),?_⟩)
   unfold Fr.whole
   rw [hf,uA ⟨hw,rfl⟩,hw]
   show T.tp [.str wIf,.str f.n,can (fl (frzs c)),fl []]=_
   rw [fc h3]
   rfl
  ·rw [hf] at h1
   match bs,h1 with
   | [b],h1=>
    have hb:LsP b a:=⟨h2 b ui,by simpa using h1⟩
    refine QL (uo fun z=>by cases z.2) (q _ _ ⟨ff3,?_⟩)
    unfold Fr.whole
    rw [hf,uq (fun z=>by cases z.2),hw]
    show T.tp [.str wIf,.str f.n,can (fl (frzs b)),can (fl (frzs c))]=_
    rw [fc h3,fc hb]
    rfl
noncomputable def FsP (R:Fr->T->Prop):List Fr->List T->Prop
 | [],fs=>fs=[]
 | f::st,fs=>∃ t r,fs=r++[t]/\R f t/\FsP R st r
theorem FsP.len {R:Fr->T->Prop}:∀ {st:List Fr} {fs:List T},FsP R st fs->fs.length=st.length
 | [],_,h=>by rw [show _=[] from h];rfl
 | _::st,_,⟨t,r,e,_,h⟩=>by rw [e,ub,FsP.len h];rfl
noncomputable abbrev dF:Lh:=["over","opened","named"]
noncomputable def nmD (nm:List (Lc)):T:=.nd true (.dc (nm.map fun n=>.inr (S n))) (nm.map fun _=>.bl true)
noncomputable abbrev drT (ov:T)(fs:List T)(d:T):T:=.nd true (.ob 2 dF) [ov,ol fs,d]
def DrP (ov:T)(s:Sx)(d:T):Prop:=∃ fs,d=drT ov fs (nmD s.2)/\FsP FrP s.1 fs
theorem d_init (q:Q .non [drT .non [.nd true (.ob 1 oF) [.str [],.str [],ol [ol []]]] (nmD [])]):zN [.nd true (.ob 2 []) []] Q X:=by
 unfold zN
 refine⟨rfl,?_⟩
 exact VA q
theorem WG {ov d:T}{fs:List T}{b:Bool}(hb:decide (fs.length=1)=b)(q:Q (.bl b) [drT ov fs d]):zm [drT ov fs d] Q X:=by
 unfold zm
 refine⟨rfl,?_⟩
 rw [show decide (fs.length=1)=decide ((fs.length:Int)=1) by simp;lia] at hb
 rw [← hb] at q
 exact q
end
section
variable {Q:T->List T->Prop} {X:Exn->List T->Prop}
theorem getD {ov d x:T}{gs:List T}{p:Lc}:getT (1::gs.length::p) (drT ov (gs++[x]) d)=getT p x:=KC
theorem setD {ov d x u t:T}{gs:List T}{p:Lc}(h:setT p x u=some t):setT (1::gs.length::p) (drT ov (gs++[x]) d) u=some (drT ov (gs++[t]) d):=by
 show(setT (gs.length::p) (ol (gs++[x])) u).bind _=_
 rw [KD h]
 rfl
theorem zgu {ov d tok:T}{fs:List T}{w:Lc}{a:Int}(hv:ov=.non\/∃ n,ov=.str n)(hs:shr tok=true)(e0:∀ {s τ:Sl},ixS s (.own (.int 0)::.own tok::τ)=some (.own (.str w)::τ))(h0:w≠jg)(h1:ov≠.non->fs.length=1->w=zH)(h2:w=w6->∃ gs u n bl,fs=gs++[.nd true (.ob 1 oF) [.str u,.str n,ol bl]]/\u=wIf/\bl.length=1)(h3:w=wEnd->fs.length≠1)(h4:w=yD->ov≠.non)(q:Q (.bl true) [drT ov fs d,.non,.non]):zq [drT ov fs d,tok,.int a] Q X:=by
 unfold zq
 refine⟨rfl,zd (yw rfl hs) (zd e0 ?_)⟩
 refine wI (uo h0) ?_
 have rest:∀ {P:Prop},P=WSs (qP.drop 3) [.own (drT ov fs d),.own tok,.own (.int a),.own (.str w)] [.al 0 []] (fun s τ=>bnd (retA [.mu,.mv,.mv] 0 s τ) fun r=>Q .non r) (fnE [.mu,.mv,.mv] Q X)->P:=fun {P} e=>by
  rw [e]
  refine jh (fun e1=>?_) (fun e1=>?_)
  ·obtain⟨gs,u,n,bl,rfl,hu,hb⟩:=h2 (uK e1)
   refine zd (YB (by rfl) JC (by rfl) JD (by rfl)) ?_
   refine Zq (Vv (we (by rfl) getD) (by rfl) (by rfl) (by rfl)) ?_
   refine zd (take1 (we (by rfl) getD) (yu (by rfl) (by rfl) (setD (by rfl)) (by rfl) (by rfl)) (by rfl) (by rfl)) ?_
   refine QL (uT ⟨hu,hb⟩) ?_
   refine zd (zbR (by rfl) (we (by rfl) getD) (yu (by rfl) (by rfl) (setD (by rfl)) (by rfl) (by rfl))) ?_
   exact q
  ·refine jh (fun e2=>?_) (fun e2=>?_)
   ·exact WG (uo (h3 (uK e2))) q
   ·refine jh (fun e3=>?_) (fun e3=>q)
    rcases hv with rfl | ⟨n,rfl⟩
    ·exact absurd rfl (h4 (uK e3))
    ·exact q
 rcases hv with rfl | ⟨n,rfl⟩
 ·exact rest rfl
 ·by_cases hl:fs.length=1
  ·refine WG (uT hl) ?_
   refine wI ?_ (rest rfl)
   rw [h1 nofun hl]
   rfl
  ·exact WG (uo hl) (rest rfl)
end
section
variable {Q:T->List T->Prop} {X:Exn->List T->Prop}
theorem zef {nm:List (Lc)}{n:Lc}:((nm.map fun n=>(.inr (S n):Key)).any fun k'=>decide (k' = .inr (S n)))=decide (n∈nm):=by
 induction nm with
 | nil=>rfl
 | cons m nm ih=>
  rw [ur,Um,ih]
  by_cases h:n=m
  ·subst h;simp
  ·have:¬ ((.inr (S m):Key)=.inr (S n)):=fun z=>h (Z0.mp (Sum.inr.inj z)).symm
   simp [this,h]
theorem YJ:∀ nm:List (Lc),shrs (nm.map fun _=>T.bl true)=true
 | []=>rfl
 | _::nm=>YJ nm
theorem zgv {nm:List (Lc)}{n:Lc}(h:n∉nm)(hl:nm.length<=1000000):subF (nmD nm) (.str n) (.bl true)=some (nmD (nm++[n])):=by
 show(if (nm.map fun n=>(.inr (S n):Key)).length<16777216/\(shrs (nm.map fun _=>T.bl true)&&shr (.bl true))=true then some (T.nd true (.dc (dput _ _ _ _).1) (dput _ _ _ _).2) else none)=_
 rw [uA ⟨by rw [ug];lia,by rw [YJ];rfl⟩]
 unfold dput
 rw [uq (by rw [zef,uo h];decide)]
 unfold nmD
 simp
theorem zb1 {ov d:T}{st:List Fr}{nm:List (Lc)}{w n:Lc}(h:DrP ov (st,nm) d)(h12:st.length<=12)(hb:w=zH->n∉nm)(hl:nm.length<=1000000)(q:∀ d',DrP ov (⟨w,n,[],[]⟩::st,if w=zH then nm++[n] else nm) d'->Q .non [d',.non,.non]):zB [d,.str w,.str n] Q X:=by
 obtain⟨fs,rfl,h1⟩:=h
 have hlen:fs.length=st.length:=h1.len
 unfold zB
 refine⟨rfl,?_⟩
 have fin:∀ nm',nm' = (if w=zH then nm++[n] else nm)->Q .non [drT ov (fs++[.nd true (.ob 1 oF) [.str w,.str n,ol [ol []]]]) (nmD nm'),.non,.non]:=fun nm' e=>by
  subst e
  exact q _ ⟨_,rfl,_,_,rfl,⟨[],[],rfl,rfl,nofun,rfl,rfl⟩,h1⟩
 have l12:decide ((12:Int)<fs.length)=false:=uo (by lia)
 have l16:fs.length<16777216:=by lia
 by_cases hw:w=zH
 ·subst hw
  refine wI (zef.trans (uo (hb rfl))) ?_
  refine wI l12 ?_
  refine zd (zbP (by rfl) (zgv (hb rfl) hl) (by rfl)) ?_
  refine VA ?_
  refine zd (Qx (by rfl) (Qy l16) (by rfl)) ?_
  exact fin _ rfl
 ·refine wI (uo hw) ?_
  refine wI l12 ?_
  refine wI (uo hw) ?_
  refine VA ?_
  refine zd (Qx (by rfl) (Qy l16) (by rfl)) ?_
  exact fin _ (uq hw).symm
theorem zb2 (k:Tok):∀ x∈k.xs,∃ s,x=.str s:=by
 cases k<;>simp [Tok.xs]
theorem zb3 {xs:List T}(h:∀ x∈xs,∃ s,x=.str s):cans xs=xs/\frzs xs=xs:=by
 induction xs with
 | nil=>exact⟨rfl,rfl⟩
 | cons x xs ih=>
  obtain⟨s,rfl⟩:=h x ui
  obtain⟨h1,h2⟩:=ih fun y hy=>h y (uk _ hy)
  exact⟨congrArg (T.str s::·) h1,congrArg (T.str s::·) h2⟩
theorem zb4 {k:Tok}{tok:T}(ht:TokF k.xs tok):PF tok (.tp k.xs):=by
 obtain⟨h1,h2⟩:=zb3 (zb2 k)
 rcases ht with rfl | rfl
 ·exact⟨congrArg T.tp h2,congrArg T.tp h1⟩
 ·exact⟨congrArg (T.ks false) h2,congrArg T.tp h1⟩
theorem take_ok {ov d tok:T}{s s':Sx}{k:Tok}{a:Int}{o:Bool}{B:Nat}{t:Lc}(h:DrP ov s d)(hs:Stp o s k s')(hx:Tx k t)(hv:(o=false/\ov=.non)\/(o=true/\∃ n,ov=.str n))(ht:TokF k.xs tok)(hk:StK B s.1)(h8:8<=B)(hB:B+t.length<=1000000)(hn:s.2.length<=1000000)(q:∀ d',DrP ov s' d'->Q .non [d',.non,.non]):zZ [d,tok,.int a] Q X:=by
 have t1:=(YE hx).1
 have pf:=zb4 ht
 have hv':ov=.non\/∃ n,ov=.str n:=hv.imp And.right And.right
 have ho:ov≠.non->o=true:=fun z=>by rcases hv with⟨_,rfl⟩ | ⟨e,_⟩<;>first | exact absurd rfl z | exact e
 obtain⟨fs,rfl,h1⟩:=h
 have hlen:fs.length=s.1.length:=h1.len
 have rt:∀ {x0 x2 x3 x4:Slot},rdS [x0,.own tok,x2,x3,x4] 1=some (.own tok):=yw rfl pf.sh
 have nn:opF .is [tok,.non]=some (.bl false):=by rcases ht with rfl | rfl<;>rfl
 have can:∀ {w:Lc} {r:List T},k.xs=.str w::r->w≠jg->(ov≠.non->fs.length=1->w=zH)->(w=w6->∃ gs u n bl,fs=gs++[.nd true (.ob 1 oF) [.str u,.str n,ol bl]]/\u=wIf/\bl.length=1)->(w=wEnd->fs.length≠1)->(w=yD->ov≠.non) ->
   ∀ {Q:T->List T->Prop} {X:Exn->List T->Prop},Q (.bl true) [drT ov fs (nmD s.2),.non,.non]->zq [drT ov fs (nmD s.2),tok,.int a] Q X:=fun {w r} e g0 g1 g2 g3 g4 {Q X} q=>
  zgu hv' pf.sh (pf.ix (k:=0) (by rw [e];rfl)) g0 g1 g2 g3 g4 q
 unfold zZ
 refine⟨rfl,zd rt (zd nn (zd rt ?_))⟩
 cases hs with
 | put hp hno=>
  rename_i f st nm
  have one:ov≠.non->fs.length=1->False:=fun z1 z2=>by
   have:=hno (ho z1)
   cases st with
   | nil=>exact this rfl
   | cons _ _=>simp only [ua] at hlen;omega
  have hc:∃ w r,k.xs=.str w::r/\w≠jg/\w≠w6/\w≠wEnd/\(w=yD->ov≠.non)/\inV (.str (S w)) [.str (S zM),.str (S wIf),.str (S zH)]=false:=by
   cases k with
   | lit s=>exact⟨_,_,rfl,by decide,by decide,by decide,fun z=>absurd z (by decide),rfl⟩
   | hole s=>exact⟨_,_,rfl,by decide,by decide,by decide,fun z=>absurd z (by decide),rfl⟩
   | draw s=>exact⟨_,_,rfl,by decide,by decide,by decide,fun z=>absurd z (by decide),rfl⟩
   | elder=>
    refine⟨_,_,rfl,by decide,by decide,by decide,fun _ z=>?_,rfl⟩
    have hp:o=true:=hp
    rcases hv with⟨e,_⟩ | ⟨_,n,e⟩
    ·rw [hp] at e;cases e
    ·rw [e] at z;cases z
   | op _ _=>cases hp
   | els=>cases hp
   | fin=>cases hp
  obtain⟨w,r,e,w1,w2,w3,w4,w5⟩:=hc
  refine can e w1 (fun z1 z2=>(one z1 z2).elim) (fun z=>absurd z w2) (fun z=>absurd z w3) w4 ?_
  obtain⟨tf,gs,rfl,k1,k3⟩:=h1
  obtain⟨p1,p2⟩:=zbW (n:=12 - st.length) hp hx h8
  refine zd rt (zd (pf.ix (k:=0) (by rw [e];rfl)) ?_)
  refine wI (uo w1) (wI w5 (wI (uo w2) (wI (uo w3) ?_)))
  obtain⟨bs,c,rfl,k1'⟩:=id k1
  refine zd (YB (by rfl) JC (by rfl) JD (by rfl)) ?_
  refine Zq (Vv (we (by rfl) getD) (by rfl) (by rfl) (by rfl)) ?_
  refine zd rt ?_
  refine zd (take1 (we (by rfl) getD) (yu (by rfl) (by rfl) (setD (by rfl)) (by rfl) (by rfl)) (by rfl) (by rfl)) ?_
  refine zb0 k1 ?_ pf (hk.2.1.1.mono (uY B t.length)) p1 hB fun t' ht'=>?_
  ·rcases hk.2.1.2.2.1 with z | ⟨_,z⟩
   ·exact .inl z
   ·exact .inr z
  refine zd (zbR (by rfl) (we (by rfl) getD) (yu (by rfl) (by rfl) (setD (by rfl)) (by rfl) (by rfl))) ?_
  exact q _ ⟨_,rfl,_,_,rfl,ht',k3⟩
 | op g1 g2 g3 g4 g5=>
  rename_i st nm w n
  refine can rfl ?_ (fun z1 z2=>g4 (ho z1) (by rw [← hlen];exact z2)) (fun z=>?_) (fun z=>?_) (fun z=>?_) ?_
  ·rcases g3 with rfl | rfl | rfl<;>decide
  ·rcases g3 with rfl | rfl | rfl<;>cases z
  ·rcases g3 with rfl | rfl | rfl<;>cases z
  ·rcases g3 with rfl | rfl | rfl<;>cases z
  refine zd rt (zd (pf.ix (k:=0) rfl) ?_)
  refine wI (uo (by rcases g3 with rfl | rfl | rfl<;>decide)) ?_
  refine Zq (show inV (.str (S w)) [.str (S zM),.str (S wIf),.str (S zH)]=true by rcases g3 with rfl | rfl | rfl<;>rfl) ?_
  refine zd rt (zd (pf.ix (k:=1) rfl) ?_)
  exact zb1 ⟨fs,rfl,h1⟩ g1 g5 hn fun d' hd'=>q _ hd'
 | els g1 g2 g3=>
  rename_i f st nm
  obtain⟨tf,gs,rfl,⟨bs,c,rfl,k1,k2,k4⟩,k3⟩:=h1
  rw [g2] at k1
  cases Up.mp k1
  refine can rfl (by decide) (fun z1 z2=>?_) (fun _=>⟨gs,f.w,f.n,[ol c],rfl,g1,rfl⟩) (fun z=>absurd z (by decide)) (fun z=>absurd z (by decide)) ?_
  ·cases st with
   | nil=>exact absurd rfl (g3 (ho z1))
   | cons _ _=>simp only [ua] at hlen;omega
  refine zd rt (zd (pf.ix (k:=0) rfl) ?_)
  refine zd (YB (by rfl) JC (by rfl) JD (by rfl)) ?_
  refine zd (zhS (we (by rfl) getD) (by rfl) (by rfl) (by rfl) (by rfl)) ?_
  refine Zq (zgq (we (by rfl) (by exact getD))) ?_
  refine zd (Qx (we (by rfl) (by exact getD)) (by rfl) (yu (by rfl) (by rfl) (setD (by rfl)) (by rfl) (by rfl))) ?_
  exact q _ ⟨_,rfl,_,_,rfl,⟨[c],[],rfl,by rw [← k4.cn];rfl,fun b hb=>by rw [uj.mp hb];exact k4.fz,rfl,rfl⟩,k3⟩
 | fin=>
  rename_i f g st nm
  have l2:fs.length≠1:=by simp only [ua] at hlen;lia
  refine can rfl (by decide) (fun z1 z2=>absurd z2 l2) (fun z=>absurd z (by decide)) (fun _=>l2) (fun z=>absurd z (by decide)) ?_
  obtain⟨tf,r,rfl,k1,tg,gs,rfl,k2,k3⟩:=h1
  refine zd rt (zd (pf.ix (k:=0) rfl) ?_)
  refine zd (Qx (by rfl) zgr (by rfl)) ?_
  obtain⟨bs,c,rfl,k1'⟩:=id k1
  obtain⟨bs',c',rfl,k2'⟩:=id k2
  refine zd (YB (by rfl) JC (by rfl) JD (by rfl)) ?_
  refine Zq (Vv (we (by rfl) getD) (by rfl) (by rfl) (by rfl)) ?_
  refine zdv k1 hk.2.1.2.2.1 fun r t' hr=>?_
  refine zd (take1 (we (by rfl) getD) (yu (by rfl) (by rfl) (setD (by rfl)) (by rfl) (by rfl)) (by rfl) (by rfl)) ?_
  obtain⟨kk1,kk2,kk3,kk4,kk5⟩:=hk
  have e:12 - st.length=12 - (st.length+1)+1:=by simp only [ua] at kk1;lia
  have w1:Pc (B+t.length) (12 - st.length) f.whole:=by rw [e];exact(XE kk2 h8).mono (uY _ _)
  refine zb0 k2 ?_ hr (kk4.1.mono (uY B t.length)) w1 hB fun t2 ht2=>?_
  ·rcases kk4.2.2.1 with z | ⟨_,z⟩
   ·exact .inl z
   ·exact .inr z
  refine zd (zbR (by rfl) (we (by rfl) getD) (yu (by rfl) (by rfl) (setD (by rfl)) (by rfl) (by rfl))) ?_
  exact q _ ⟨_,rfl,_,_,rfl,ht2,k3⟩
end
section
variable {Q:T->List T->Prop} {X:Exn->List T->Prop}
mutual
noncomputable def thw:T->T
 | .tp xs=>.tp (thws xs)
 | .nd _ k xs=>.nd true k (thws xs)
 | t=>t
noncomputable def thws:List T->List T
 | []=>[]
 | x::xs=>thw x::thws xs
end
theorem vH:∀ xs:List T,thws xs=xs.map thw
 | []=>rfl
 | x::xs=>congrArg (thw x::·) (vH xs)
theorem zgw {t:T}{us:List T}(h:can t=fl us)(hs:frz t=t):∃ qs,t=fl qs/\LsP qs us:=by
 cases t with
 | nd o k xs=>
  cases h
  obtain⟨rfl,_,h2⟩:=T.nd.inj hs
  exact⟨xs,rfl,h2,rfl⟩
 | ks l xs=>cases l<;>cases h
 | _=>cases h
theorem LsP.mem {c cur:List T}(h:LsP c cur){x:T}(hx:x∈c):frz x=x:=by
 have e:∀ {c:List T},frzs c=c->x∈c->frz x=x:=fun {c}=>by
  induction c with
  | nil=>exact fun _ z=>by cases z
  | cons y c ih=>
   intro e z
   obtain⟨e1,e2⟩:=UO e
   rcases uh.mp z with z | z
   ·rw [z];exact e1
   ·exact ih e2 z
 exact e h.fz hx
theorem JI:∀ (m n:Nat) {Q:T->List T->Prop} {X:Exn->List T->Prop} {ps us:List T} {B:Nat},(us=[]/\0<m)\/n+1<m->LsP ps us->(∀ u∈us,Pc B n u)->B<=1000000->us.length<=B->Q (ol (thws us)) [.non]->qt m [fl ps] Q X
 | 0,_,_,_,_,_,_,h,_,_,_,_,_=>by rcases h with⟨_,h⟩ | h<;>omega
 | m+1,n,Q,X,ps,us,B,hn,hf,hp,hB,hl,q=>by
  refine⟨rfl,?_⟩
  refine zd (Wm hf.sh) ?_
  refine Wl (fun k s τ=>τ=[]/\∃ x,s=[.own (fl ps),.own (ol (thws (us.take k))),x]/\(x=.no\/∃ t,x=.own t)) ⟨rfl,_,rfl,.inl rfl⟩ ?_ ?_
  ·rintro k p _ _ K hd ⟨rfl,x,rfl,hx⟩ hK
   have hu:us[k]? = some (can p):=by rw [← hf.cn,qG,uv,hd];rfl
   have pc:=hp _ (uH hu)
   have pf:PF p (can p):=⟨hf.mem (uH hd),rfl⟩
   obtain⟨w,ys,ec,b1,b2,b3,b4⟩:=pc.body
   rw [ec] at pf
   obtain⟨xs,e1,e2,e3⟩:=pf.xs
   have hm:n<m:=by
    rcases hn with⟨h,_⟩ | h
    ·rw [h] at hu;cases hu
    ·lia
   have hxs:LsP xs (.str w::ys):=⟨e1,e2⟩
   refine zd (z:=([.own (fl ps),.own (ol (thws (us.take k))),.own p],[])) (by rcases hx with rfl | ⟨t,rfl⟩<;>rfl) ?_
   refine zd (yw rfl pf.sh) ?_
   have its:∀ {s τ:Sl},itS .seq 1 s (.own p::τ)=some ((xs,none),(s,τ)):=fun {s τ}=>by
    rcases e3 with rfl | rfl
    ·exact zgo hxs.sh
    ·exact zgp hxs.sh
   have l16:(thws (us.take k)).length<16777216:=by rw [vH,ug,Uc];lia
   have lx:xs.length<=16777216:=by rw [hxs.len,ua];lia
   have ek:thws (us.take (k+1))=thws (us.take k)++[.tp (xs.map fun x=>thw (can x))]:=by
    rw [List.take_succ,hu,ec,vH,vH,uD]
    show _++[T.tp (thws (.str w::ys))]=_
    rw [← e2,vH,qG,Uz]
    rfl
   refine zd its ?_
   refine zec (g:=fun x=>thw (can x)) rfl rfl rfl rfl (fun a _ K h=>h) (fun x hx K' hK'=>?_) lx ?_
   ·have hy:can x∈T.str w::ys:=by rw [← e2,qG];exact Ur.mpr ⟨x,hx,rfl⟩
    have hP:(∃ s,can x=.str s)\/∃ qs,can x=fl qs/\qs.length<=B/\∀ p∈qs,∃ m,m<n/\Pc B m p:=by
     rcases uh.mp hy with e | hy
     ·exact .inl ⟨_,e⟩
     ·exact(b4 _ hy).imp (fun⟨s,e,_⟩=>⟨s,e⟩) id
    rcases hP with⟨s,e⟩ | ⟨us',e,l1,l2⟩
    ·cases YI e
     exact hK'
    ·obtain⟨qs,rfl,h5⟩:=zgw e (hxs.mem hx)
     refine JI m (n - 1) (B:=B) ?_ h5 (fun u hu=>?_) hB l1 ?_
     ·by_cases h0:n=0
      ·left
       refine⟨?_,by lia⟩
       cases us' with
       | nil=>rfl
       | cons u _=>obtain⟨m',h1,_⟩:=l2 u ui;omega
      ·right;lia
     ·obtain⟨m',h1,h2⟩:=l2 u hu
      exact h2.to (by lia)
     ·rw [show ol (thws us')=thw (can (fl qs)) by rw [e];rfl]
      exact hK'
   ·refine zd (Qx (by rfl) (Qy l16) (by rfl)) ?_
    exact hK _ _ ⟨rfl,.own p,by rw [ek],.inr ⟨p,rfl⟩⟩
  ·rintro _ _ ⟨rfl,x,rfl,hx⟩
   rw [show us.take ps.length=us by rw [hf.len,U4]]
   refine zd (z:=([.own (fl ps),.no,x],[.own (ol (thws us))])) (by rcases hx with rfl | ⟨t,rfl⟩<;>rfl) ?_
   exact q
noncomputable abbrev sF:Lh:=["over","pieces"]
noncomputable abbrev shT (ov:T)(us:List T):T:=.nd true (.ob 0 sF) [ov,ol (thws us)]
theorem yE {ov:T}{c us:List T}{B n:Nat}(hv:ov=.non\/∃ n,ov=.str n)(hf:LsP c us)(hp:∀ u∈us,Pc B n u)(hn:n<=30)(hB:B<=1000000)(hl:us.length<=B)(q:Q .non [shT ov us,.non,.non]):zA [.nd true (.ob 0 []) [],ov,fl c] Q X:=by
 unfold zA
 refine⟨rfl,?_⟩
 rcases hv with rfl | ⟨_,rfl⟩
 all_goals exact JI 40 n (B:=B) (.inr (by lia)) hf hp hB hl q
theorem zb5 {ov d:T}{us:List T}{nm:List (Lc)}{a:Int}{B:Nat}(hv:ov=.non\/∃ n,ov=.str n)(h:DrP ov ([⟨[],[],[],us⟩],nm) d)(hp:PcL B 12 us)(hB:B<=1000000)(q:∀ d',Q (shT ov us) [d',.non]):qk [d,.int a] Q X:=by
 obtain⟨fs,rfl,t,r,rfl,⟨bs,c,rfl,h1,h2,h3⟩,h4⟩:=h
 have h4:r=[]:=h4
 subst h4
 cases Up.mp h1
 unfold qk
 refine⟨rfl,?_⟩
 refine WG (uT rfl) ?_
 have h5:LsP (frzs c) us:=by rw [h3.fz];exact h3
 rcases hv with rfl | ⟨_,rfl⟩
 ·exact yE (.inl rfl) h5 hp.2 (by lia) hB hp.1 (q _)
 ·exact yE (.inr ⟨_,rfl⟩) h5 hp.2 (by lia) hB hp.1 (q _)
end
section
variable {Q:T->List T->Prop} {X:Exn->List T->Prop}
theorem zdw {l:Lc}(h:∀ c∈l,c∈SG)(q:Q (.str l) [.non]):qY [.str l] Q X:=by
 unfold qY
 refine⟨rfl,?_⟩
 have en:∀ (l:Lc) (n:Nat),∀ d∈vm n (signs l),∃ (j:Nat) (c:Nat),d=.tp [.int j,.str [c]]/\c∈l:=fun l=>by
  induction l with
  | nil=>intro n d hd;cases hd
  | cons c l ih=>
   intro n d hd
   rcases uh.mp hd with rfl | hd
   ·exact⟨n,c,rfl,ui⟩
   ·obtain⟨j,c',e,hc⟩:=ih (n+1) d hd
    exact⟨j,c',e,uk _ hc⟩
 refine Wl (fun k s τ=>τ=[]/\∃ x y,s=[.own (.str l),x,y]/\((x=.no/\y=.no)\/∃ a b,x=.own a/\y=.own b)) ⟨rfl,_,_,rfl,.inl ⟨rfl,rfl⟩⟩ ?_ ?_
 ·rintro k d _ _ K hd ⟨rfl,x,y,rfl,hxy⟩ hK
  obtain⟨j,c,rfl,hc⟩:=en l 0 d (uH hd)
  refine zd (z:=([.own (.str l),.own (.int j),.own (.str [c])],[])) (by rcases hxy with⟨rfl,rfl⟩ | ⟨_,_,rfl,rfl⟩<;>rfl) ?_
  refine wI (show(!decide (c∈SG))=false by rw [uT (h c hc)];rfl) ?_
  exact hK _ _ ⟨rfl,_,_,rfl,.inr ⟨_,_,rfl,rfl⟩⟩
 ·rintro _ _ ⟨rfl,x,y,rfl,hxy⟩
  exact q
theorem Rd.inv {o:Bool}{s s':Sx}{l:Lc}(h:Rd o s l s'):(l=[]/\s=s')\/∃ k t r s1,l=t++r/\Stp o s k s1/\Tx k t/\Rd o s1 r s':=by
 cases h with
 | nil=>exact .inl ⟨rfl,rfl⟩
 | cons h1 h2 h3=>exact .inr ⟨_,_,_,_,rfl,h1,h2,h3⟩
theorem zgx {o:Bool}{s s':Sx}{k:Tok}(h:Stp o s k s'):s'.2.length<=s.2.length+1:=by
 cases h with
 | put _ _=>exact UH _
 | op _ _ _ _ _=>
  show(if _ then _ else _:List (Lc)).length<=_
  split
  ·rw [ub];exact uf _
  ·exact UH _
 | els _ _ _=>exact UH _
 | fin=>exact UH _
noncomputable def root:Fr:=⟨[],[],[],[]⟩
noncomputable def Zx (n:Lc):Lc:=123::((jg++32::n)++[125])
def Reads (ov:T)(l:Lc)(us:List T):Prop:=
 (ov=.non/\∃ nm,Rd false ([root],[]) l ([⟨[],[],[],us⟩],nm))\/∃ n r nm,ov=.str n/\wR n/\l=Zx n++r/\Rd true ([root],[]) r ([⟨[],[],[],us⟩],nm)
theorem KL {n:Lc}{d:T}{s:Sx}(h:DrP .non s d)(q:∀ d',DrP (.str n) s d'->Q .non [d',.non,.non]):zZ [d,.tp [.str jg,.str n],.int 0] Q X:=by
 obtain⟨fs,rfl,h1⟩:=h
 unfold zZ
 refine⟨rfl,?_⟩
 have can:∀ {Q:T->List T->Prop} {X:Exn->List T->Prop},Q (.bl true) [drT .non fs (nmD s.2),.non,.non]->zq [drT .non fs (nmD s.2),.tp [.str jg,.str n],.int 0] Q X:=fun q=>by
  unfold zq
  exact⟨rfl,q⟩
 exact can (q _ ⟨fs,rfl,h1⟩)
theorem Reads.sg {ov:T}{l:Lc}{us:List T}(h:Reads ov l us):∀ c∈l,c∈SG:=by
 rcases h with⟨_,nm,h⟩ | ⟨n,r,nm,_,hn,rfl,h⟩
 ·exact h.sg
 ·intro c hc
  rcases uC.mp hc with z | z
  ·unfold Zx at z
   rcases uh.mp z with rfl | z
   ·decide
   ·rcases uC.mp z with z | z
    ·rcases uC.mp z with z | z
     ·exact(by decide:∀ c∈jg,c∈SG) c z
     ·rcases uh.mp z with rfl | z
      ·decide
      ·exact(wx hn c z).1
    ·rw [uj.mp z];decide
  ·exact h.sg c z
theorem YK (B:Nat):StK B [root]:=⟨uF _,⟨⟨uF _,nofun⟩,nofun,.inl rfl,uF _,uF _,by decide⟩,trivial⟩
theorem Reads.pc {ov:T}{l:Lc}{us:List T}(h:Reads ov l us):PcL (8+l.length) 12 us:=by
 rcases h with⟨_,nm,h⟩ | ⟨n,r,nm,_,hn,rfl,h⟩
 ·exact(h.ok (B:=8) (YK 8) (uf _)).2.1.1
 ·exact(h.ok (B:=8) (YK 8) (uf _)).2.1.1.mono (by rw [ub];lia)
theorem Q7 {ov:T}{l:Lc}{us:List T}(h:Reads ov l us)(hl:l.length<=2000)(q:Q (shT ov us) [.non]):qD [.str l] Q X:=by
 unfold qD
 refine⟨rfl,?_⟩
 have hpc:=h.pc
 have hsg:=h.sg
 have h':∃ o nm,((o=false/\ov=.non)\/(o=true/\∃ n,ov=.str n))/\((ov=.non/\Rd o ([root],[]) l ([⟨[],[],[],us⟩],nm))\/∃ n r,ov=.str n/\wR n/\l=Zx n++r/\Rd o ([root],[]) r ([⟨[],[],[],us⟩],nm)):=by
  rcases h with⟨e,nm,h⟩ | ⟨n,r,nm,e,hn,el,h⟩
  ·exact⟨false,nm,.inl ⟨rfl,e⟩,.inl ⟨e,h⟩⟩
  ·exact⟨true,nm,.inr ⟨rfl,n,e⟩,.inr ⟨n,r,e,hn,el,h⟩⟩
 clear h
 obtain⟨o,nm,hv,h⟩:=h'
 have hv':ov=.non\/∃ n,ov=.str n:=hv.imp And.right And.right
 refine wI (uo (by lia)) ?_
 refine zdw hsg ?_
 refine d_init ?_
 have d0:DrP .non ([root],[]) (drT .non [.nd true (.ob 1 oF) [.str [],.str [],ol [ol []]]] (nmD [])):=⟨_,rfl,_,[],rfl,⟨[],[],rfl,rfl,nofun,rfl,rfl⟩,rfl⟩
 refine zgn (fun m s τ=>τ=[]/\((∃ a:Nat,∃ s1 x d,s=[.own (.str l),.own d,.own (.int a),x]/\(x=.no\/∃ t,x=.own t)/\DrP ov s1 d/\Rd o s1 (l.drop a) ([⟨[],[],[],us⟩],nm)/\a+m=l.length/\StK (8+a) s1.1/\s1.2.length<=a)\/∃ d n r,s=[.own (.str l),.own d,.own (.int 0),.no]/\DrP .non ([root],[]) d/\ov=.str n/\wR n/\l=Zx n++r/\Rd o ([root],[]) r ([⟨[],[],[],us⟩],nm)/\m=l.length)) l.length ⟨rfl,?_⟩ ?_
 ·rcases h with⟨e,h⟩ | ⟨n,r,e,hn,el,h⟩
  ·subst e
   exact .inl ⟨0,_,_,_,rfl,.inl rfl,d0,h,by lia,YK _,uf _⟩
  ·exact .inr ⟨_,n,r,rfl,d0,e,hn,el,h,rfl⟩
 rintro m _ _ K ⟨rfl,⟨a,s1,x,d,rfl,hx,hd,hr,hm,hk,hnm⟩ | ⟨d,n,r,rfl,hd,hov,hn,el,hr,hm⟩⟩ hK
 ·rcases hr.inv with⟨e,e'⟩ | ⟨k,t,r,s2,e,hs,ht,hr'⟩
  ·have:l.length<=a:=by
    have:=congrArg List.length e
    simp only [u6,ud] at this
    lia
   subst e'
   refine wI (uo (by lia)) ?_
   obtain⟨fs,rfl,_⟩:=id hd
   rcases hx with rfl | ⟨_,rfl⟩
   all_goals exact zb5 (B:=8+l.length) hv' hd hpc (by lia) fun d'=>q
  ·have t1:=(YE ht).1
   have ll:a+t.length+r.length=l.length:=by
    have:=congrArg List.length e
    simp only [u6,ub] at this
    lia
   refine Zq (uT (by lia)) ?_
   refine XH ht e fun u hu=>?_
   have pf:=zb4 hu
   obtain⟨fs,rfl,_⟩:=id hd
   have next:∀ {d'},DrP ov s2 d'->K [.own (.str l),.own d',.own (.int ((a:Int)+t.length)),.own (.tp [u,.int t.length])] []:=fun {d'} hd'=>by
    refine hK (m - t.length) _ _ (by lia) ⟨rfl,.inl ⟨a+t.length,s2,.own (.tp [u,.int t.length]),d',?_,.inr ⟨_,rfl⟩,hd',?_,by lia,?_,?_⟩⟩
    ·rw [show((a+t.length:Nat):Int)=(a:Int)+t.length by lia]
    ·rw [← List.drop_drop,e,List.drop_left];exact hr'
    ·rw [← Nat.add_assoc];exact zbX hs ht hk (by lia)
    ·have:=zgx hs;lia
   have hsh:shr (.tp [u,.int t.length])=true:=by show(shr u&&true)=true;rw [pf.sh];rfl
   refine zd (zdr hsh) ?_
   rcases hx with rfl | ⟨_,rfl⟩
   all_goals
    refine zd (yw rfl hsh) ?_
    refine take_ok hd hs ht hv hu hk (by lia) (by lia) (by lia) fun d' hd'=>?_
    refine zd (yw rfl hsh) ?_
    exact next hd'
 ·have oi:(jg++32::n).length<=13:=by have:=hn.2.1;simp only [ub,ua,ud];lia
  have ll:l.length=(jg++32::n).length+2+r.length:=by
   rw [el]
   unfold Zx
   simp only [ub,ua,ud]
  have n125:125∉jg++32::n:=fun z=>by
   rcases uC.mp z with z | z
   ·exact absurd z (by decide)
   ·rcases uh.mp z with z | z
    ·cases z
    ·exact(wx hn _ z).2.1 rfl
  refine Zq (uT (by lia)) ?_
  refine yj (a:=0) (P:=fun u=>u=.tp [.str jg,.str n]) (i:=jg++32::n) (r:=r) n125 (fun q=>zbZ (.inr (.inr rfl)) hn (q _ rfl)) (by rw [el];unfold Zx;simp) fun u hu=>?_
  subst hu
  obtain⟨fs,rfl,_⟩:=id hd
  refine KL hd fun d' hd'=>?_
  refine hK r.length _ _ (by lia) ⟨rfl,.inl ⟨(jg++32::n).length+2,([root],[]),.own (.tp [.tp [.str jg,.str n],.int (((jg++32::n).length:Int)+2)]),d',?_,.inr ⟨_,rfl⟩,by rw [hov];exact hd',?_,by lia,YK _,uF _⟩⟩
  ·rw [show(((jg++32::n).length+2:Nat):Int)=(0:Int)+(((jg++32::n).length:Int)+2) by lia]
  ·have:l.drop ((jg++32::n).length+2)=r:=by
    rw [el,show(jg++32::n).length+2=(Zx n).length by unfold Zx;simp,List.drop_left]
   rw [this]
   exact hr
end
section
noncomputable def br (w:Lc):Lc:=123::(w++[125])
noncomputable def jx (c:Nat):Lc:=if c=123 then [123,40,125] else if c=125 then [123,41,125] else [c]
noncomputable def spell (s:Lc):Lc:=s.flatMap jx
noncomputable abbrev vI (n:Lc):T:=.tp [.str XC,.str n]
noncomputable abbrev zhW (n:Lc):T:=.tp [.str JG,.str n]
noncomputable abbrev zgy:T:=.tp [.str yD]
mutual
noncomputable def txP:T->Lc
 | .tp [.str w]=>br w
 | .tp [.str w,.str s]=>if w=wLit then spell s else if w=XC then br s else br (w++32::s)
 | .tp [.str w,.str n,.nd _ _ ps]=>br (w++32::n)++(txPs ps++br wEnd)
 | .tp [.str w,.str n,.nd _ _ ps,.nd _ _ qs]=>br (w++32::n)++(txPs ps++((if qs.isEmpty=true then [] else br w6++txPs qs)++br wEnd))
 | _=>[]
noncomputable def txPs:List T->Lc
 | []=>[]
 | p::ps=>txP p++txPs ps
end
theorem vJ:∀ ps:List T,txPs ps=(ps.map txP).flatten
 | []=>rfl
 | p::ps=>by rw [txPs,vJ ps];rfl
theorem XI (a b:List T):txPs (a++b)=txPs a++txPs b:=by rw [vJ,vJ,vJ,uD,List.flatten_append]
def LsB (R:T->Prop)(ps:List T):Prop:=ps.length<=100000/\∀ p∈ps,R p
theorem LsB.mono {R R':T->Prop}{ps:List T}(h:LsB R ps)(hR:∀ p,R p->R' p):LsB R' ps:=⟨h.1,fun p hp=>hR p (h.2 p hp)⟩
abbrev Sm (s:Lc):Prop:=s.length<=100000
def ShB (R:T->Prop)(t:T):Prop:=(∃ s,t=litP s/\Sm s)\/(∃ n,t=vI n/\Sm n)\/(∃ n,t=zhW n/\Sm n)\/t=zgy\/(∃ w n ps,(w=zM\/w=zH)/\t=.tp [.str w,.str n,fl ps]/\Sm n/\LsB R ps)\/∃ n ps qs,t=.tp [.str wIf,.str n,fl ps,fl qs]/\Sm n/\LsB R ps/\LsB R qs
noncomputable def Sh:Nat->T->Prop
 | 0=>ShB fun _=>False
 | n+1=>ShB (Sh n)
theorem ShB.mono {R R':T->Prop}{t:T}(h:ShB R t)(hR:∀ p,R p->R' p):ShB R' t:=by
 rcases h with h | h | h | h | ⟨w,n,ps,h1,h2,hm,h3⟩ | ⟨n,ps,qs,h1,hm,h2,h3⟩
 ·exact .inl h
 ·exact .inr (.inl h)
 ·exact .inr (.inr (.inl h))
 ·exact .inr (.inr (.inr (.inl h)))
 ·exact .inr (.inr (.inr (.inr (.inl ⟨w,n,ps,h1,h2,hm,h3.mono hR⟩))))
 ·exact .inr (.inr (.inr (.inr (.inr ⟨n,ps,qs,h1,hm,h2.mono hR,h3.mono hR⟩))))
theorem Sh.up:∀ {n:Nat} {t:T},Sh n t->Sh (n+1) t
 | 0,_,h=>ShB.mono (R':=Sh 0) h fun _ z=>z.elim
 | n+1,_,h=>ShB.mono (R':=Sh (n+1)) h fun _ z=>Sh.up z
theorem Sh.to {n m:Nat}(h:n<=m){t:T}(k:Sh n t):Sh m t:=by
 induction h with
 | refl=>exact k
 | step _ ih=>exact ih.up
theorem Sh.body:∀ {n:Nat} {t:T},Sh n t->ShB (fun p=>∃ m,m+1=n/\Sh m p) t
 | 0,_,h=>ShB.mono h fun _ z=>z.elim
 | n+1,_,h=>ShB.mono h fun _ z=>⟨n,rfl,z⟩
theorem Sh.lit {s:Lc}{n:Nat}(h:Sm s):Sh n (litP s):=Sh.to (uF n) (.inl ⟨s,rfl,h⟩:Sh 0 _)
theorem Sh.hole {s:Lc}{n:Nat}(h:Sm s):Sh n (vI s):=Sh.to (uF n) (.inr (.inl ⟨s,rfl,h⟩):Sh 0 _)
theorem Sh.blk {w m:Lc}{ps:List T}{n:Nat}(hw:w=zM\/w=zH)(hm:Sm m)(h:LsB (Sh n) ps):Sh (n+1) (.tp [.str w,.str m,fl ps]):=.inr (.inr (.inr (.inr (.inl ⟨w,m,ps,hw,rfl,hm,h⟩))))
theorem Sh.ife {m:Lc}{ps qs:List T}{n:Nat}(hm:Sm m)(h:LsB (Sh n) ps)(h':LsB (Sh n) qs):Sh (n+1) (.tp [.str wIf,.str m,fl ps,fl qs]):=.inr (.inr (.inr (.inr (.inr ⟨m,ps,qs,rfl,hm,h,h'⟩))))
theorem Sh.ind {C:Nat->T->Prop}(h:∀ {n:Nat} {t:T},ShB (fun p=>∃ m,m+1=n/\Sh m p/\C m p) t->C n t):∀ {n:Nat} {t:T},Sh n t->C n t:=by
 intro n
 induction n with
 | zero=>exact fun k=>h (ShB.mono k fun _ z=>z.elim)
 | succ n ih=>exact fun k=>h (ShB.mono k fun p z=>⟨n,rfl,z,ih z⟩)
theorem kq {n:Nat}:∀ {ps:List T},(∀ p∈ps,∃ d,datO p=some d/\j0 d=true/\depD d<=n)->∃ ds,Zh ps=some ds/\xI ds=true/\yP ds<=n
 | [],_=>⟨[],rfl,rfl,uF _⟩
 | p::ps,h=>by
  obtain⟨d,h1,h2,h3⟩:=h p ui
  obtain⟨ds,k1,k2,k3⟩:=kq (ps:=ps) fun q hq=>h q (uk _ hq)
  refine⟨d::ds,?_,?_,?_⟩
  ·rw [Zh,h1,k1];rfl
  ·simp only [xI,h2,k2,Bool.and_self]
  ·simp only [yP];lia
theorem VB {n:Nat}{ps:List T}{o:Bool}(h:∃ ds,Zh ps=some ds/\xI ds=true/\yP ds<=n):∃ d,datO (.nd o .ls ps)=some d/\j0 d=true/\depD d<=n+1:=by
 obtain⟨ds,h1,h2,h3⟩:=h
 refine⟨.ls ds,?_,?_,?_⟩
 ·rw [datO,h1];rfl
 ·simp only [j0];exact h2
 ·simp only [depD];lia
theorem zgz {n:Nat}{ps:List T}(h:∃ ds,Zh ps=some ds/\xI ds=true/\yP ds<=n):∃ d,datO (.tp ps)=some d/\j0 d=true/\depD d<=n+1:=by
 obtain⟨ds,h1,h2,h3⟩:=h
 refine⟨.tp ds,?_,?_,?_⟩
 ·rw [datO,h1];rfl
 ·simp only [j0];exact h2
 ·simp only [depD];lia
theorem zdx (n:Nat)(s:Lc):∃ d,datO (.str s)=some d/\j0 d=true/\depD d<=n:=⟨_,rfl,rfl,uF _⟩
theorem Sh.dat {n:Nat}{t:T}:Sh n t->∃ d,datO t=some d/\j0 d=true/\depD d<=2 * n+2:=by
 refine Sh.ind (C:=fun n t=>∃ d,datO t=some d/\j0 d=true/\depD d<=2 * n+2) fun {n t} h=>?_
 have st:∀ s,∃ d,datO (.str s)=some d/\j0 d=true/\depD d<=2 * n+1:=fun s=>zdx _ s
 have fs:∀ {ps:List T},LsB (fun p=>∃ m,m+1=n/\Sh m p/\∃ d,datO p=some d/\j0 d=true/\depD d<=2 * m+2) ps->∃ d,datO (fl ps)=some d/\j0 d=true/\depD d<=2 * n+1:=fun {ps} k=>VB (n:=2 * n) (kq fun p hp=>by
  obtain⟨m,rfl,_,d,h1,h2,h3⟩:=k.2 p hp
  exact⟨d,h1,h2,by lia⟩)
 have al:∀ {xs:List T},(∀ x∈xs,∃ d,datO x=some d/\j0 d=true/\depD d<=2 * n+1)->∃ d,datO (.tp xs)=some d/\j0 d=true/\depD d<=2 * n+2:=fun {xs} k=>zgz (kq k)
 rcases h with⟨s,rfl,_⟩ | ⟨s,rfl,_⟩ | ⟨s,rfl,_⟩ | rfl | ⟨w,m,ps,_,rfl,_,h3⟩ | ⟨m,ps,qs,rfl,_,h2,h3⟩
 all_goals refine al fun x hx=>?_
 ·rcases uh.mp hx with rfl | hx
  ·exact st _
  ·rw [uj.mp hx];exact st _
 ·rcases uh.mp hx with rfl | hx
  ·exact st _
  ·rw [uj.mp hx];exact st _
 ·rcases uh.mp hx with rfl | hx
  ·exact st _
  ·rw [uj.mp hx];exact st _
 ·rw [uj.mp hx];exact st _
 ·simp only [uh,u7,UQ] at hx
  rcases hx with rfl | rfl | rfl
  ·exact st _
  ·exact st _
  ·exact fs h3
 ·simp only [uh,u7,UQ] at hx
  rcases hx with rfl | rfl | rfl | rfl
  ·exact st _
  ·exact st _
  ·exact fs h2
  ·exact fs h3
theorem zhX {n:Nat}{ps:List T}{a b:Bool}(h:∀ p∈ps,Sh n p)(hn:n<=20):eqO (.nd a .ls ps) (.nd b .ls ps)=some true:=by
 obtain⟨d,h1,h2,h3⟩:=VB (o:=a) (kq fun p hp=>(h p hp).dat)
 obtain⟨e,k1,k2,k3⟩:=VB (o:=b) (kq fun p hp=>(h p hp).dat)
 have:d=e:=by
  rw [datO] at h1 k1
  rw [h1] at k1
  exact uG k1
 subst this
 show two (datO (.nd a .ls ps)) (datO (.nd b .ls ps)) _=_
 rw [h1,k1]
 show(if depD d<=50/\_ then some (eqD d d) else none)=_
 rw [uA ⟨by lia,rfl,rfl⟩,W5 h2]
mutual
theorem zdy:∀ t:T,frz (thw t)=frz t
 | .tp xs=>congrArg T.tp (xF xs)
 | .nd _ k xs=>congrArg (T.nd false k) (xF xs)
 | .non=>rfl
 | .bl _=>rfl
 | .int _=>rfl
 | .str _=>rfl
 | .any=>rfl
 | .ks _ _=>rfl
 | .xo _ _ _=>rfl
theorem xF:∀ ts:List T,frzs (thws ts)=frzs ts
 | []=>rfl
 | t::ts=>by rw [thws,frzs,zdy t,xF ts];rfl
end
theorem Sh.fz {n:Nat}{t:T}:Sh n t->frz t=t/\can t=t:=by
 have ls:∀ {ps:List T},(∀ p∈ps,frz p=p/\can p=p)->frzs ps=ps/\cans ps=ps:=fun {ps} h=>by
  rw [qZ,qG]
  exact⟨(u9 fun p hp=>(h p hp).1).trans (gh _),(u9 fun p hp=>(h p hp).2).trans (gh _)⟩
 refine Sh.ind (C:=fun n t=>frz t=t/\can t=t) fun {n t} h=>?_
 rcases h with⟨s,rfl,_⟩ | ⟨s,rfl,_⟩ | ⟨s,rfl,_⟩ | rfl | ⟨w,m,ps,_,rfl,_,h3⟩ | ⟨m,ps,qs,rfl,_,h2,h3⟩
 ·exact⟨rfl,rfl⟩
 ·exact⟨rfl,rfl⟩
 ·exact⟨rfl,rfl⟩
 ·exact⟨rfl,rfl⟩
 ·obtain⟨a,b⟩:=ls fun p hp=>(h3.2 p hp).choose_spec.2.2
  exact⟨by show T.tp [.str w,.str m,fl (frzs ps)]=_;rw [a],by show T.tp [.str w,.str m,fl (cans ps)]=_;rw [b]⟩
 ·obtain⟨a,b⟩:=ls fun p hp=>(h2.2 p hp).choose_spec.2.2
  obtain⟨c,d⟩:=ls fun p hp=>(h3.2 p hp).choose_spec.2.2
  exact⟨by show T.tp [.str wIf,.str m,fl (frzs ps),fl (frzs qs)]=_;rw [a,c],by show T.tp [.str wIf,.str m,fl (cans ps),fl (cans qs)]=_;rw [b,d]⟩
theorem Sh.pc {n:Nat}{t:T}:Sh n t->Pc 100000 n t:=by
 refine Sh.ind (C:=Pc 100000) fun {n t} h=>?_
 have lf:∀ {w s:Lc},w.length<=8->Sm s->Pc 100000 n (.tp [.str w,.str s]):=fun {w s} h1 h2=>kn (by lia) (fun _=>⟨_,rfl⟩) (by simp) fun x hx=>⟨s,uj.mp hx,h2⟩
 have nd:∀ {w:Lc} {xs:List T},w.length<=8->w≠wLit->xs.length<=8->(∀ x∈xs,(∃ s,x=.str s/\Sm s)\/∃ ps,x=fl ps/\LsB (fun p=>∃ m,m+1=n/\Sh m p/\Pc 100000 m p) ps)->Pc 100000 n (.tp (.str w::xs)):=fun {w xs} h1 h2 h3 h4=>by
  cases n with
  | zero=>
   refine⟨w,xs,rfl,by lia,fun z=>absurd z h2,h3,fun x hx=>(h4 x hx).imp id fun⟨ps,e,l,k⟩=>⟨ps,e,l,fun p hp=>?_⟩⟩
   obtain⟨m,e,_⟩:=k p hp
   lia
  | succ n=>
   refine⟨w,xs,rfl,by lia,fun z=>absurd z h2,h3,fun x hx=>(h4 x hx).imp id fun⟨ps,e,l,k⟩=>⟨ps,e,l,fun p hp=>?_⟩⟩
   obtain⟨m,e,_,z⟩:=k p hp
   cases e
   exact z
 rcases h with⟨s,rfl,k⟩ | ⟨s,rfl,k⟩ | ⟨s,rfl,k⟩ | rfl | ⟨w,m,ps,hw,rfl,k,h3⟩ | ⟨m,ps,qs,rfl,k,h2,h3⟩
 ·exact lf (by decide) k
 ·exact lf (by decide) k
 ·exact lf (by decide) k
 ·exact kn (by decide) (fun z=>absurd z (by decide)) (by decide) nofun
 ·refine nd (by rcases hw with rfl | rfl<;>decide) (by rcases hw with rfl | rfl<;>decide) (by simp) fun x hx=>?_
  rcases uh.mp hx with rfl | hx
  ·exact .inl ⟨_,rfl,k⟩
  ·exact .inr ⟨ps,uj.mp hx,h3⟩
 ·refine nd (by decide) (by decide) (by simp) fun x hx=>?_
  simp only [uh,u7,UQ] at hx
  rcases hx with rfl | rfl | rfl
  ·exact .inl ⟨_,rfl,k⟩
  ·exact .inr ⟨ps,rfl,h2⟩
  ·exact .inr ⟨qs,rfl,h3⟩
theorem Sh.ls {n:Nat}{ps:List T}(h:∀ p∈ps,Sh n p):LsP ps ps:=by
 refine⟨?_,?_⟩
 ·rw [qZ];exact(u9 fun p hp=>(h p hp).fz.1).trans (gh _)
 ·rw [qG];exact(u9 fun p hp=>(h p hp).fz.2).trans (gh _)
end
section
variable {Q:T->List T->Prop} {X:Exn->List T->Prop}
theorem XJ {α:Type}(f:α->Lc):∀ xs:List α,Jt (xs.map fun a=>.str (f a))=some (xs.map f)
 | []=>rfl
 | x::xs=>by
  show two (some (f x)) (Jt (xs.map fun a=>.str (f a))) _=_
  rw [XJ f xs];rfl
theorem WH {α:Type}{f:α->Lc}{xs:List α}{o:Bool}(h:(xs.map f).flatten.length<=16777216):meF .join [] [.nd o .ls (xs.map fun a=>.str (f a))]=some (.str (xs.map f).flatten):=by
 show(Jt (xs.map fun a=>.str (f a))).bind _=_
 rw [XJ]
 show(if _ then _ else _)=_
 rw [uA ⟨rfl,h⟩]
theorem ku {w:Lc}(h:w.length<=16000000)(q:Q (.str (br w)) [.non]):qr [.str w] Q X:=by
 unfold qr
 refine⟨rfl,?_⟩
 refine zd (zL (by simp only [ua,ud];lia)) ?_
 refine zd (zL (by simp only [ub,ua,ud];lia)) ?_
 exact q
theorem zgA (c:Nat):kgO jb [c] (.str [c])=.str (jx c):=by
 show(if ([123]:Lc)=[c] then T.str [123,40,125] else if ([125]:Lc)=[c] then .str [123,41,125] else .str [c])=_
 unfold jx
 by_cases h:c=123
 ·subst h;rfl
 ·by_cases h':c=125
  ·subst h';rfl
  ·rw [uq (by simp;lia),uq (by simp;lia),uq h,uq h']
theorem kZ (s:Lc):(spell s).length<=3 * s.length:=by
 induction s with
 | nil=>exact uf _
 | cons c s ih=>
  have:(jx c).length<=3:=by unfold jx;split<;>(try split)<;>simp
  show(jx c++spell s).length<=_
  rw [ub,ua];lia
theorem zgB {s:Lc}(h:s.length<=1000000)(q:Q (.str (spell s)) [.non]):qa [.str s] Q X:=by
 unfold qa
 refine⟨rfl,?_⟩
 refine Wk (α:=Nat) (f:=fun c=>.str [c]) (g:=fun c=>.str (jx c)) (xs:=s) (acc:=[]) rfl rfl rfl rfl (fun a _ K h=>h) (fun c _ K hK=>?_) (by simp only [ud];lia) ?_
 ·show K _ (.own (kgO jb [c] (.str [c]))::_)
  rw [zgA]
  exact hK
 ·have:=kZ s
  refine zd (WH (f:=jx) (o:=true) (xs:=s) (by rw [show(s.map jx).flatten=spell s from(List.flatMap_def).symm];lia)) ?_
  rw [show(s.map jx).flatten=spell s from(List.flatMap_def).symm]
  exact q
theorem zb6 {p:T}{ps:List T}(h:p∈ps):(txP p).length<=(txPs ps).length:=by
 induction ps with
 | nil=>cases h
 | cons q ps ih=>
  rw [txPs,ub]
  rcases uh.mp h with rfl | h
  ·lia
  ·have:=ih h;lia
theorem vU:∀ (m n:Nat) {Q:T->List T->Prop} {X:Exn->List T->Prop} {us:List T},(us=[]/\0<m)\/n+1<m->LsB (Sh n) us->(txPs us).length<=1000000->Q (.str (txPs us)) [.non]->zg m [fl us] Q X
 | 0,_,_,_,_,h,_,_,_=>by rcases h with⟨_,h⟩ | h<;>omega
 | m+1,n,Q,X,us,hn,hs,hl,q=>by
  refine⟨rfl,?_⟩
  have ls:LsP us us:=Sh.ls hs.2
  refine zd (Wm ls.sh) ?_
  refine zec (g:=fun p=>.str (txP p)) rfl rfl rfl rfl (fun a _ K h=>h) (fun p hp K hK=>?_) (by have:=hs.1;lia) ?_
  ·have hm:n<m:=by
    rcases hn with⟨h,_⟩ | h
    ·rw [h] at hp;cases hp
    ·lia
   have l1:=zb6 hp
   have sb:=(hs.2 p hp).body
   have rec':∀ {ps:List T} {Q:T->List T->Prop} {X:Exn->List T->Prop},LsB (fun p=>∃ m,m+1=n/\Sh m p) ps->(txPs ps).length<=1000000->Q (.str (txPs ps)) [.non]->zg m [fl ps] Q X:=fun {ps Q X} k1 k2 q=>by
    cases n with
    | zero=>
     refine vU m 0 (.inl ⟨?_,hm⟩) (k1.mono fun p z=>by obtain⟨_,e,_⟩:=z;lia) k2 q
     cases ps with
     | nil=>rfl
     | cons p _=>obtain⟨_,e,_⟩:=k1.2 p ui;omega
    | succ n=>exact vU m n (.inr (by omega)) (k1.mono fun p z=>by obtain⟨_,e,z⟩:=z;cases e;exact z) k2 q
   have sh:=(hs.2 p hp).fz.1
   refine zd (yw rfl (by rw [← sh];exact yQ p)) ?_
   show zX (zg m) [p] _ _
   have fin:∀ {Q:T->List T->Prop} {X:Exn->List T->Prop},Q (.str (txP p)) [.non]->zX (zg m) [p] Q X:=fun {Q X} q=>by
    refine⟨rfl,?_⟩
    rcases sb with⟨s,rfl,k⟩ | ⟨s,rfl,k⟩ | ⟨s,rfl,k⟩ | rfl | ⟨w,nm,ps,hw,rfl,k,h3⟩ | ⟨nm,ps,qs,rfl,k,h2,h3⟩
    ·exact zgB (by lia) q
    ·exact ku (by lia) q
    ·refine zd (zL (by simp only [ub,ua,ud];lia)) ?_
     refine ku (by simp only [ub,ua,ud];lia) ?_
     exact q
    ·exact ku (by decide) q
    ·have e:txP (.tp [.str w,.str nm,fl ps])=br (w++32::nm)++(txPs ps++br wEnd):=by rw [txP]
     rw [e] at q l1
     have l2:(br (w++32::nm)).length+((txPs ps).length+(br wEnd).length)<=1000000:=by simp only [ub] at l1;lia
     have l3:(w++32::nm).length<=1000000:=by have:=l2;unfold br at this;simp only [ub,ua,ud] at this ⊢;lia
     rcases hw with rfl | rfl
     all_goals
      refine zd (zL (by simp only [ub,ua,ud];lia)) ?_
      refine ku (by simp only [ub,ua,ud];lia) ?_
      refine rec' h3 (by lia) ?_
      refine zd (zL (by unfold br at l2 ⊢;simp only [ub,ua,ud] at l2 ⊢;lia)) ?_
      refine zd (zL (by unfold br at l2 ⊢;simp only [ub,ua,ud] at l2 ⊢;lia)) ?_
      refine ku (by decide) ?_
      refine zd (zL (by unfold br at l2 ⊢;simp only [ub,ua,ud] at l2 ⊢;lia)) ?_
      rw [← uc,← uw (_++txPs ps)] at q
      exact q
    ·have e:txP (.tp [.str wIf,.str nm,fl ps,fl qs])=br (wIf++32::nm)++(txPs ps++((if qs.isEmpty=true then [] else br w6++txPs qs)++br wEnd)):=by rw [txP]
     rw [e] at q l1
     have l2:(br (wIf++32::nm)).length+((txPs ps).length+((if qs.isEmpty=true then [] else br w6++txPs qs).length+(br wEnd).length))<=1000000:=by simp only [ub] at l1;lia
     refine zd (zL (by simp only [ub,ua,ud];lia)) ?_
     refine ku (by simp only [ub,ua,ud];lia) ?_
     have el:∀ {Q:T->List T->Prop} {X:Exn->List T->Prop},Q (.str (if qs.isEmpty=true then [] else br w6++txPs qs)) [.non]->qj (zg m) [fl qs] Q X:=fun {Q X} q=>by
      refine⟨rfl,?_⟩
      cases qs with
      | nil=>exact q
      | cons p qs=>
       refine ku (by decide) ?_
       rw [uq (by simp)] at l2 q
       refine rec' h3 (by simp only [ub] at l2;lia) ?_
       refine zd (zL (by show(br w6).length+_<=_;simp only [ub] at l2;lia)) ?_
       exact q
     refine el ?_
     refine rec' h2 (by lia) ?_
     refine zd (zL (by unfold br at l2 ⊢;simp only [ub,ua,ud] at l2 ⊢;lia)) ?_
     refine zd (zL (by unfold br at l2 ⊢;simp only [ub,ua,ud] at l2 ⊢;lia)) ?_
     refine ku (by decide) ?_
     refine zd (zL (by unfold br at l2 ⊢;simp only [ub,ua,ud] at l2 ⊢;lia)) ?_
     rw [← uc,← uc] at q
     exact q
   exact fin hK
  ·rw [vJ] at hl q
   refine zd (WH (f:=txP) (o:=true) (xs:=us) (by lia)) ?_
   exact q
end
section
variable {Q:T->List T->Prop} {X:Exn->List T->Prop}
noncomputable def ovT:T->Lc
 | .str n=>br (jg++32::n)
 | _=>[]
noncomputable abbrev shF (ov:T)(us:List T):T:=.nd false (.ob 0 sF) [ov,fl us]
theorem yk {ov:T}{us:List T}{n:Nat}(hv:ov=.non\/∃ n,ov=.str n/\n.length<=1000000)(hs:LsB (Sh n) us)(hn:n<=30)(hl:(txPs us).length<=1000000)(q:Q (.str (ovT ov++txPs us)) [.non]):zY [shF ov us] Q X:=by
 unfold zY
 refine⟨rfl,?_⟩
 rcases hv with rfl | ⟨nm,rfl,hm⟩
 ·refine vU 40 n (.inr (by lia)) hs hl ?_
  refine zd (zL (by simp only [ud];lia)) ?_
  exact q
 ·refine zd (zL (by simp only [ua,ud];lia)) ?_
  refine ku (by simp only [ub,ua,ud];lia) ?_
  refine vU 40 n (.inr (by lia)) hs hl ?_
  refine zd (zL (by unfold br;simp only [ub,ua,ud];lia)) ?_
  exact q
theorem zgC {ov:T}{us:List T}(hv:ov=.non\/∃ n,ov=.str n)(hf:frzs us=us):frz (shT ov us)=shF ov us:=by
 show T.nd false (.ob 0 sF) [frz ov,fl (frzs (thws us))]=_
 rw [xF,hf]
 rcases hv with rfl | ⟨n,rfl⟩<;>rfl
theorem YL {l:Lc}{us:List T}{n:Nat}(h:Reads .non l us)(hs:LsB (Sh n) us)(hn:n<=12)(ht:txPs us=l)(hl:l.length<=2000)(q:Q (.bl true) [.non,.non]):zD [.str l,fl us] Q X:=by
 have ls:=Sh.ls hs.2
 unfold zD
 refine⟨rfl,?_⟩
 refine Q7 h hl ?_
 refine zd (z:=T.bl false) (by show(eqO (fl (frzs (thws us))) (fl us)).bind _=_;rw [xF,ls.fz,zhX hs.2 (by lia)];rfl) ?_
 refine yE (B:=100000) (.inl rfl) ls (fun u hu=>(hs.2 u hu).pc) (by lia) (by lia) hs.1 ?_
 show zY [frz (shT .non us)] _ _
 rw [zgC (.inl rfl) ls.fz]
 refine yk (.inl rfl) hs (by lia) (by rw [ht];lia) ?_
 have e:ovT .non++txPs us=l:=ht
 rw [e]
 refine Zq (uT rfl) ?_
 refine yk (.inl rfl) hs (by lia) (by rw [ht];lia) ?_
 rw [e]
 show Q (.bl (decide (l=l))) _
 rw [uT rfl]
 exact q
theorem zb7 {c k:Int}(q:∀ r:Int,0<=r->r<999999999989->Q (.int r) [.non,.non]):qB [.int c,.int k] Q X:=by
 unfold qB
 refine⟨rfl,?_⟩
 have i8:∀ {xs:List T} {s τ:Sl},xs.length=8->∃ u∈xs,ixS s (.own (.int (k % 8))::.own (.nd true .ls xs)::τ)=some (.own u::τ):=fun {xs s τ} h=>by
  have h1:0<=k % 8/\k % 8<8:=⟨gi _ (by decide),UT _ (by decide)⟩
  obtain⟨j,e⟩:=gb h1.1
  have l:j<xs.length:=by lia
  rw [e]
  exact⟨xs[j],UM l,Wn (ka l) rfl (um l)⟩
 have i7:∀ {xs:List T} {s τ:Sl},xs.length=7->∃ u∈xs,ixS s (.own (.int (k % 7))::.own (.nd true .ls xs)::τ)=some (.own u::τ):=fun {xs s τ} h=>by
  have h1:0<=k % 7/\k % 7<7:=⟨gi _ (by decide),UT _ (by decide)⟩
  obtain⟨j,e⟩:=gb h1.1
  have l:j<xs.length:=by lia
  rw [e]
  exact⟨xs[j],UM l,Wn (ka l) rfl (um l)⟩
 obtain⟨u,hu,e⟩:=i8 (xs:=[.int 1000000007,.int 1181783503,.int 1372345291,.int 1518500279,.int 1636201513,.int 1734723539,.int 1871234567,.int 2012345681]) (s:=[.own (.int c),.own (.int k),.no,.no,.no]) (τ:=[]) rfl
 obtain⟨a,rfl,ha⟩:∃ a:Int,u=.int a/\0<a/\a<2 ^ 33:=by
  simp only [uh,u7,UQ] at hu
  rcases hu with rfl | rfl | rfl | rfl | rfl | rfl | rfl | rfl<;>exact⟨_,rfl,by decide⟩
 obtain⟨u',hu',e'⟩:=i7 (xs:=[.int 100000000003,.int 223606797763,.int 314159265359,.int 414213562379,.int 577215664943,.int 693147180563,.int 732050807573]) (s:=[.own (.int c),.own (.int k),.own (.int a),.no,.no]) (τ:=[]) rfl
 obtain⟨b,rfl,hb⟩:∃ a:Int,u' = .int a/\0<a/\a<2 ^ 40:=by
  simp only [uh,u7,UQ] at hu'
  rcases hu' with rfl | rfl | rfl | rfl | rfl | rfl | rfl<;>exact⟨_,rfl,by decide⟩
 refine zd e ?_
 refine zd e' ?_
 have m1:∀ {x y:Int},IntMulOk x y->opF .mul [.int x,.int y]=some (.int (x * y)):=fun {x y} h=>by
  show(if IntMulOk x y then some (T.int (x * y)) else none)=_
  rw [uA h]
 refine zd (m1 (VR ⟨by lia,by lia⟩)) ?_
 refine zd (m1 (VR ⟨by lia,by lia⟩)) ?_
 exact q _ (gi _ (by decide)) (UT _ (by decide))
end
section
variable {Q:T->List T->Prop} {X:Exn->List T->Prop}
theorem zdz {c:Int}(q:∀ r:Int,Q (.int r) [.non]):qW [.int c] Q X:=by
 unfold qW
 refine⟨rfl,?_⟩
 refine jh (fun _=>?_) (fun _=>?_)
 ·exact q _
 ·exact zb7 fun r _ _=>q r
theorem zb8 {l:Lc}{n:Nat}{k:Int}(hn:l.length=n)(h1:0<n)(hl:∀ c∈l,c∈SG){s τ:Sl}:∃ c∈SG,ixS s (.own (.int (k % (n:Int)))::.own (.str l)::τ)=some (.own (.str [c])::τ):=by
 obtain⟨j,e⟩:=gb (gi k (show(n:Int)≠0 by lia))
 have:k % (n:Int)<n:=UT _ (by lia)
 have l1:j<l.length:=by lia
 have:=WD (l:=l) (r:=l.drop (j+1)) (a:=j) (c:=l[j]) (UB l1)
 rw [e]
 exact⟨l[j],hl _ (UM l1),this.2⟩
theorem zdA {k:Int}(q:∀ c∈SG,Q (.str [c]) [.non]):qX [.int k] Q X:=by
 unfold qX
 refine⟨rfl,?_⟩
 refine jh (fun _=>?_) (fun _=>?_)
 ·obtain⟨c,hc,e⟩:=zb8 (l:=[123,125]) (n:=2) (k:=k / 3) (s:=[.own (.int k)]) (τ:=[]) rfl (by decide) (by decide)
  exact zd e (q c hc)
 ·unfold jc
  refine⟨rfl,?_⟩
  obtain⟨c,hc,e⟩:=zb8 (l:=[32,33,34,35,36,38,39,40,41,42,43,44,45,46,47,48,49,50,51,52,53,54,55,56,57,58,59,60,61,62,63,64]++[65,66,67,68,69,70,71,72,73,74,75,76,77,78,79,80,81,82,83,84,85,86,87,88,89,90,91,92,93,94,95,96,97,98,99,100,101,102,103,104,105,106,107,108,109,110,111,112,113,114,115,116,117,118,119,120,121,122,124,126]++[123,125]) (n:=94) (k:=k / 3) (s:=[.own (.int k)]) (τ:=[]) rfl (by decide) (by decide)
  exact zd e (q c hc)
theorem zb9 (c:Nat){s τ:Sl}:dgS s (.own (.str [c])::.own (.str [c])::.own (.nd true (.dc [.inr (S [123]),.inr (S [125])]) [.str [123,40,125],.str [123,41,125]])::τ)=some (.own (.str (jx c))::τ):=by
 have e:∀ d:Nat,decide ((.inr (S [d]):Key)=.inr (S [c]))=decide (d=c):=fun d=>by
  by_cases h:d=c
  ·subst h;simp
  ·rw [uo h,uo]
   intro z
   have:=Z0.mp (Sum.inr.inj z)
   simp at this
   exact h this
 have f:dcJ (.inr (S [c])) (.nd true (.dc [.inr (S [123]),.inr (S [125])]) [.str [123,40,125],.str [123,41,125]])=if c=123 then some 0 else if c=125 then some 1 else none:=by
  show List.findIdx? _ _=_
  rw [Ue,Ue,List.findIdx?_nil,e,e]
  by_cases h:c=123
  ·subst h;rfl
  ·rw [uo (fun z=>h z.symm),uq h]
   by_cases h':c=125
   ·subst h';rfl
   ·rw [uo (fun z=>h' z.symm),uq h'];rfl
 show(match dcJ (.inr (S [c])) (.nd true (.dc [.inr (S [123]),.inr (S [125])]) [.str [123,40,125],.str [123,41,125]]) with
  | some _=>(ye s (.own (.nd true (.dc [.inr (S [123]),.inr (S [125])]) [.str [123,40,125],.str [123,41,125]])) (dcJ (.inr (S [c])))).bind fun z=>some (z::τ)
  | none=>some (.own (.str [c])::τ))=_
 show(match dcJ (.inr (S [c])) (.nd true (.dc [.inr (S [123]),.inr (S [125])]) [.str [123,40,125],.str [123,41,125]]) with
  | some _=>((dcJ (.inr (S [c])) (.nd true (.dc [.inr (S [123]),.inr (S [125])]) [.str [123,40,125],.str [123,41,125]])).bind fun n=>(some [T.str [123,40,125],.str [123,41,125]]).bind fun xs=>(xs[n]?).bind fun u=>some (Slot.own u)).bind fun z=>some (z::τ)
  | none=>some (.own (.str [c])::τ))=_
 rw [f]
 unfold jx
 by_cases h:c=123
 ·rw [uA h,uA h];rfl
 ·rw [uq h,uq h]
  by_cases h':c=125
  ·rw [uA h',uA h'];rfl
  ·rw [uq h',uq h']
theorem VC {l:Lc}(hl:l.length<=1000)(q:Q (.str (spell l)) [.non]):z9 [.str l] Q X:=by
 unfold z9
 refine⟨rfl,?_⟩
 refine Wl (fun k s τ=>τ=[]/\∃ x,s=[.own (.str l),.own (.str (spell (l.take k))),x]/\(x=.no\/∃ t,x=.own t)) ⟨rfl,_,rfl,.inl rfl⟩ ?_ ?_
 ·rintro k d _ _ K hd ⟨rfl,x,rfl,hx⟩ hK
  have hd:(l.map fun c=>T.str [c])[k]? = some d:=hd
  rw [uv] at hd
  obtain⟨c,hc,rfl⟩:=uu.mp hd
  have ek:spell (l.take (k+1))=spell (l.take k)++jx c:=by
   rw [List.take_succ,hc]
   unfold spell
   rw [gz]
   simp
  have l1:=kZ (l.take (k+1))
  have l2:(l.take (k+1)).length<=l.length:=by rw [Uc];lia
  rw [ek,ub] at l1
  refine zd (z:=([.own (.str l),.own (.str (spell (l.take k))),.own (.str [c])],[])) (by rcases hx with rfl | ⟨t,rfl⟩<;>rfl) ?_
  refine zd (zb9 c) ?_
  refine zd (zL (by lia)) ?_
  exact hK _ _ ⟨rfl,.own (.str [c]),by rw [ek],.inr ⟨_,rfl⟩⟩
 ·rintro _ _ ⟨rfl,x,rfl,hx⟩
  rw [show l.take (L5.signs l).length=l by unfold L5.signs;rw [ug,U4]]
  exact q
end
section
variable {Q:T->List T->Prop} {X:Exn->List T->Prop}
theorem Rd.spell {ov:Bool}{st:List Fr}{nm:List (Lc)}(ho:ov=true->st≠[]):∀ (s:Lc),s≠[]->(∀ c∈s,c∈SG)->∀ {f:Fr},Rd ov (f::st,nm) (spell s) (f.put (litP s)::st,nm):=by
 have one:∀ (c:Nat),c∈SG->Tx (.lit [c]) (jx c):=fun c hc=>by
  unfold jx
  by_cases h:c=123
  ·subst h;exact .word .lb
  ·rw [uq h]
   by_cases h':c=125
   ·subst h';exact .word .rb
   ·rw [uq h'];exact .sign hc h h'
 intro s
 induction s with
 | nil=>exact fun h=>absurd rfl h
 | cons c s ih=>
  intro _ h f
  cases s with
  | nil=>
   have:=Rd.cons (.put (ov:=ov) (f:=f) (nm:=nm) (k:=.lit [c]) rfl ho) (one c (h c ui)) .nil
   exact this
  | cons d s=>
   have:=Rd.cons (.put (ov:=ov) (f:=f) (nm:=nm) (k:=.lit [c]) rfl ho) (one c (h c ui)) (ih (by simp) (fun x hx=>h x (uk _ hx)))
   have e:(f.put (.tp (Tok.lit [c]).xs)).put (litP (d::s))=f.put (litP (c::d::s)):=by
    show({ f with cur:=addP (addP f.cur (litP [c])) (litP (d::s)) }:Fr)=_
    rw [zbU]
    rfl
   rw [e] at this
   exact this
noncomputable def litL (s:Lc):List T:=if s=[] then [] else [litP s]
theorem QM (s:Lc):txPs (litL s)=spell s:=by
 unfold litL
 split
 ·rename_i h;subst h;rfl
 ·rw [txPs,txPs,txP,uw];rfl
theorem WI {st:List Fr}{nm:List (Lc)}{s:Lc}(h:∀ c∈s,c∈SG){w n:Lc}{ps:List (List T)}:Rd false (⟨w,n,ps,[]⟩::st,nm) (spell s) (⟨w,n,ps,litL s⟩::st,nm):=by
 unfold litL
 by_cases e:s=[]
 ·subst e;exact .nil
 ·rw [uq e]
  exact Rd.spell (ov:=false) nofun s e h (f:=⟨w,n,ps,[]⟩)
theorem VD {n:Nat}{s:Lc}(hl:s.length<=1000):LsB (Sh n) (litL s):=by
 unfold litL
 split
 ·exact⟨uF _,nofun⟩
 ·exact⟨by simp,fun p hp=>by rw [uj.mp hp];exact .lit (by show s.length<=100000;lia)⟩
noncomputable abbrev na:Lc:=[97]
noncomputable abbrev nb:Lc:=[98]
theorem XM:QJ na:=⟨⟨by decide,by decide,by decide⟩,by decide⟩
theorem zhY:QJ nb:=⟨⟨by decide,by decide,by decide⟩,by decide⟩
section
variable {s:Lc} (h:∀ c∈s,c∈SG)
include h
theorem zgD:Reads .non (spell s) (litL s):=.inl ⟨rfl,_,WI h⟩
theorem zgE:Reads .non (br (zM++32::na)++spell s++br wEnd) [.tp [.str zM,.str na,fl (litL s)]]:=by
 refine .inl ⟨rfl,[],?_⟩
 have a:=Rd.one (ov:=false) (.op (st:=[root]) (nm:=[]) (w:=zM) (n:=na) (by decide) (by simp) (.inl rfl) nofun (fun z=>absurd z (by decide))) (.word (.op1 (.inl rfl) XM))
 have b:=WI (st:=[root]) (nm:=[]) h (w:=zM) (n:=na) (ps:=[])
 have c:=Rd.one (ov:=false) (.fin (f:=⟨zM,na,[],litL s⟩) (g:=root) (st:=[]) (nm:=[])) (.word .fin)
 exact(a.app b).app c
theorem zgF:Reads .non (br na++spell s++br nb) ([vI na]++litL s++[vI nb]):=by
 refine .inl ⟨rfl,[],?_⟩
 have a:=Rd.one (ov:=false) (.put (f:=root) (st:=[]) (nm:=[]) (k:=.hole na) rfl nofun) (.word (.hole XM))
 have c:∀ {f:Fr},Rd false ([f],[]) (br nb) ([f.put (vI nb)],[]):=fun {f}=>Rd.one (ov:=false) (.put (st:=[]) (nm:=[]) (k:=.hole nb) rfl nofun) (.word (.hole zhY))
 unfold litL
 by_cases e:s=[]
 ·subst e
  have:=a.app (c (f:=root.put (vI na)))
  exact this
 ·rw [uq e]
  have b:=Rd.spell (ov:=false) (st:=[]) (nm:=[]) nofun s e h (f:=root.put (vI na))
  have:=(a.app b).app c
  exact this
theorem zgG (e:s≠[]):Reads .non (br (wIf++32::na)++br w6++spell s++br wEnd) [.tp [.str wIf,.str na,fl [],fl (litL s)]]:=by
 refine .inl ⟨rfl,[],?_⟩
 have a:=Rd.one (ov:=false) (.op (st:=[root]) (nm:=[]) (w:=wIf) (n:=na) (by decide) (by simp) (.inr (.inl rfl)) nofun (fun z=>absurd z (by decide))) (.word (.op1 (.inr rfl) XM))
 have a2:=Rd.one (ov:=false) (.els (f:=⟨wIf,na,[],[]⟩) (st:=[root]) (nm:=[]) rfl rfl nofun) (.word .els)
 have b:=WI (st:=[root]) (nm:=[]) h (w:=wIf) (n:=na) (ps:=[[]])
 have c:=Rd.one (ov:=false) (.fin (f:=⟨wIf,na,[[]],litL s⟩) (g:=root) (st:=[]) (nm:=[])) (.word .fin)
 exact((a.app a2).app b).app c
theorem zgH (e:s≠[]):Reads .non (br (zH++32::zM)++spell s++spell s++(br wEnd++br (wIf++32::na))++spell s++(br w6++[123,41,125]++br wEnd)) [.tp [.str zH,.str zM,fl [litP (s++s)]],.tp [.str wIf,.str na,fl (litL s),fl [litP [125]]]]:=by
 refine .inl ⟨rfl,[zM],?_⟩
 have a:=Rd.one (ov:=false) (.op (st:=[root]) (nm:=[]) (w:=zH) (n:=zM) (by decide) (by simp) (.inr (.inr rfl)) nofun (fun _=>by simp)) (.word (.op2 ⟨by decide,by decide,by decide⟩))
 have b:=Rd.spell (ov:=false) (st:=[root]) (nm:=[zM]) nofun s e h (f:=⟨zH,zM,[],[]⟩)
 have b2:=Rd.spell (ov:=false) (st:=[root]) (nm:=[zM]) nofun s e h (f:=⟨zH,zM,[],[litP s]⟩)
 have c:=Rd.one (ov:=false) (.fin (f:=⟨zH,zM,[],[litP (s++s)]⟩) (g:=root) (st:=[]) (nm:=[zM])) (.word .fin)
 have d:=Rd.one (ov:=false) (.op (st:=[⟨[],[],[],[.tp [.str zH,.str zM,fl [litP (s++s)]]]⟩]) (nm:=[zM]) (w:=wIf) (n:=na) (by simp) (by simp) (.inr (.inl rfl)) nofun (fun z=>absurd z (by decide))) (.word (.op1 (.inr rfl) XM))
 have f:=WI (st:=[⟨[],[],[],[.tp [.str zH,.str zM,fl [litP (s++s)]]]⟩]) (nm:=[zM]) h (w:=wIf) (n:=na) (ps:=[])
 have g:=Rd.one (ov:=false) (.els (f:=⟨wIf,na,[],litL s⟩) (st:=[⟨[],[],[],[.tp [.str zH,.str zM,fl [litP (s++s)]]]⟩]) (nm:=[zM]) rfl rfl nofun) (.word .els)
 have i:=Rd.one (ov:=false) (.put (f:=⟨wIf,na,[litL s],[]⟩) (st:=[⟨[],[],[],[.tp [.str zH,.str zM,fl [litP (s++s)]]]⟩]) (nm:=[zM]) (k:=.lit [125]) rfl nofun) (.word .rb)
 have j:=Rd.one (ov:=false) (.fin (f:=⟨wIf,na,[litL s],[litP [125]]⟩) (g:=⟨[],[],[],[.tp [.str zH,.str zM,fl [litP (s++s)]]]⟩) (st:=[]) (nm:=[zM])) (.word .fin)
 exact((((a.app b).app b2).app (c.app d)).app f).app ((g.app i).app j)
end
theorem KN (a b:Lc):spell (a++b)=spell a++spell b:=by unfold spell;rw [gz]
theorem sh1 {n:Nat}{p:T}(h:Sh n p):LsB (Sh n) [p]:=⟨by simp,fun q hq=>by rw [uj.mp hq];exact h⟩
theorem sh2 {n:Nat}{p q:T}(h:Sh n p)(k:Sh n q):LsB (Sh n) [p,q]:=⟨by simp,fun r hr=>by
 rcases uh.mp hr with rfl | hr
 ·exact h
 ·rw [uj.mp hr];exact k⟩
theorem zca {tt:Sl->Sl->(Bool->KP)->Prop}{fe:Sl->Sl->KP->Prop}{s τ s1 τ1:Sl}{K:List T->KP}(I:Nat->List T->Prop)(e1:mapO (shN 1) s=some s1)(e2:mapO (shN 1) τ=some τ1)(e3:mapO (unN 1) s1=some s)(e4:mapO (unN 1) τ1=some τ) :
  ∀ {ds acc:List T} {i:Nat},I i acc->(∀ d∈ds,∀ K:Bool->KP,K true (.own d::s1) τ1->tt (.own d::s1) τ1 K)->(∀ j d acc (K':KP),ds[j]? = some d->I (i+j) acc->(∀ t,I (i+j+1) (acc++[t])->K' (.own d::s1) (.own t::τ1))->fe (.own d::s1) τ1 K')->acc.length+ds.length<=16777216->(∀ acc,I (i+ds.length) acc->K acc s τ)->Qk 1 tt fe ds acc s τ K
 | [],acc,i,h0,_,_,_,h=>h acc h0
 | d::ds,acc,i,h0,ht,hf,hl,h=>by
  rw [ua] at hl
  refine zd e1 (zd e2 (ht d ui _ (hf 0 d acc _ rfl h0 fun t hI=>⟨by lia,zd e3 (zd e4 ?_)⟩)))
  refine zca I e1 e2 e3 e4 (i:=i+1) hI (fun b hb=>ht b (uk _ hb)) (fun j e a K' he h2 hK=>?_) ?_ fun a ha=>h a ?_
  ·exact hf (j+1) e a K' he (by rw [show i+(j+1)=i+1+j by lia];exact h2) fun t ht=>hK t (by rw [show i+1+j+1=i+(j+1)+1 by lia];exact ht)
  ·rw [ub,ua,ud];lia
  ·rw [ua,show i+(ds.length+1)=i+1+ds.length by lia];exact ha
theorem k7:∀ ns:List Int,shrs (ns.map T.int)=true
 | []=>rfl
 | _::ns=>k7 ns
theorem zdB {α β:Type}(f:α->β)(xs:List α)(a b:Option Int):cutL (xs.map f) a b=(cutL xs a b).map f:=by
 unfold cutL
 rw [ug,List.map_take,List.map_drop]
theorem zdC {α:Type}(xs:List α)(a b:Option Int):(cutL xs a b).length<=xs.length:=by
 unfold cutL
 rw [Uc,u6];lia
theorem zcb {ns:List Int}{a b:Int}:opF (.sl true true) [.ks true (ns.map .int),.int a,.int b]=some (.nd true .ls ((cutL ns (some a) (some b)).map .int)):=by
 show orO (cond (shrs (ns.map T.int)) (some (T.nd true .ls (cutL (ns.map T.int) (some a) (some b)))) none) _=_
 rw [k7,zdB];rfl
theorem zdD (s:Lc):cutL [litP s] none (some (s.length:Int))=litL s:=by
 unfold litL cutL
 rw [HT.sIx_nat,HT.sIx_none]
 cases s with
 | nil=>rfl
 | cons c s=>rw [uq (by simp)];simp
theorem single (l:Lc):(l.map fun c=>[c]).flatten=l:=by
 induction l with
 | nil=>rfl
 | cons c l ih=>rw [ur,List.flatten_cons,ih];rfl
theorem kx (s:Lc):frzs (litL s)=litL s:=by unfold litL;split<;>rfl
theorem XN (s:Lc):(litL s).length<=1:=by unfold litL;split<;>simp
theorem LsB.app {R:T->Prop}{a b:List T}(h:LsB R a)(k:LsB R b)(hl:a.length+b.length<=100000):LsB R (a++b):=⟨by rw [ub];exact hl,fun p hp=>(uC.mp hp).elim (h.2 p) (k.2 p)⟩
theorem zgI:Reads .non (br (wIf++32::na)++br wEnd) [.tp [.str wIf,.str na,fl [],fl []]]:=by
 refine .inl ⟨rfl,[],?_⟩
 have a:=Rd.one (ov:=false) (.op (st:=[root]) (nm:=[]) (w:=wIf) (n:=na) (by decide) (by simp) (.inr (.inl rfl)) nofun (fun z=>absurd z (by decide))) (.word (.op1 (.inr rfl) XM))
 have c:=Rd.one (ov:=false) (.fin (f:=⟨wIf,na,[],[]⟩) (g:=root) (st:=[]) (nm:=[])) (.word .fin)
 exact a.app c
theorem XO {l l':Lc}{us:List T}{p:T}(h:Reads .non l us)(hs:LsB (Sh 12) us)(ht:txPs us=l)(hl:l.length<=2000)(hp:p=fl us)(e:l' = l)(q:Q (.bl true) [.non,.non]):zD [.str l',p] Q X:=by
 subst hp e
 exact YL h hs (uf _) ht hl q
theorem zdE (ns:List Int)(hns:ns.length<=63):fnD [.mv] 6 YD [.ks true (ns.map .int)] (fun t _=>t=.bl true) (fun _ _=>False):=by
 refine⟨rfl,?_⟩
 refine zd zcb ?_
 have ls:=zdC ns (some 2) (some 62)
 generalize cutL ns (some 2) (some 62)=cs at ls
 refine zd (Wm (k7 cs)) ?_
 refine zca (fun j acc=>∃ l:Lc,acc=l.map (fun c=>.str [c])/\l.length=j/\∀ c∈l,c∈SG) rfl rfl rfl rfl ⟨[],rfl,rfl,nofun⟩ (fun _ _ K h=>h) (fun j d acc K hd hI hK=>?_) (by rw [ug];simp only [ud];lia) fun acc hI=>?_
 ·obtain⟨l,rfl,hl,hs⟩:=hI
  rw [uv] at hd
  obtain⟨c,hc,rfl⟩:=uu.mp hd
  refine zdz fun r=>zdA fun c hc=>?_
  exact hK _ ⟨l++[c],by rw [uD];rfl,by rw [ub,hl];rfl,fun x hx=>(uC.mp hx).elim (hs x) fun z=>by rw [uj.mp z];exact hc⟩
 ·obtain⟨l,rfl,hl,hs⟩:=hI
  have hl:l.length<=63:=by rw [ug] at hl;simp only [ud] at hl;lia
  refine zd (WH (f:=fun c=>[c]) (xs:=l) (by rw [single];lia)) ?_
  rw [single]
  refine VC (by lia) ?_
  have sl:=kZ l
  have e1:frz (ol (litL l))=fl (litL l):=by show fl (frzs (litL l))=_;rw [kx]
  show zD [.str (spell l),frz (ol (cutL [litP l] none (some (l.length:Int))))] _ _
  rw [zdD,e1]
  refine YL (n:=12) (zgD hs) (VD (by lia)) (by lia) (QM l) (by lia) ?_
  refine zd (zL (by simp only [ua,ud];lia)) ?_
  refine zd (zL (by simp only [ub,ua,ud];lia)) ?_
  have ll:LsB (Sh 11) (litL l):=VD (by lia)
  have t1:∀ (p:T) (ps:List T),txPs (p::ps)=txP p++txPs ps:=fun p ps=>by rw [txPs]
  have t0:txPs []=[]:=by rw [txPs]
  have sa:Sm na:=by decide
  have b3:∀ (w n:Lc) (ps:List T),txP (.tp [.str w,.str n,fl ps])=br (w++32::n)++(txPs ps++br wEnd):=fun w n ps=>by rw [txP]
  have b4:∀ (w n:Lc) (ps qs:List T),txP (.tp [.str w,.str n,fl ps,fl qs])=br (w++32::n)++(txPs ps++((if qs.isEmpty=true then [] else br w6++txPs qs)++br wEnd)):=fun w n ps qs=>by rw [txP]
  have b2:∀ n:Lc,txP (vI n)=br n:=fun n=>by rw [txP];rfl
  refine XO (zgE hs) (sh1 (.blk (.inl rfl) sa ll)) ?_ ?_ ?_ rfl ?_
  ·rw [t1,t0,b3,QM];simp
  ·unfold br;simp only [ub,ua,ud];lia
  ·show fl (frzs [.tp [.str zM,.str na,fl (litL l)]])=_
   show fl [.tp [.str zM,.str na,fl (frzs (litL l))]]=_
   rw [kx]
  refine zd (zL (by simp only [ua,ud];lia)) ?_
  refine zd (zL (by simp only [ub,ua,ud];lia)) ?_
  refine zd (YC (by have:=ll.1;simp only [ua,ud];lia) rfl (Sh.ls ll.2).sh) ?_
  refine zd (YC (by have:=ll.1;simp only [ub,ua,ud];lia) (Qm (xs:=[vI na]) rfl (Sh.ls ll.2).sh) rfl) ?_
  refine XO (zgF hs) (((sh1 (.hole sa)).app (VD (by lia)) ?_).app (sh1 (.hole (by decide))) ?_) ?_ ?_ ?_ rfl ?_
  ·have:=XN l;simp only [ua,ud];lia
  ·have:=XN l;simp only [ub,ua,ud];lia
  ·rw [XI,XI,t1,t1,t0,b2,b2,QM];simp
  ·unfold br;simp only [ub,ua,ud];lia
  ·show fl (frzs ([vI na]++litL l++[vI nb]))=_
   rw [qZ,uD,uD,← qZ,← qZ,← qZ,kx];rfl
  refine jh (fun h=>?_) (fun h=>?_)
  ·refine XO zgI (sh1 (.ife sa ⟨uF _,nofun⟩ ⟨uF _,nofun⟩)) ?_ (by decide) rfl rfl rfl
   rw [t1,t0,b4,t0];rfl
  ·have ne:l≠[]:=uW h
   have li:(litL l).isEmpty=false:=by unfold litL;rw [uq ne];rfl
   refine zd (zL (by simp only [ua,ud];lia)) ?_
   refine zd (zL (by simp only [ub,ua,ud];lia)) ?_
   refine XO (zgG hs ne) (sh1 (.ife sa ⟨uF _,nofun⟩ ll)) ?_ ?_ ?_ rfl ?_
   ·rw [t1,t0,b4,QM,t0,li];simp
   ·unfold br;simp only [ub,ua,ud];lia
   ·show fl [.tp [.str wIf,.str na,fl [],fl (frzs (litL l))]]=_
    rw [kx]
   refine zd (zL (by lia)) ?_
   refine zd (zL (by simp only [ua,ud];lia)) ?_
   refine zd (zL (by simp only [ub,ua,ud];lia)) ?_
   refine zd (zL (by simp only [ub,ua,ud];lia)) ?_
   refine zd (zL (by simp only [ub,ua,ud];lia)) ?_
   refine zd (zL (by simp only [ub,ua,ud];lia)) ?_
   refine XO (zgH hs ne) (sh2 (.blk (.inr rfl) (by decide) (sh1 (.lit ?_))) (.ife sa ll (sh1 (.lit (by decide))))) ?_ ?_ ?_ rfl rfl
   ·show(l++l).length<=_;rw [ub];lia
   ·have tl:∀ s:Lc,txP (litP s)=spell s:=fun s=>by rw [txP];rfl
    rw [t1,t1,t0,b3,b4,QM,t1,t0,t1,t0,tl,tl,KN,List.isEmpty_cons,uq (by decide)]
    simp only [uc,uw,UE]
    rfl
   ·unfold br;simp only [ub,ua,ud];lia
   ·show fl [.tp [.str zH,.str zM,fl [litP (l++l)]],.tp [.str wIf,.str na,fl (frzs (litL l)),fl [litP [125]]]]=_
    rw [kx]
end
structure Txt (W:Wd):Prop where
 d_LITERAL_BRACES:KGet W "LITERAL_BRACES" jb
 g_SIGNS:GlV W "SIGNS" g_SIGNS
 g_LETTERS:GlV W "LETTERS" g_LETTERS
 g_LONGEST_NAME:GlV W "LONGEST_NAME" g_LONGEST_NAME
 g_MOST_SIGNS:GlV W "MOST_SIGNS" g_MOST_SIGNS
 g_MOST_OPENED:GlV W "MOST_OPENED" g_MOST_OPENED
 g_BRACE_WORDS:GlV W "BRACE_WORDS" g_BRACE_WORDS
 d_LONE_TOKENS:KGet W "LONE_TOKENS" xg
 g_OPENERS:GlV W "OPENERS" g_OPENERS
 z_all:W.mg "all" = none
 z_enumerate:W.mg "enumerate" = none
 z_isinstance:W.mg "isinstance" = none
 z_len:W.mg "len" = none
 z_list:W.mg "list" = none
 z_str:W.mg "str" = none
 z_tuple:W.mg "tuple" = none
 a_0_over:Cls W.K (W.cl 0)/\qM W.K (W.cl 0) "over"
 a_0_pieces:Cls W.K (W.cl 0)/\qM W.K (W.cl 0) "pieces"
 a_1_branches:Cls W.K (W.cl 1)/\qM W.K (W.cl 1) "branches"
 a_1_name:Cls W.K (W.cl 1)/\qM W.K (W.cl 1) "name"
 a_1_word:Cls W.K (W.cl 1)/\qM W.K (W.cl 1) "word"
 a_2_named:Cls W.K (W.cl 2)/\qM W.K (W.cl 2) "named"
 a_2_opened:Cls W.K (W.cl 2)/\qM W.K (W.cl 2) "opened"
 a_2_over:Cls W.K (W.cl 2)/\qM W.K (W.cl 2) "over"
section
variable {W:Wd}
theorem zeg {k:Nat}{x:Str}{st:Stmt}{ps N:Lh}{ms:List Md}(D:Df W.K W.mg x st ps)(Sc:zi N ps (zb st))(hn:ms.length=ps.length):OkX W.P W.w W.K W.mg W.base (k+1) x ps (SpM W ms fun _ _ _=>False):=
 D.okX Sc (fun vs H Q E h=>(Vu h).trans hn) (fun f cdv A outer s H vs Q E hr h=>by
  obtain⟨_,_,_,_,_,_,_,_,po,_⟩:=h
  exact po.elim)
local macro_rules | `(tactic| walk_at "need") => `(tactic| repeat' (first | exact trivial | (refine ⟨_, _, ?_, by assumption⟩; omega) | exact Txt.z_all (by assumption) | exact Txt.z_enumerate (by assumption) | exact Txt.z_isinstance (by assumption) | exact Txt.z_len (by assumption) | exact Txt.z_list (by assumption) | exact Txt.z_str (by assumption) | exact Txt.z_tuple (by assumption) | exact Txt.d_LITERAL_BRACES (by assumption) | exact Txt.g_SIGNS (by assumption) | exact Txt.g_LETTERS (by assumption) | exact Txt.g_LONGEST_NAME (by assumption) | exact Txt.g_MOST_SIGNS (by assumption) | exact Txt.g_MOST_OPENED (by assumption) | exact Txt.g_BRACE_WORDS (by assumption) | exact Txt.d_LONE_TOKENS (by assumption) | exact Txt.g_OPENERS (by assumption) | exact Txt.a_0_over (by assumption) | exact Txt.a_0_pieces (by assumption) | exact Txt.a_1_branches (by assumption) | exact Txt.a_1_name (by assumption) | exact Txt.a_1_word (by assumption) | exact Txt.a_2_named (by assumption) | exact Txt.a_2_opened (by assumption) | exact Txt.a_2_over (by assumption) | (refine gu.mpr ⟨?_, ?_⟩) | exact List.forall_mem_nil _ | refine ⟨?_, ?_⟩))
section
variable (W:Wd)
abbrev vK:=OkX W.P W.w W.K W.mg W.base 1 "_law_mixed" jV (SpM W [.mv,.mv] qB)
abbrev yF:=OkX W.P W.w W.K W.mg W.base 2 "_law_rest" wo (SpM W [.mv] qW)
abbrev xl:=OkX W.P W.w W.K W.mg W.base 1 "_law_spelled" jq (SpM W [.mv] z9)
abbrev vL:=OkX W.P W.w W.K W.mg W.base 1 "_law_signs" jW (SpM W [] jc)
abbrev yG:=OkX W.P W.w W.K W.mg W.base 2 "_law_sign" wq (SpM W [.mv] qX)
abbrev xT:=OkX W.P W.w W.K W.mg W.base 1 "braced" vT (SpM W [.mv] qr)
abbrev qL:=OkX W.P W.w W.K W.mg W.base 1 "literal_text" jr (SpM W [.mv] qa)
abbrev ky:=OkX W.P W.w W.K W.mg W.base 122 "pieces_text" zQ (SpM W [.mv] (zg 40))
abbrev vM:=OkX W.P W.w W.K W.mg W.base 123 "sheet_text" jX (SpM W [.mv] zY)
abbrev YM:=OkX W.P W.w W.K W.mg W.base 41 "copied" wz (SpM W [.mv] (qt 40))
abbrev jt:=OkMk W 42 (W.cl 0) "Sheet" qN (SpM W [.mu,.mv,.mv] zA)
abbrev yH:=OkX W.P W.w W.K W.mg W.base 1 "need_text" wt (SpM W [.mv] qY)
abbrev je:=OkMk W 1 (W.cl 1) "Opened" qz (SpM W [.mu,.mv,.mv] zu)
abbrev wg:=OkMk W 3 (W.cl 2) "Draft" qO (SpM W [.mu] zN)
abbrev jM:=OkMt W 1 (W.cl 1) "add_piece" ql (SpM W [.mu,.mv] zz)
abbrev qE:=OkMt W 1 (W.cl 1) "takes_else" qg (SpM W [.mu] zp)
abbrev xm:=OkMt W 2 (W.cl 1) "whole" js (SpM W [.mu] qb)
abbrev qQ:=OkMt W 1 (W.cl 2) "is_outside" qm (SpM W [.mu] zm)
abbrev jU:=OkMt W 2 (W.cl 2) "can_stand" qA (SpM W [.mu,.mv,.mv] zq)
abbrev jy:=OkMt W 3 (W.cl 2) "begin_piece" qi (SpM W [.mu,.mv,.mv] zB)
abbrev vN:=OkMt W 4 (W.cl 2) "take" jY (SpM W [.mu,.mv,.mv] zZ)
abbrev xU:=OkMt W 44 (W.cl 2) "ended" jI (SpM W [.mu,.mv] qk)
abbrev kz:=OkX W.P W.w W.K W.mg W.base 1 "is_name" xM (SpM W [.mv] jd)
abbrev xV:=OkX W.P W.w W.K W.mg W.base 2 "is_own_name" jJ (SpM W [.mv] z0)
abbrev k8:=OkX W.P W.w W.K W.mg W.base 3 "token_of" wY (SpM W [.mv] zO)
abbrev k9:=OkX W.P W.w W.K W.mg W.base 4 "token_at" wZ (SpM W [.mv,.mv] qC)
abbrev vO:=OkX W.P W.w W.K W.mg W.base 45 "sheet_read" jZ (SpM W [.mv] qD)
abbrev yI:=OkX W.P W.w W.K W.mg W.base 124 "_law_told" wu (SpM W [.mv,.mv] zD)
end
theorem WJ (T:Txt W)(D:Df W.K W.mg "_law_mixed" jE jV):vK W:=by
 unfold vK qB
 exact jD (W:=W) (k:=0) D QX Ww rfl (by decide) (by unfold xN;walk_at "need")
theorem XQ (T:Txt W)(D:Df W.K W.mg "_law_rest" j8 wo)(F1:vK W):yF W:=by
 unfold yF qW
 exact jD (W:=W) (k:=1) D Wq Xx rfl (by decide) (by unfold vC;walk_at "need")
theorem QN (T:Txt W)(D:Df W.K W.mg "_law_spelled" qS jq):xl W:=by
 unfold xl z9
 exact jD (W:=W) (k:=0) D ZC QG rfl (by decide) (by unfold wN;walk_at "need")
theorem WK (T:Txt W)(D:Df W.K W.mg "_law_signs" jF jW):vL W:=by
 unfold vL jc
 exact jD (W:=W) (k:=0) D QY Wx rfl (by decide) (by unfold xO;walk_at "need")
theorem XR (T:Txt W)(D:Df W.K W.mg "_law_sign" j9 wq)(F1:vL W):yG W:=by
 unfold yG qX
 exact jD (W:=W) (k:=1) D Wr Xy rfl (by decide) (by unfold vD;walk_at "need")
theorem KQ (T:Txt W)(D:Df W.K W.mg "braced" vw vT):xT W:=by
 unfold xT qr
 exact jD (W:=W) (k:=0) D KG zbS rfl (by decide) (by unfold QD;walk_at "need")
theorem ZF (T:Txt W)(D:Df W.K W.mg "literal_text" qT jr):qL W:=by
 unfold qL qa
 exact jD (W:=W) (k:=0) D ZD QH rfl (by decide) (by unfold wO;walk_at "need")
theorem Q8 (T:Txt W)(D:Df W.K W.mg "else_text" qU qx){P:Fn}{k:Nat}(hk:2<=k)(Fh:OkX W.P W.w W.K W.mg W.base k "pieces_text" zQ (SpM W [.mv] P))(F1:xT W)(F2:qL W):OkX W.P W.w W.K W.mg W.base (k+1) "else_text" qx (SpM W [.mv] (qj P)):=by
 unfold qj
 exact jD (W:=W) (k:=k+0) D Ws Xz rfl (by decide) (by unfold vE;walk_at "need")
theorem QO (T:Txt W)(D:Df W.K W.mg "piece_text" qy qJ){P:Fn}{k:Nat}(hk:2<=k)(Fh:OkX W.P W.w W.K W.mg W.base k "pieces_text" zQ (SpM W [.mv] P))(M0:OkX W.P W.w W.K W.mg W.base (k+1) "else_text" qx (SpM W [.mv] (qj P)))(F1:xT W)(F2:qL W):OkX W.P W.w W.K W.mg W.base (k+2) "piece_text" qJ (SpM W [.mv] (zX P)):=by
 unfold zX
 exact jD (W:=W) (k:=k+1) D QZ Wy rfl (by decide) (by unfold xP;walk_at "need")
theorem vd (T:Txt W)(D:Df W.K W.mg "pieces_text" qK zQ)(D0:Df W.K W.mg "else_text" qU qx)(D1:Df W.K W.mg "piece_text" qy qJ)(F1:xT W)(F2:qL W):∀ n,OkX W.P W.w W.K W.mg W.base (3 * n+2) "pieces_text" zQ (SpM W [.mv] (zg n))
 | 0=>by rw [zg];exact zeg D vy rfl
 | n+1=>by
  have Fh:=vd T D D0 D1 F1 F2 n
  have M0:=Q8 T D0 (by lia) Fh F1 F2
  have M1:=QO T D1 (by lia) Fh M0 F1 F2
  rw [zg,show 3 * (n+1)+2=3 * n+4+1 by lia]
  exact jD (W:=W) (k:=3 * n+4) D vy Q3 rfl (by decide) (by unfold xh;walk_at "need")
theorem QP (T:Txt W)(D:Df W.K W.mg "pieces_text" qK zQ)(D0:Df W.K W.mg "else_text" qU qx)(D1:Df W.K W.mg "piece_text" qy qJ)(F1:xT W)(F2:qL W):ky W:=vd T D D0 D1 F1 F2 40
theorem Q9 (T:Txt W)(D:Df W.K W.mg "sheet_text" jG jX)(F1:xT W)(F2:ky W):vM W:=by
 unfold vM zY
 exact jD (W:=W) (k:=122) D Q0 Wz rfl (by decide) (by unfold xQ;walk_at "need")
theorem QQ (T:Txt W)(D:Df W.K W.mg "copied" xA wz):∀ n,OkX W.P W.w W.K W.mg W.base (n+1) "copied" wz (SpM W [.mv] (qt n))
 | 0=>by rw [qt];exact zeg D JE rfl
 | n+1=>by
  have Fr:=QQ T D n
  rw [qt,show n+1+1=n+1+1 by lia]
  exact jD (W:=W) (k:=n+1) D JE zbT rfl (by decide) (by unfold QF;walk_at "need")
theorem KR (T:Txt W)(D:Df W.K W.mg "copied" xA wz):YM W:=QQ T D 40
theorem kA (T:Txt W)(D:Cdf W.K W.mg (W.cl 0) "Sheet" "Sheet.__init__" qp qN)(F1:YM W):jt W:=by
 unfold jt zA
 exact zbM (c:=0) (W:=W) (k:=41) D kg kX rfl (by decide) (by unfold jR;walk_at "need")
theorem WL (T:Txt W)(D:Df W.K W.mg "need_text" wa wt):yH W:=by
 unfold yH qY
 exact jD (W:=W) (k:=0) D Wt XA rfl (by decide) (by unfold vF;walk_at "need")
theorem yJ (T:Txt W)(D:Cdf W.K W.mg (W.cl 1) "Opened" "Opened.__init__" qf qz):je W:=by
 unfold je zu
 exact zbM (c:=1) (W:=W) (k:=0) D yx kl rfl (by decide) (by unfold jL;walk_at "need")
theorem kB (T:Txt W)(D:Cdf W.K W.mg (W.cl 2) "Draft" "Draft.__init__" qq qO)(F1:je W):wg W:=by
 unfold wg zN
 exact zbM (c:=2) (W:=W) (k:=2) D kh kY rfl (by decide) (by unfold jS;walk_at "need")
theorem v9 (T:Txt W)(D:Mdf W.K (W.cl 1) "add_piece" "Opened.add_piece" z7 ql):jM W:=by
 unfold jM zz
 exact Zp (c:=1) (W:=W) (k:=0) D vY yB rfl (by decide) (by unfold jv;walk_at "need")
theorem vP (T:Txt W)(D:Mdf W.K (W.cl 1) "takes_else" "Opened.takes_else" zU qg):qE W:=by
 unfold qE zp
 exact Zp (c:=1) (W:=W) (k:=0) D vz v7 rfl (by decide) (by unfold jj;walk_at "need")
theorem ZG (T:Txt W)(D:Mdf W.K (W.cl 1) "whole" "Opened.whole" qV js)(F1:qE W):xm W:=by
 unfold xm qb
 exact Zp (c:=1) (W:=W) (k:=1) D ZE QI rfl (by decide) (by unfold wQ;walk_at "need")
theorem ya (T:Txt W)(D:Mdf W.K (W.cl 2) "is_outside" "Draft.is_outside" z8 qm):qQ W:=by
 unfold qQ zm
 exact Zp (c:=2) (W:=W) (k:=0) D vZ yC rfl (by decide) (by unfold jw;walk_at "need")
theorem yK (T:Txt W)(D:Mdf W.K (W.cl 2) "can_stand" "Draft.can_stand" qh qA)(F1:qE W)(F2:qQ W):jU W:=by
 unfold jU zq
 exact Zp (c:=2) (W:=W) (k:=1) D yy km rfl (by decide) (by unfold qP;walk_at "need")
theorem vQ (T:Txt W)(D:Mdf W.K (W.cl 2) "begin_piece" "Draft.begin_piece" zV qi)(F1:je W):jy W:=by
 unfold jy zB
 exact Zp (c:=2) (W:=W) (k:=2) D vB v8 rfl (by decide) (by unfold jk;walk_at "need")
theorem Ja (T:Txt W)(D:Mdf W.K (W.cl 2) "take" "Draft.take" jH jY)(F1:jM W)(F2:xm W)(F3:jU W)(F4:jy W):vN W:=by
 unfold vN zZ
 exact Zp (c:=2) (W:=W) (k:=3) D Q1 WA rfl (by decide) (by unfold xR;walk_at "need")
theorem QR (T:Txt W)(D:Mdf W.K (W.cl 2) "ended" "Draft.ended" jm jI)(F1:jt W)(F2:qQ W):xU W:=by
 unfold xU qk
 exact Zp (c:=2) (W:=W) (k:=43) D Qz Q5 rfl (by decide) (by unfold xi;walk_at "need")
theorem VE (T:Txt W)(D:Df W.K W.mg "is_name" xD xM):kz W:=by
 unfold kz jd
 exact jD (W:=W) (k:=0) D Vw KI rfl (by decide) (by unfold kW;walk_at "need")
theorem QS (T:Txt W)(D:Df W.K W.mg "is_own_name" jn jJ)(F1:kz W):xV W:=by
 unfold xV z0
 exact jD (W:=W) (k:=1) D QA Q6 rfl (by decide) (by unfold xj;walk_at "need")
theorem XT (T:Txt W)(D:Df W.K W.mg "token_of" wL wY)(F1:kz W)(F2:xV W):k8 W:=by
 unfold k8 zO
 exact jD (W:=W) (k:=2) D Xu Vx rfl (by decide) (by unfold yz;walk_at "need")
theorem XU (T:Txt W)(D:Df W.K W.mg "token_at" wM wZ)(F1:k8 W):k9 W:=by
 unfold k9 qC
 exact jD (W:=W) (k:=3) D Xv Vy rfl (by decide) (by unfold yA;walk_at "need")
theorem Jb (T:Txt W)(D:Df W.K W.mg "sheet_read" jK jZ)(F1:yH W)(F2:wg W)(F3:vN W)(F4:xU W)(F5:k9 W):vO W:=by
 unfold vO qD
 exact jD (W:=W) (k:=44) D Q2 WC rfl (by decide) (by unfold xS;walk_at "need")
theorem XW (T:Txt W)(D:Df W.K W.mg "_law_told" wb wu)(F1:vM W)(F2:jt W)(F3:vO W):yI W:=by
 unfold yI zD
 exact jD (W:=W) (k:=123) D Wu XB rfl (by decide) (by unfold vG;walk_at "need")
theorem zgJ (T:Txt W)(D:Df W.K W.mg "law" Xw Wv)(F1:yF W)(F2:xl W)(F3:yG W)(F4:yI W):OkF W.P W.w W.K W.mg W.base 125 "law" Wv (Xo W.K):=
 zgm (W:=W) (k:=124) D zgs (by decide) zhT (by unfold YD;walk_at "need") fun ns h=>zdE ns h
end
end My
set_option maxHeartbeats 0
open PySem L2 L5 PySem.Spec PyProof.Rows
namespace My
noncomputable def clA:Nat->Addr
 | 0=>189
 | 1=>231
 | 2=>287
 | _=>0
noncomputable abbrev wd (P:Program)(w:World)(K:Le)(mg:La)(base:Heap):Wd:=⟨K,clA,mg,P,w,base⟩
theorem len0 {α:Type}{us:List α}(h:us.length=0):us=[]:=Ga.mp h
theorem len1 {α:Type}:∀ {us:List α},us.length=1->∃ a0,us=[a0]
 | [a0],_=>⟨a0,rfl⟩
theorem len2 {α:Type}:∀ {us:List α},us.length=2->∃ a0 a1,us=[a0,a1]
 | [a0,a1],_=>⟨a0,a1,rfl⟩
theorem len3 {α:Type}:∀ {us:List α},us.length=3->∃ a0 a1 a2,us=[a0,a1,a2]
 | [a0,a1,a2],_=>⟨a0,a1,a2,rfl⟩
theorem dfm {K:Le}{mg:La}{h:Heap}{x:Str}{st:Stmt}{ps:Lh}{f cd:Addr}{pm:Value}(X:K.In h)(G:h.Ns mainGlobals mg)
  (b:∀ (kV doc pm:Value) (an:Option Addr) (cdv ct:Value) (us:Lf),us.length=ps.length->bindArgs (PySem.W.fnOf x x (q9 st) (zf st) (zb st) .none kV doc pm an cdv ct) ⟨us,[]⟩=pure (ps.zip us))
  (a:PySem.W.nsIn K mainGlobals x=some (some (.ref f))) (l:K.lookup f=some ⟨.type "function",none,.func (PySem.W.fnOf x x (q9 st) (zf st) (zb st) .none .none .none pm none (.ref cd) .none),#[]⟩)
  (c:PySem.W.codeIn K (.ref cd) x=true) (k:PySem.W.keepIn K (.ref f)=true):Df K mg x st ps:=zhc X G b a l c k
theorem mdfm {K:Le}{C:Addr}{m x:Str}{st:Stmt}{ps:Lh}{f cd:Addr}{pm:Value}
  (b:∀ (kV doc pm:Value) (an:Option Addr) (cdv ct:Value) (us:Lf),us.length=ps.length->bindArgs (PySem.W.fnOf m x (q9 st) (zf st) (zb st) .none kV doc pm an cdv ct) ⟨us,[]⟩=pure (ps.zip us))
  (l:K.lookup f=some ⟨.type "function",none,.func (PySem.W.fnOf m x (q9 st) (zf st) (zb st) .none .none .none pm none (.ref cd) .none),#[]⟩)
  (c:PySem.W.codeIn K (.ref cd) x=true) (k:PySem.W.keepIn K (.ref f)=true) (cl:Cls K C) (mt:Meth K C m f):Mdf K C m x st ps:=⟨f,_,kG l c k,(kG l c k).binds b,cl,mt⟩
theorem cdfm {K:Le}{mg:La}{h:Heap}{C:Addr}{y x:Str}{st:Stmt}{ps:Lh}{f cd:Addr}{pm:Value}(X:K.In h)(G:h.Ns mainGlobals mg)
  (b:∀ (kV doc pm:Value) (an:Option Addr) (cdv ct:Value) (us:Lf),us.length=ps.length->bindArgs (PySem.W.fnOf "__init__" x (q9 st) (zf st) (zb st) .none kV doc pm an cdv ct) ⟨us,[]⟩=pure (ps.zip us))
  (l:K.lookup f=some ⟨.type "function",none,.func (PySem.W.fnOf "__init__" x (q9 st) (zf st) (zb st) .none .none .none pm none (.ref cd) .none),#[]⟩)
  (c:PySem.W.codeIn K (.ref cd) x=true) (k:PySem.W.keepIn K (.ref f)=true) (a:PySem.W.nsIn K mainGlobals y=some (some (.ref C))) (mk:Mk K C f):Cdf K mg C y x st ps:=⟨f,_,kG l c k,(kG l c k).binds b,mk,Ua X G a⟩
theorem all_ok {l:PySem.W.OpenLaw}{w:World}{h:Heap}{mg:La}{fa:Addr}(X:(KH w.params).In h)(G:h.Ns mainGlobals mg)(hfa:mg "law" = some (.ref fa)) :
  ∃ fd:FuncData,(∀ (s:Shared) (v:Value),BindsTo s fd ⟨[v],[]⟩ [("_law_script",v)])/\∀ base:Heap,(KH w.params).In base->base.Ns mainGlobals mg->FnOk l.prog w (KH w.params) mg base CX0 125 fa fd ["_law_script"] (Xo (KH w.params)):=by
 have C_Draft:Cls (KH w.params) 287:=⟨by kernel_rfl!,by kernel_rfl!,by kernel_rfl!,by kernel_rfl!⟩
 have C_Opened:Cls (KH w.params) 231:=⟨by kernel_rfl!,by kernel_rfl!,by kernel_rfl!,by kernel_rfl!⟩
 have C_Sheet:Cls (KH w.params) 189:=⟨by kernel_rfl!,by kernel_rfl!,by kernel_rfl!,by kernel_rfl!⟩
 have D_braced:Df (KH w.params) mg "braced" vw vT:=dfm (f:=22) (pm:=(.str "sealpress.sheettexts" 187)) (cd:=21) X G (fun _ _ _ _ _ _ us hl=>by obtain⟨_,rfl⟩:=len1 hl;rfl) (by kernel_rfl!) (by kernel_rfl!) (by kernel_rfl!) (by kernel_rfl!)
 have D_literal_text:Df (KH w.params) mg "literal_text" qT jr:=dfm (f:=27) (pm:=(.str "sealpress.sheettexts" 187)) (cd:=26) X G (fun _ _ _ _ _ _ us hl=>by obtain⟨_,rfl⟩:=len1 hl;rfl) (by kernel_rfl!) (by kernel_rfl!) (by kernel_rfl!) (by kernel_rfl!)
 have D_else_text:Df (KH w.params) mg "else_text" qU qx:=dfm (f:=34) (pm:=(.str "sealpress.sheettexts" 187)) (cd:=33) X G (fun _ _ _ _ _ _ us hl=>by obtain⟨_,rfl⟩:=len1 hl;rfl) (by kernel_rfl!) (by kernel_rfl!) (by kernel_rfl!) (by kernel_rfl!)
 have D_piece_text:Df (KH w.params) mg "piece_text" qy qJ:=dfm (f:=41) (pm:=(.str "sealpress.sheettexts" 187)) (cd:=40) X G (fun _ _ _ _ _ _ us hl=>by obtain⟨_,rfl⟩:=len1 hl;rfl) (by kernel_rfl!) (by kernel_rfl!) (by kernel_rfl!) (by kernel_rfl!)
 have D_pieces_text:Df (KH w.params) mg "pieces_text" qK zQ:=dfm (f:=46) (pm:=(.str "sealpress.sheettexts" 187)) (cd:=45) X G (fun _ _ _ _ _ _ us hl=>by obtain⟨_,rfl⟩:=len1 hl;rfl) (by kernel_rfl!) (by kernel_rfl!) (by kernel_rfl!) (by kernel_rfl!)
 have D_sheet_text:Df (KH w.params) mg "sheet_text" jG jX:=dfm (f:=53) (pm:=(.str "sealpress.sheettexts" 187)) (cd:=52) X G (fun _ _ _ _ _ _ us hl=>by obtain⟨_,rfl⟩:=len1 hl;rfl) (by kernel_rfl!) (by kernel_rfl!) (by kernel_rfl!) (by kernel_rfl!)
 have D_copied:Df (KH w.params) mg "copied" xA wz:=dfm (f:=140) (pm:=(.str "sealpress.pieces" 351)) (cd:=139) X G (fun _ _ _ _ _ _ us hl=>by obtain⟨_,rfl⟩:=len1 hl;rfl) (by kernel_rfl!) (by kernel_rfl!) (by kernel_rfl!) (by kernel_rfl!)
 have D_is_name:Df (KH w.params) mg "is_name" xD xM:=dfm (f:=152) (pm:=(.str "sealpress.signs" 369)) (cd:=151) X G (fun _ _ _ _ _ _ us hl=>by obtain⟨_,rfl⟩:=len1 hl;rfl) (by kernel_rfl!) (by kernel_rfl!) (by kernel_rfl!) (by kernel_rfl!)
 have D_need_text:Df (KH w.params) mg "need_text" wa wt:=dfm (f:=159) (pm:=(.str "sealpress.signs" 369)) (cd:=158) X G (fun _ _ _ _ _ _ us hl=>by obtain⟨_,rfl⟩:=len1 hl;rfl) (by kernel_rfl!) (by kernel_rfl!) (by kernel_rfl!) (by kernel_rfl!)
 have D_Sheet___init__:Cdf (KH w.params) mg 189 "Sheet" "Sheet.__init__" qp qN:=cdfm (f:=181) (pm:=(.str "sealpress.sheets" 392)) (cd:=180) X G (fun _ _ _ _ _ _ us hl=>by obtain⟨_,_,_,rfl⟩:=len3 hl;rfl) (by kernel_rfl!) (by kernel_rfl!) (by kernel_rfl!) (by kernel_rfl!) ⟨by kernel_rfl!,by kernel_rfl!,by kernel_rfl!,by kernel_rfl!⟩
 have D_Opened___init__:Cdf (KH w.params) mg 231 "Opened" "Opened.__init__" qf qz:=cdfm (f:=207) (pm:=(.str "sealpress.sheets" 392)) (cd:=206) X G (fun _ _ _ _ _ _ us hl=>by obtain⟨_,_,_,rfl⟩:=len3 hl;rfl) (by kernel_rfl!) (by kernel_rfl!) (by kernel_rfl!) (by kernel_rfl!) ⟨by kernel_rfl!,by kernel_rfl!,by kernel_rfl!,by kernel_rfl!⟩
 have D_Opened_add_piece:Mdf (KH w.params) 231 "add_piece" "Opened.add_piece" z7 ql:=mdfm (f:=214) (pm:=(.str "sealpress.sheets" 392)) (cd:=213) (fun _ _ _ _ _ _ us hl=>by obtain⟨_,_,rfl⟩:=len2 hl;rfl) (by kernel_rfl!) (by kernel_rfl!) (by kernel_rfl!) C_Opened ⟨by kernel_rfl!,by kernel_rfl!,by kernel_rfl!⟩
 have D_Opened_takes_else:Mdf (KH w.params) 231 "takes_else" "Opened.takes_else" zU qg:=mdfm (f:=221) (pm:=(.str "sealpress.sheets" 392)) (cd:=220) (fun _ _ _ _ _ _ us hl=>by obtain⟨_,rfl⟩:=len1 hl;rfl) (by kernel_rfl!) (by kernel_rfl!) (by kernel_rfl!) C_Opened ⟨by kernel_rfl!,by kernel_rfl!,by kernel_rfl!⟩
 have D_Opened_whole:Mdf (KH w.params) 231 "whole" "Opened.whole" qV js:=mdfm (f:=228) (pm:=(.str "sealpress.sheets" 392)) (cd:=227) (fun _ _ _ _ _ _ us hl=>by obtain⟨_,rfl⟩:=len1 hl;rfl) (by kernel_rfl!) (by kernel_rfl!) (by kernel_rfl!) C_Opened ⟨by kernel_rfl!,by kernel_rfl!,by kernel_rfl!⟩
 have D_Draft___init__:Cdf (KH w.params) mg 287 "Draft" "Draft.__init__" qq qO:=cdfm (f:=249) (pm:=(.str "sealpress.sheets" 392)) (cd:=248) X G (fun _ _ _ _ _ _ us hl=>by obtain⟨_,rfl⟩:=len1 hl;rfl) (by kernel_rfl!) (by kernel_rfl!) (by kernel_rfl!) (by kernel_rfl!) ⟨by kernel_rfl!,by kernel_rfl!,by kernel_rfl!,by kernel_rfl!⟩
 have D_Draft_is_outside:Mdf (KH w.params) 287 "is_outside" "Draft.is_outside" z8 qm:=mdfm (f:=256) (pm:=(.str "sealpress.sheets" 392)) (cd:=255) (fun _ _ _ _ _ _ us hl=>by obtain⟨_,rfl⟩:=len1 hl;rfl) (by kernel_rfl!) (by kernel_rfl!) (by kernel_rfl!) C_Draft ⟨by kernel_rfl!,by kernel_rfl!,by kernel_rfl!⟩
 have D_Draft_can_stand:Mdf (KH w.params) 287 "can_stand" "Draft.can_stand" qh qA:=mdfm (f:=263) (pm:=(.str "sealpress.sheets" 392)) (cd:=262) (fun _ _ _ _ _ _ us hl=>by obtain⟨_,_,_,rfl⟩:=len3 hl;rfl) (by kernel_rfl!) (by kernel_rfl!) (by kernel_rfl!) C_Draft ⟨by kernel_rfl!,by kernel_rfl!,by kernel_rfl!⟩
 have D_Draft_begin_piece:Mdf (KH w.params) 287 "begin_piece" "Draft.begin_piece" zV qi:=mdfm (f:=270) (pm:=(.str "sealpress.sheets" 392)) (cd:=269) (fun _ _ _ _ _ _ us hl=>by obtain⟨_,_,_,rfl⟩:=len3 hl;rfl) (by kernel_rfl!) (by kernel_rfl!) (by kernel_rfl!) C_Draft ⟨by kernel_rfl!,by kernel_rfl!,by kernel_rfl!⟩
 have D_Draft_take:Mdf (KH w.params) 287 "take" "Draft.take" jH jY:=mdfm (f:=277) (pm:=(.str "sealpress.sheets" 392)) (cd:=276) (fun _ _ _ _ _ _ us hl=>by obtain⟨_,_,_,rfl⟩:=len3 hl;rfl) (by kernel_rfl!) (by kernel_rfl!) (by kernel_rfl!) C_Draft ⟨by kernel_rfl!,by kernel_rfl!,by kernel_rfl!⟩
 have D_Draft_ended:Mdf (KH w.params) 287 "ended" "Draft.ended" jm jI:=mdfm (f:=284) (pm:=(.str "sealpress.sheets" 392)) (cd:=283) (fun _ _ _ _ _ _ us hl=>by obtain⟨_,_,rfl⟩:=len2 hl;rfl) (by kernel_rfl!) (by kernel_rfl!) (by kernel_rfl!) C_Draft ⟨by kernel_rfl!,by kernel_rfl!,by kernel_rfl!⟩
 have D_is_own_name:Df (KH w.params) mg "is_own_name" jn jJ:=dfm (f:=298) (pm:=(.str "sealpress.sheets" 392)) (cd:=297) X G (fun _ _ _ _ _ _ us hl=>by obtain⟨_,rfl⟩:=len1 hl;rfl) (by kernel_rfl!) (by kernel_rfl!) (by kernel_rfl!) (by kernel_rfl!)
 have D_token_of:Df (KH w.params) mg "token_of" wL wY:=dfm (f:=305) (pm:=(.str "sealpress.sheets" 392)) (cd:=304) X G (fun _ _ _ _ _ _ us hl=>by obtain⟨_,rfl⟩:=len1 hl;rfl) (by kernel_rfl!) (by kernel_rfl!) (by kernel_rfl!) (by kernel_rfl!)
 have D_token_at:Df (KH w.params) mg "token_at" wM wZ:=dfm (f:=312) (pm:=(.str "sealpress.sheets" 392)) (cd:=311) X G (fun _ _ _ _ _ _ us hl=>by obtain⟨_,_,rfl⟩:=len2 hl;rfl) (by kernel_rfl!) (by kernel_rfl!) (by kernel_rfl!) (by kernel_rfl!)
 have D_sheet_read:Df (KH w.params) mg "sheet_read" jK jZ:=dfm (f:=319) (pm:=(.str "sealpress.sheets" 392)) (cd:=318) X G (fun _ _ _ _ _ _ us hl=>by obtain⟨_,rfl⟩:=len1 hl;rfl) (by kernel_rfl!) (by kernel_rfl!) (by kernel_rfl!) (by kernel_rfl!)
 have D__law_mixed:Df (KH w.params) mg "_law_mixed" jE jV:=dfm (f:=333) (pm:=(.str "law_sealpress_k55_braces_as_signs" 631)) (cd:=332) X G (fun _ _ _ _ _ _ us hl=>by obtain⟨_,_,rfl⟩:=len2 hl;rfl) (by kernel_rfl!) (by kernel_rfl!) (by kernel_rfl!) (by kernel_rfl!)
 have D__law_rest:Df (KH w.params) mg "_law_rest" j8 wo:=dfm (f:=340) (pm:=(.str "law_sealpress_k55_braces_as_signs" 631)) (cd:=339) X G (fun _ _ _ _ _ _ us hl=>by obtain⟨_,rfl⟩:=len1 hl;rfl) (by kernel_rfl!) (by kernel_rfl!) (by kernel_rfl!) (by kernel_rfl!)
 have D__law_signs:Df (KH w.params) mg "_law_signs" jF jW:=dfm (f:=347) (pm:=(.str "law_sealpress_k55_braces_as_signs" 631)) (cd:=346) X G (fun _ _ _ _ _ _ us hl=>by obtain rfl:=len0 hl;rfl) (by kernel_rfl!) (by kernel_rfl!) (by kernel_rfl!) (by kernel_rfl!)
 have D__law_spelled:Df (KH w.params) mg "_law_spelled" qS jq:=dfm (f:=408) (pm:=(.str "law_sealpress_k55_braces_as_signs" 631)) (cd:=407) X G (fun _ _ _ _ _ _ us hl=>by obtain⟨_,rfl⟩:=len1 hl;rfl) (by kernel_rfl!) (by kernel_rfl!) (by kernel_rfl!) (by kernel_rfl!)
 have D__law_sign:Df (KH w.params) mg "_law_sign" j9 wq:=dfm (f:=415) (pm:=(.str "law_sealpress_k55_braces_as_signs" 631)) (cd:=414) X G (fun _ _ _ _ _ _ us hl=>by obtain⟨_,rfl⟩:=len1 hl;rfl) (by kernel_rfl!) (by kernel_rfl!) (by kernel_rfl!) (by kernel_rfl!)
 have D__law_told:Df (KH w.params) mg "_law_told" wb wu:=dfm (f:=422) (pm:=(.str "law_sealpress_k55_braces_as_signs" 631)) (cd:=421) X G (fun _ _ _ _ _ _ us hl=>by obtain⟨_,_,rfl⟩:=len2 hl;rfl) (by kernel_rfl!) (by kernel_rfl!) (by kernel_rfl!) (by kernel_rfl!)
 have D_law:Df (KH w.params) mg "law" Xw Wv:=dfm (f:=427) (pm:=(.str "law_sealpress_k55_braces_as_signs" 631)) (cd:=426) X G (fun _ _ _ _ _ _ us hl=>by obtain⟨_,rfl⟩:=len1 hl;rfl) (by kernel_rfl!) (by kernel_rfl!) (by kernel_rfl!) (by kernel_rfl!)
 have xl_LITERAL_BRACES:(KH w.params).lookup 15=some ⟨.type "dict",none,.dict #[(en w.params "{" 189 (.str "{(}" 190)),(en w.params "}" 191 (.str "{)}" 192))] 2,#[]⟩:=by kernel_rfl!
 have e_SIGNS:Str.ofString " !\"#$&'()*+,-./0123456789:;<=>?@ABCDEFGHIJKLMNOPQRSTUVWXYZ[\\]^_`abcdefghijklmnopqrstuvwxyz{|}~" = S [32,33,34,35,36,38,39,40,41,42,43,44,45,46,47,48,49,50,51,52,53,54,55,56,57,58,59,60,61,62,63,64,65,66,67,68,69,70,71,72,73,74,75,76,77,78,79,80,81,82,83,84,85,86,87,88,89,90,91,92,93,94,95,96,97,98,99,100,101,102,103,104,105,106,107,108,109,110,111,112,113,114,115,116,117,118,119,120,121,122,123,124,125,126]:=by decide +kernel
 have e_LETTERS:Str.ofString "abcdefghijklmnopqrstuvwxyz" = S [97,98,99,100,101,102,103,104,105,106,107,108,109,110,111,112,113,114,115,116,117,118,119,120,121,122]:=by decide +kernel
 have xl_160:(KH w.params).lookup 160=some ⟨.type "tuple",none,.seq #[(.str "each" 398),(.str "if" 399),(.str "else" 400),(.str "end" 401),(.str "block" 402),(.str "elder" 403),(.str "draw" 404),(.str "over" 405)] 0,#[]⟩:=by kernel_rfl!
 have xs_160:∀ F:Hp,SqT (KH w.params) F 160 [.str (S [101,97,99,104]),.str (S [105,102]),.str (S [101,108,115,101]),.str (S [101,110,100]),.str (S [98,108,111,99,107]),.str (S [101,108,100,101,114]),.str (S [100,114,97,119]),.str (S [111,118,101,114])]:=fun _=>.inr ⟨_,_,_,xl_160,rfl,rfl,by decide,by repeat' (first | exact .nil | refine .cons ⟨_,rfl⟩ ?_)⟩
 have xl_162:(KH w.params).lookup 162=some ⟨.type "tuple",none,.seq #[(.str "lit" 408),(.str "{" 409)] 0,#[]⟩:=by kernel_rfl!
 have xs_162:∀ F:Hp,SqT (KH w.params) F 162 [.str (S [108,105,116]),.str (S [123])]:=fun _=>.inr ⟨_,_,_,xl_162,rfl,rfl,by decide,by repeat' (first | exact .nil | refine .cons ⟨_,rfl⟩ ?_)⟩
 have xl_163:(KH w.params).lookup 163=some ⟨.type "tuple",none,.seq #[(.str "lit" 411),(.str "}" 412)] 0,#[]⟩:=by kernel_rfl!
 have xs_163:∀ F:Hp,SqT (KH w.params) F 163 [.str (S [108,105,116]),.str (S [125])]:=fun _=>.inr ⟨_,_,_,xl_163,rfl,rfl,by decide,by repeat' (first | exact .nil | refine .cons ⟨_,rfl⟩ ?_)⟩
 have xl_164:(KH w.params).lookup 164=some ⟨.type "tuple",none,.seq #[(.str "else" 414)] 0,#[]⟩:=by kernel_rfl!
 have xs_164:∀ F:Hp,SqT (KH w.params) F 164 [.str (S [101,108,115,101])]:=fun _=>.inr ⟨_,_,_,xl_164,rfl,rfl,by decide,by repeat' (first | exact .nil | refine .cons ⟨_,rfl⟩ ?_)⟩
 have xl_165:(KH w.params).lookup 165=some ⟨.type "tuple",none,.seq #[(.str "end" 416)] 0,#[]⟩:=by kernel_rfl!
 have xs_165:∀ F:Hp,SqT (KH w.params) F 165 [.str (S [101,110,100])]:=fun _=>.inr ⟨_,_,_,xl_165,rfl,rfl,by decide,by repeat' (first | exact .nil | refine .cons ⟨_,rfl⟩ ?_)⟩
 have xl_166:(KH w.params).lookup 166=some ⟨.type "tuple",none,.seq #[(.str "elder" 418)] 0,#[]⟩:=by kernel_rfl!
 have xs_166:∀ F:Hp,SqT (KH w.params) F 166 [.str (S [101,108,100,101,114])]:=fun _=>.inr ⟨_,_,_,xl_166,rfl,rfl,by decide,by repeat' (first | exact .nil | refine .cons ⟨_,rfl⟩ ?_)⟩
 have xl_LONE_TOKENS:(KH w.params).lookup 161=some ⟨.type "dict",none,.dict #[(en w.params "(" 407 (.ref 162)),(en w.params ")" 410 (.ref 163)),(en w.params "else" 413 (.ref 164)),(en w.params "end" 415 (.ref 165)),(en w.params "elder" 417 (.ref 166))] 5,#[]⟩:=by kernel_rfl!
 have xl_167:(KH w.params).lookup 167=some ⟨.type "tuple",none,.seq #[(.str "each" 425),(.str "if" 426),(.str "block" 427)] 0,#[]⟩:=by kernel_rfl!
 have xs_167:∀ F:Hp,SqT (KH w.params) F 167 [.str (S [101,97,99,104]),.str (S [105,102]),.str (S [98,108,111,99,107])]:=fun _=>.inr ⟨_,_,_,xl_167,rfl,rfl,by decide,by repeat' (first | exact .nil | refine .cons ⟨_,rfl⟩ ?_)⟩
 refine zeZ D_law hfa (fun _ _ _ _ _ _ s v=>.of_eq rfl) fun base=>?_
 have T:Txt (wd l.prog w (KH w.params) mg base):=⟨⟨15,[(.inr (S [123]),.str (S [123,40,125])),(.inr (S [125]),.str (S [123,41,125]))],Ua (v:=.ref 15) X G (by kernel_rfl!),⟨by decide,_,_,_,xl_LITERAL_BRACES,⟨rfl,rfl,rfl⟩,rfl,by repeat' (first | exact EntK.nil | refine EntK.cons rfl rfl rfl ?_ | refine EntK.cons rfl rfl ⟨_,rfl⟩ ?_),by decide +kernel⟩,⟨_,_,rfl,⟨rfl,fun F=>⟨rfl,by decide⟩⟩,⟨_,_,rfl,⟨rfl,fun F=>⟨rfl,by decide⟩⟩,rfl⟩⟩⟩,⟨rfl,.str (S [32,33,34,35,36,38,39,40,41,42,43,44,45,46,47,48,49,50,51,52,53,54,55,56,57,58,59,60,61,62,63,64,65,66,67,68,69,70,71,72,73,74,75,76,77,78,79,80,81,82,83,84,85,86,87,88,89,90,91,92,93,94,95,96,97,98,99,100,101,102,103,104,105,106,107,108,109,110,111,112,113,114,115,116,117,118,119,120,121,122,123,124,125,126]),fun _=>⟨rfl,by decide⟩,.str (Str.ofString " !\"#$&'()*+,-./0123456789:;<=>?@ABCDEFGHIJKLMNOPQRSTUVWXYZ[\\]^_`abcdefghijklmnopqrstuvwxyz{|}~") 371,Ua X G (by kernel_rfl!),⟨_,by rw [e_SIGNS]⟩⟩,⟨rfl,.str (S [97,98,99,100,101,102,103,104,105,106,107,108,109,110,111,112,113,114,115,116,117,118,119,120,121,122]),fun _=>⟨rfl,by decide⟩,.str (Str.ofString "abcdefghijklmnopqrstuvwxyz") 373,Ua X G (by kernel_rfl!),⟨_,by rw [e_LETTERS]⟩⟩,⟨rfl,.int 8,fun _=>rfl,.int 8 375,Ua X G (by kernel_rfl!),⟨_,rfl⟩⟩,⟨rfl,.int 2000,fun _=>rfl,.int 2000 394,Ua X G (by kernel_rfl!),⟨_,rfl⟩⟩,⟨rfl,.int 12,fun _=>rfl,.int 12 396,Ua X G (by kernel_rfl!),⟨_,rfl⟩⟩,⟨rfl,.ref 160,fun F=>⟨_,_,rfl,xs_160 F,rfl,⟨_,_,rfl,⟨rfl,by decide⟩,⟨_,_,rfl,⟨rfl,by decide⟩,⟨_,_,rfl,⟨rfl,by decide⟩,⟨_,_,rfl,⟨rfl,by decide⟩,⟨_,_,rfl,⟨rfl,by decide⟩,⟨_,_,rfl,⟨rfl,by decide⟩,⟨_,_,rfl,⟨rfl,by decide⟩,⟨_,_,rfl,⟨rfl,by decide⟩,rfl⟩⟩⟩⟩⟩⟩⟩⟩⟩,_,Ua (v:=.ref 160) X G (by kernel_rfl!),rfl⟩,⟨161,[(.inr (S [40]),.ref 162),(.inr (S [41]),.ref 163),(.inr (S [101,108,115,101]),.ref 164),(.inr (S [101,110,100]),.ref 165),(.inr (S [101,108,100,101,114]),.ref 166)],Ua (v:=.ref 161) X G (by kernel_rfl!),⟨by decide,_,_,_,xl_LONE_TOKENS,⟨rfl,rfl,rfl⟩,rfl,by repeat' (first | exact EntK.nil | refine EntK.cons rfl rfl rfl ?_ | refine EntK.cons rfl rfl ⟨_,rfl⟩ ?_),by decide +kernel⟩,⟨_,_,rfl,⟨rfl,fun F=>⟨_,_,rfl,xs_162 F,rfl,⟨_,_,rfl,⟨rfl,by decide⟩,⟨_,_,rfl,⟨rfl,by decide⟩,rfl⟩⟩⟩⟩,⟨_,_,rfl,⟨rfl,fun F=>⟨_,_,rfl,xs_163 F,rfl,⟨_,_,rfl,⟨rfl,by decide⟩,⟨_,_,rfl,⟨rfl,by decide⟩,rfl⟩⟩⟩⟩,⟨_,_,rfl,⟨rfl,fun F=>⟨_,_,rfl,xs_164 F,rfl,⟨_,_,rfl,⟨rfl,by decide⟩,rfl⟩⟩⟩,⟨_,_,rfl,⟨rfl,fun F=>⟨_,_,rfl,xs_165 F,rfl,⟨_,_,rfl,⟨rfl,by decide⟩,rfl⟩⟩⟩,⟨_,_,rfl,⟨rfl,fun F=>⟨_,_,rfl,xs_166 F,rfl,⟨_,_,rfl,⟨rfl,by decide⟩,rfl⟩⟩⟩,rfl⟩⟩⟩⟩⟩⟩,⟨rfl,.ref 167,fun F=>⟨_,_,rfl,xs_167 F,rfl,⟨_,_,rfl,⟨rfl,by decide⟩,⟨_,_,rfl,⟨rfl,by decide⟩,⟨_,_,rfl,⟨rfl,by decide⟩,rfl⟩⟩⟩⟩,_,Ua (v:=.ref 167) X G (by kernel_rfl!),rfl⟩,Ug X G (by kernel_rfl!),Ug X G (by kernel_rfl!),Ug X G (by kernel_rfl!),Ug X G (by kernel_rfl!),Ug X G (by kernel_rfl!),Ug X G (by kernel_rfl!),Ug X G (by kernel_rfl!),⟨C_Sheet,by show _=_;kernel_rfl!⟩,⟨C_Sheet,by show _=_;kernel_rfl!⟩,⟨C_Opened,by show _=_;kernel_rfl!⟩,⟨C_Opened,by show _=_;kernel_rfl!⟩,⟨C_Opened,by show _=_;kernel_rfl!⟩,⟨C_Draft,by show _=_;kernel_rfl!⟩,⟨C_Draft,by show _=_;kernel_rfl!⟩,⟨C_Draft,by show _=_;kernel_rfl!⟩⟩
 have qB:=WJ T D__law_mixed
 have qW:=XQ T D__law_rest qB
 have z9:=QN T D__law_spelled
 have jc:=WK T D__law_signs
 have qX:=XR T D__law_sign jc
 have qr:=KQ T D_braced
 have qa:=ZF T D_literal_text
 have zg:=QP T D_pieces_text D_else_text D_piece_text qr qa
 have zY:=Q9 T D_sheet_text qr zg
 have qt:=KR T D_copied
 have zA:=kA T D_Sheet___init__ qt
 have qY:=WL T D_need_text
 have zu:=yJ T D_Opened___init__
 have zN:=kB T D_Draft___init__ zu
 have zz:=v9 T D_Opened_add_piece
 have zp:=vP T D_Opened_takes_else
 have qb:=ZG T D_Opened_whole zp
 have zm:=ya T D_Draft_is_outside
 have zq:=yK T D_Draft_can_stand zp zm
 have zB:=vQ T D_Draft_begin_piece zu
 have zZ:=Ja T D_Draft_take zz qb zq zB
 have qk:=QR T D_Draft_ended zA zm
 have jd:=VE T D_is_name
 have z0:=QS T D_is_own_name jd
 have zO:=XT T D_token_of jd z0
 have qC:=XU T D_token_at zO
 have qD:=Jb T D_sheet_read qY zN zZ qk qC
 have zD:=XW T D__law_told zY zA qD
 have zee:=zgJ T D_law qW z9 qX zD
 exact zee
theorem walk {l:PySem.W.OpenLaw}{q:Program}{loose:Lh}{XP:(La)->Heap->Prop}{YP:World->Heap->Prop}{d:DefRec}{K:Params->Le}(hn:l.most=some 63)(hdf:d.params.defaults=[])
  (hY:∀ (w:World) (h:Heap),YP w h->(K w.params).In h)
  (F:∀ (w:World) (mg:La) (fa:Addr) (h:Heap),(K w.params).In h->h.Ns mainGlobals mg->mg d.name=some (.ref fa) ->
   ∃ fd:FuncData,(∀ (s:Shared) (u:Value),BindsTo s fd ⟨[u],[]⟩ [("_law_script",u)])/\∀ base:Heap,(K w.params).In base->base.Ns mainGlobals mg->FnOk l.prog w (K w.params) mg base CX0 125 fa fd ["_law_script"] (Xo (K w.params))) :
  PySem.W.WalkO q loose XP YP l.row.toRowW d [] (fun f vs=>PySem.call f vs):=
 L2.zcy (n:=63) (k:=125) (x:="_law_script") (CX:=fun _=>CX0) (sp:=fun w=>Xo (K w.params)) hn (by decide) hdf ⟨rfl,by decide,by decide,rfl⟩ hY F (fun _ _ a ns hl _ hS=>⟨a,ns,rfl,hS,hl,fun _=>rfl⟩) fun _ _ _ _ _ z=>z
end My
open PySem PySem.W PyProof.Rows
set_option maxRecDepth 100000 in
set_option maxHeartbeats 0 in
theorem PySem.Challenge.cw_sealpress_k55_braces_as_signs_holds : PySem.Challenge.rw_sealpress_k55_braces_as_signs.Holds := by
  w_on; o_law
  refine PySem.W.holds_open (q := My.qvw) (loose := My.loose0) (Xt := My.Xt0) (XP := XL My.qvw []) (Yf := Hook.obs My.HK) (Ya := Hook.val My.HK) (YP := Hook.says My.HK) (N := 3492) My.left (Hook.of My.HK) (Hook.keeps My.HK) (fun s e => xl_of s (Bool.and_eq_true_iff.mp e).1) XL.keeps (by rfl) (by rfl) (by rfl) (fun s e => recFacts_of (Bool.and_eq_true_iff.mp e).2) (by rfl) (by first | assumption | decide +kernel) (by decide +kernel) ⟨rfl, rfl, rfl, rfl, rfl, by decide +kernel⟩ ?hw ?hc
  (case hw => w_witness2)
  exact My.walk (l := PySem.Challenge.rw_sealpress_k55_braces_as_signs) rfl rfl (fun w h Y => PySem.W.kIn_of Y) (fun w mg fa h KX G hmg => My.all_ok KX G hmg)
