import PyProof.Rows.All
import Wide.All
import OpenK.AllK
import Wide.FinOn
import Lean
import PyProof.EqAt
import PyProof.EqKinds
import PyProof.TupleCall
import PyProof.Draws
import PyProof.EnumMake
import PyProof.NeKinds
import PyProof.ZipIter
import PyProof.Rows.ZipGen
import PyProof.ReprRoads
import KE.KRevIter
import PyProof.StrLawsReplace
import PyProof.ToksMono
import PyProof.SliceList
import PySem.Challenge.RW_sealpress_k51_pieces_of_a_text
set_option linter.all false
set_option genSizeOf false
set_option compiler.extract_closed false
set_option bootstrap.genMatcherCode false
set_option backward.match.sparseCases false
abbrev La:=PySem.Str->Option PySem.Value
abbrev Lb:=Nat->List PySem.Addr
abbrev Lc:=List Nat
abbrev Ld:=List PySem.Addr
abbrev Le:=PySem.W.Frag
abbrev Lf:=List PySem.Value
abbrev Lg:=List PySem.Expr
abbrev Lh:=List PySem.Str
abbrev ua:=@List.length_cons
abbrev ub:=@Bool.and_eq_true
abbrev uc:=@List.mem_append_right
abbrev ud:=@List.mem_append
abbrev ue:=@List.mem_cons_self
abbrev uf:=@List.length_append
abbrev ug:=@List.mem_cons_of_mem
abbrev uh:=@List.length_map
abbrev ui:=@List.mem_singleton
abbrev uj:=@List.mem_append_left
abbrev uk:=@List.length_nil
abbrev um:=@List.mem_cons
abbrev uo:=@Option.map_eq_some_iff
abbrev uq:=@List.getElem?_eq_getElem
abbrev ur:=@List.size_toArray
abbrev uu:=@Nat.le_refl
abbrev uv:=@decide_eq_true_eq
abbrev uw:=@Option.some.injEq
abbrev ux:=@List.append_nil
abbrev uy:=@if_neg
abbrev uz:=@if_pos
abbrev uA:=@List.map_cons
abbrev uB:=@List.nodup_append
abbrev uC:=@Option.ite_none_right_eq_some
abbrev uD:=@List.getElem?_map
abbrev uE:=@List.isEmpty_iff
abbrev uF:=@List.getElem?_eq_some_iff
abbrev uG:=@Bool.false_ne_true
abbrev uH:=@List.nodup_cons
abbrev uI:=@List.getD_eq_getElem?_getD
abbrev uJ:=@Option.bind_some
abbrev uK:=@Nat.lt_of_lt_of_le
abbrev uL:=@List.getElem?_append_right
abbrev uM:=@List.append_assoc
abbrev uN:=@List.getElem?_set_ne
abbrev uO:=@Option.bind_eq_some_iff
abbrev uP:=@List.getElem?_set_self
abbrev uQ:=@Bool.not_eq_true'
abbrev uR:=@List.mem_of_getElem?
abbrev uS:=@Nat.zero_le
abbrev uT:=@Option.map_some
abbrev uU:=@Option.some.inj
abbrev uV:=@decide_eq_false
abbrev uW:=@Nat.le_trans
abbrev uX:=@Int.emod_lt_of_pos
abbrev uY:=@List.lookup_cons
abbrev uZ:=@List.length_set
abbrev u0:=@List.mem_map
abbrev u4:=@Nat.le_add_right
abbrev u5:=@List.getElem?_append_left
abbrev u6:=@PySem.mem_of_lookup
abbrev u7:=@List.length_replicate
abbrev u9:=@Nat.lt_irrefl
abbrev Ua:=@PySem.W.kia_one
abbrev Ub:=@Int.emod_nonneg
abbrev Uc:=@PySem.W.mg_none_of
abbrev Ud:=@Nat.ne_of_lt
abbrev Ue:=@List.map_append
abbrev Ug:=@List.getElem?_eq_none
abbrev Uh:=@List.length_drop
abbrev Ui:=@List.any_cons
abbrev Uj:=@PySem.W.mg_of
abbrev Uk:=@List.getLast?_concat
abbrev Ul:=@if_true
abbrev Um:=@beq_eq_false_iff_ne
abbrev Uo:=@List.append_eq_nil_iff
abbrev Up:=@List.all_cons
abbrev Uq:=@List.drop_eq_getElem_cons
abbrev Ur:=@List.find?_cons
abbrev Us:=@List.length_take
abbrev Ut:=@beq_self_eq_true
abbrev Uu:=@List.getElem_mem
abbrev Uv:=@List.nil_sublist
abbrev Uw:=@Bool.false_eq_true
abbrev Ux:=@List.map_map
abbrev Uy:=@Array.getElem?_eq_some_iff
abbrev Uz:=@Nat.lt_succ_self
abbrev UA:=@List.sublist_append_right
abbrev UB:=@PySem.W.callWith_K0
abbrev UC:=@List.sublist_append_left
abbrev UD:=@PySem.W.callWith_K
abbrev UE:=@List.getLast?_cons_cons
abbrev UG:=@decide_eq_true
abbrev UH:=@PySem.F.slot_str_split
abbrev UI:=@List.ext_getElem?
abbrev UJ:=@List.sublist_cons_self
abbrev UK:=@List.eq_nil_or_concat
abbrev UL:=@List.concat_eq_append
abbrev UM:=@List.all_eq_true
abbrev UN:=@List.cons_append
abbrev UO:=@Nat.le_succ
abbrev UP:=@Bool.eq_iff_iff
abbrev UQ:=@Bool.or_eq_true
abbrev UR:=@List.map_congr_left
abbrev US:=@List.flatten_append
abbrev UT:=@Nat.zero_add
abbrev UU:=@Nat.sub_self
abbrev UW:=@List.mem_filterMap
abbrev UX:=@Bool.and_false
abbrev UY:=@not_or
abbrev UZ:=@of_decide_eq_false
abbrev U0:=@Nat.add_sub_cancel
abbrev U1:=@List.Sublist.refl
abbrev U2:=@List.length_range
abbrev U3:=@PySem.F.args_tuple_add_2
abbrev U4:=@PySem.F.args_str_split_2
abbrev U5:=@Bool.and_self
abbrev U6:=@PySem.F.entry_tuple_add
abbrev U7:=@Option.getD_none
abbrev U8:=@if_false
abbrev U9:=@PySem.F.entry_str_split
abbrev gb:=@List.getElem?_cons_succ
abbrev gf:=@List.drop_length
abbrev gg:=@PySem.F.plainAttrs_list
abbrev gh:=@List.length_eq_zero_iff
abbrev gj:=@Nat.le_of_eq
abbrev gk:=@PySem.F.slot_tuple_add
abbrev gm:=@List.map_nil
abbrev gn:=@Nat.lt_or_ge
abbrev gp:=@PySem.F.plainAttrs_str
abbrev gq:=@List.nil_append
abbrev gr:=@Option.map_map
abbrev gu:=@List.filterMap_cons
abbrev gv:=@PySem.W.plainGet_of
abbrev gw:=@List.getElem?_range
abbrev gy:=@Prod.mk.injEq
abbrev gz:=@Bool.false_or
abbrev gA:=@beq_iff_eq
abbrev gB:=@List.findIdx?_cons
abbrev gC:=@Nat.ne_of_gt
abbrev gD:=@Int.toNat_natCast
abbrev gE:=@Option.isSome_map
abbrev gG:=@List.eraseIdxIfInBounds_toArray
abbrev gH:=@List.take_length
abbrev gI:=@Int.mul_le_mul_of_nonneg_left
abbrev gJ:=@List.of_mem_zip
abbrev gK:=@List.getElem?_concat_length
abbrev gL:=@List.mem_range
abbrev gM:=@Bool.false_and
abbrev gO:=@List.drop_zero
abbrev gP:=@List.tail_cons
abbrev gQ:=@and_self
abbrev gR:=@Option.isNone_iff_eq_none
abbrev gS:=@Bool.true_and
abbrev gT:=@List.mem_of_mem_eraseIdx
abbrev gU:=@List.getElem?_replicate
abbrev gW:=@Nat.add_sub_cancel_left
set_option Elab.async false
set_option linter.all false
set_option maxRecDepth 100000
set_option maxHeartbeats 0
noncomputable section
namespace L2
open PySem PySem.W
theorem left_run {p q:Program}{loose:Lh}{Xt:Shared->Bool}{α:Type}{Yf:Shared->α}{Ya:World->α}{N M m0:Nat}{ann:Option Value}{H0:Params->Heap}{g0:Array GenState}{d0:Drawn}{k0:Nat}
  (hb:∀ w:World,(fencedOpening treeTable p w N).map (fun s=>(s.heap,s.gens,s.drawn,s.toks))=some (H0 w.params,g0,d0,k0))
  (hz:∀ w:World,((H0 w.params).isNs mainGlobals&&g0.size == 0,(H0 w.params).objs.size,(H0 w.params).nsMap mainGlobals "__annotations__")=(true,m0,ann))
  (hr:∀ (w:World) (os:OsState),∃ s:Shared,topRun treeTable p w m0 ann M ⟨H0 w.params,g0,d0,k0,os⟩ (topStub p)=some s /\
   (staticsOk (importedModules p.main.body) (H0 w.params) s.heap&&namesBound p s.heap&&gensDone s&&laidKept (H0 w.params) s.heap)=true/\openSeen q loose (importedModules p.main.body) Xt true s=openGood q loose/\Yf s=Ya w)
  (hn:M<=N):LeftO p q loose Xt Yf Ya N:=fun w=>by
 obtain⟨s0,e,e'⟩:=uo.mp (hb w)
 obtain⟨h,gs,d,k,os⟩:=s0
 simp only [gy] at e'
 obtain⟨rfl,rfl,rfl,rfl⟩:=e'
 obtain⟨s,r,l1,l2,l3⟩:=hr w os
 have z:=hz w
 simp only [gy] at z
 obtain⟨z1,z2,z3⟩:=z
 obtain⟨x,rfl⟩:=Nat.exists_eq_add_of_le hn
 have r':=topRun_mono x _ _ _ _ r
 have t:topFrom treeTable p w (M+x) ⟨H0 w.params,gs,d,k,os⟩=some s:=by
  unfold topFrom
  simp only [z1,z2,z3,r',uJ,l1]
 unfold openEnds
 rw [e,uJ,t,uT,l2,l3]
end L2
namespace My
open PySem PySem.W
abbrev pw:Program:=PySem.Challenge.pw_sealpress_k51_pieces_of_a_text
noncomputable def tp (i:Nat):Stmt:=pw.main.body.getD i (.Pass ⟨0,0,0,0⟩)
noncomputable def tc (i j:Nat):Stmt:=match tp i with
 | .ClassDef _ _ _ body _ _ _ _ _ _ _=>body.getD j (.Pass ⟨0,0,0,0⟩)
 | _=>.Pass ⟨0,0,0,0⟩
noncomputable def fnO (s:Stmt)(nm q:Str)(g:Addr)(cl:List (Str×Addr))(df kd dc pm:Value)(an:Option Addr)(cd ct:Value)(bl:Addr):Data:=match s with
 | .FunctionDef _ a b _ _ _ sc _ _ _=>.func ⟨nm,q,a,.stmts b,sc,g,cl,df,kd,dc,pm,an,cd,ct,bl⟩
 | _=>.plain
noncomputable def en (P:Params)(k:Str)(t:Nat)(v:Value):DictEntry:=⟨PyData.keyHash P k,.str k t,v⟩
noncomputable def cO (n:Str)(a b c:Nat)(l g:Int)(r q:Addr)(x y z w:Value)(t:Int)(u:Nat):Obj:=⟨.type "code",none,.fields #[.str n a,.str n b,.str "/claim/cut.py" c,.int l 0,.int g 0,.int 0 0,.int 0 0,.int 3 0,.ref r,.bool true,.int 181 0,.ref q,x,y,z,w,.int t 0,.int l 0,.str "/claim/cut.py" u],#[]⟩
noncomputable def fO (i:Nat)(n:Str)(m:Value)(c:Addr):Obj:=⟨.type "function",none,fnO (tp i) n n 3 [] .none .none .none m none (.ref c) .none 0,#[]⟩
noncomputable def o11 (_:Params):Obj:={ cls:=.type "tuple",data:=.seq #[] }
noncomputable def o12 (_:Params):Obj:={ cls:=.none,data:=.fields #[] }
noncomputable def o13 (_:Params):Obj:={ cls:=.type "code",data:=.fields #[.str "<module>" 182,.str "<module>" 183,.str "/claim/cut.py" 184,.int 1 0,.int 0 0,.int 0 0,.int 0 0,.int 0 0,.ref 11,.bool false,.int 181 0,.ref 12,.none,.none,.none,.none,.int 185 0,.int 1 0,.str "/claim/cut.py" 186] }
noncomputable def o14 (_:Params):Obj:={ cls:=.type "frame",slots:=#[some (.ref 13),some (.ref 3),some (.ref 3),none,some (.str "__main__" 164),none,some (.ref 0)] }
noncomputable def x0 (P:Params):Obj:=⟨(.type "dict"),none,(.dict #[(en P "__name__" 165 (.str "law_sealpress_k51_pieces_of_a_text" 578)),(en P "__doc__" 166 .none),(en P "__package__" 167 .none),(en P "__loader__" 168 (.builtin "__main__.__loader__#opaque")),(en P "__spec__" 169 .none),(en P "__annotations__" 170 (.ref 6)),(en P "__builtins__" 171 (.ref 4)),(en P "__file__" 173 (.str "/claim/cut.py" 172)),(en P "__cached__" 174 .none),(en P "SealError" 206 (.ref 24)),(en P "NoSign" 231 (.ref 44)),(en P "NoSheet" 256 (.ref 63)),(en P "Twice" 281 (.ref 82)),(en P "TooMany" 297 (.ref 94)),(en P "copied" 305 (.ref 101)),(en P "all_in" 315 (.ref 108)),(en P "SIGNS" 319 (.str " !\"#$&'()*+,-./0123456789:;<=>?@ABCDEFGHIJKLMNOPQRSTUVWXYZ[\\]^_`abcdefghijklmnopqrstuvwxyz{|}~" 318)),(en P "LETTERS" 321 (.str "abcdefghijklmnopqrstuvwxyz" 320)),(en P "LONGEST_NAME" 323 (.int 8 322)),(en P "is_name" 329 (.ref 113)),(en P "need_text" 338 (.ref 120)),(en P "MOST_SIGNS" 342 (.int 2000 341)),(en P "MOST_OPENED" 344 (.int 12 343)),(en P "BRACE_WORDS" 353 (.ref 121)),(en P "LONE_TOKENS" 371 (.ref 122)),(en P "OPENERS" 375 (.ref 128)),(en P "Sheet" 412 (.ref 150)),(en P "Opened" 467 (.ref 192)),(en P "Draft" 542 (.ref 248)),(en P "is_own_name" 549 (.ref 259)),(en P "token_of" 557 (.ref 266)),(en P "token_at" 567 (.ref 273)),(en P "sheet_read" 577 (.ref 280)),(en P "_law_cell_at" 587 (.ref 287)),(en P "_law_mixed" 598 (.ref 294)),(en P "_law_rest" 605 (.ref 301)),(en P "_law_signs" 612 (.ref 308)),(en P "_law_names" 631 (.ref 315)),(en P "_law_put" 640 (.ref 322)),(en P "_law_shut" 650 (.ref 329)),(en P "_law_literal" 662 (.ref 336)),(en P "_law_opened" 674 (.ref 343)),(en P "_law_word" 680 (.ref 348)),(en P "_law_token" 692 (.ref 355)),(en P "_law_made" 705 (.ref 362)),(en P "_law_stirred" 714 (.ref 369)),(en P "law" 731 (.ref 376))] 47),#[]⟩
noncomputable def x1 (_:Params):Obj:=cO "copied" 300 301 302 22 1 97 98 .none .none .none (.ref 99) 303 304
noncomputable def x2 (_:Params):Obj:=fO 7 "copied" (.str "sealpress.pieces" 298) 100
noncomputable def x3 (_:Params):Obj:=cO "is_name" 324 325 326 39 1 109 110 .none .none .none (.ref 111) 327 328
noncomputable def x4 (_:Params):Obj:=fO 13 "is_name" (.str "sealpress.signs" 316) 112
noncomputable def x5 (_:Params):Obj:=cO "need_text" 330 331 332 43 1 114 115 .none (.ref 116) (.ref 117) (.ref 118) 336 337
noncomputable def x6 (_:Params):Obj:=fO 14 "need_text" (.str "sealpress.signs" 316) 119
noncomputable def x7 (_:Params):Obj:=⟨(.type "tuple"),none,(.seq #[(.str "each" 345),(.str "if" 346),(.str "else" 347),(.str "end" 348),(.str "block" 349),(.str "elder" 350),(.str "draw" 351),(.str "over" 352)] 0),#[]⟩
noncomputable def x8 (P:Params):Obj:=⟨(.type "dict"),none,(.dict #[(en P "(" 354 (.ref 123)),(en P ")" 357 (.ref 124)),(en P "else" 360 (.ref 125)),(en P "end" 362 (.ref 126)),(en P "elder" 364 (.ref 127))] 5),#[]⟩
noncomputable def x9 (_:Params):Obj:=⟨(.type "tuple"),none,(.seq #[(.str "lit" 355),(.str "{" 356)] 0),#[]⟩
noncomputable def x10 (_:Params):Obj:=⟨(.type "tuple"),none,(.seq #[(.str "lit" 358),(.str "}" 359)] 0),#[]⟩
noncomputable def x11 (_:Params):Obj:=⟨(.type "tuple"),none,(.seq #[(.str "else" 361)] 0),#[]⟩
noncomputable def x12 (_:Params):Obj:=⟨(.type "tuple"),none,(.seq #[(.str "end" 363)] 0),#[]⟩
noncomputable def x13 (_:Params):Obj:=⟨(.type "tuple"),none,(.seq #[(.str "elder" 365)] 0),#[]⟩
noncomputable def x14 (_:Params):Obj:=⟨(.type "tuple"),none,(.seq #[(.str "each" 372),(.str "if" 373),(.str "block" 374)] 0),#[]⟩
noncomputable def x15 (_:Params):Obj:=⟨(.type "code"),none,(.fields #[(.str "__init__" 388),(.str "Sheet.__init__" 389),(.str "/claim/cut.py" 390),(.int 58 0),(.int 3 0),(.int 0 0),(.int 0 0),(.int 3 0),(.ref 136),(.bool true),(.int 181 0),(.ref 137),.none,(.ref 138),(.ref 139),(.ref 140),(.int 394 0),(.int 58 0),(.str "/claim/cut.py" 395)]),#[]⟩
noncomputable def x16 (_:Params):Obj:=⟨(.type "function"),none,(fnO (tc 21 0) "__init__" "Sheet.__init__" 3 [] .none .none .none (.str "sealpress.sheets" 339) none (.ref 141) .none 0),#[]⟩
noncomputable def x17 (P:Params):Obj:=⟨(.type "dict"),none,(.dict #[(en P "__module__" 383 (.str "sealpress.sheets" 339)),(en P "__firstlineno__" 387 (.int 56 386)),(en P "__init__" 396 (.ref 142)),(en P "blocks" 402 (.ref 147)),(en P "__static_attributes__" 405 (.ref 148)),(en P "__dict__" 407 (.ref 151)),(en P "__weakref__" 409 (.ref 152)),(en P "__doc__" 410 .none)] 4),#[]⟩
noncomputable def x18 (_:Params):Obj:=⟨(.type "type"),none,(.cls ⟨"Sheet",[(.type "object")],[(.ref 150),(.type "object")],149,"Sheet",true,[],[],false,none,false⟩),#[none,none,(some (.str "Sheet" 376)),(some (.str "Sheet" 384)),(some (.builtin "object.__new__")),(some (.bool true))]⟩
noncomputable def x19 (_:Params):Obj:=⟨(.type "code"),none,(.fields #[(.str "__init__" 425),(.str "Opened.__init__" 426),(.str "/claim/cut.py" 427),(.int 66 0),(.int 3 0),(.int 0 0),(.int 0 0),(.int 3 0),(.ref 162),(.bool true),(.int 181 0),(.ref 163),.none,(.ref 164),(.ref 165),(.ref 166),(.int 431 0),(.int 66 0),(.str "/claim/cut.py" 432)]),#[]⟩
noncomputable def x20 (_:Params):Obj:=⟨(.type "function"),none,(fnO (tc 22 0) "__init__" "Opened.__init__" 3 [] .none .none .none (.str "sealpress.sheets" 339) none (.ref 167) .none 0),#[]⟩
noncomputable def x21 (_:Params):Obj:=⟨(.type "code"),none,(.fields #[(.str "add_piece" 434),(.str "Opened.add_piece" 435),(.str "/claim/cut.py" 436),(.int 71 0),(.int 2 0),(.int 0 0),(.int 0 0),(.int 3 0),(.ref 169),(.bool true),(.int 181 0),(.ref 170),.none,(.ref 171),(.ref 172),(.ref 173),(.int 440 0),(.int 71 0),(.str "/claim/cut.py" 441)]),#[]⟩
noncomputable def x22 (_:Params):Obj:=⟨(.type "function"),none,(fnO (tc 22 1) "add_piece" "Opened.add_piece" 3 [] .none .none .none (.str "sealpress.sheets" 339) none (.ref 174) .none 0),#[]⟩
noncomputable def x23 (_:Params):Obj:=⟨(.type "code"),none,(.fields #[(.str "takes_else" 443),(.str "Opened.takes_else" 444),(.str "/claim/cut.py" 445),(.int 78 0),(.int 1 0),(.int 0 0),(.int 0 0),(.int 3 0),(.ref 176),(.bool true),(.int 181 0),(.ref 177),.none,(.ref 178),(.ref 179),(.ref 180),(.int 447 0),(.int 78 0),(.str "/claim/cut.py" 448)]),#[]⟩
noncomputable def x24 (_:Params):Obj:=⟨(.type "function"),none,(fnO (tc 22 2) "takes_else" "Opened.takes_else" 3 [] .none .none .none (.str "sealpress.sheets" 339) none (.ref 181) .none 0),#[]⟩
noncomputable def x25 (_:Params):Obj:=⟨(.type "code"),none,(.fields #[(.str "whole" 450),(.str "Opened.whole" 451),(.str "/claim/cut.py" 452),(.int 81 0),(.int 1 0),(.int 0 0),(.int 0 0),(.int 3 0),(.ref 183),(.bool true),(.int 181 0),(.ref 184),.none,(.ref 185),(.ref 186),(.ref 187),(.int 454 0),(.int 81 0),(.str "/claim/cut.py" 455)]),#[]⟩
noncomputable def x26 (_:Params):Obj:=⟨(.type "function"),none,(fnO (tc 22 3) "whole" "Opened.whole" 3 [] .none .none .none (.str "sealpress.sheets" 339) none (.ref 188) .none 0),#[]⟩
noncomputable def x27 (P:Params):Obj:=⟨(.type "dict"),none,(.dict #[(en P "__module__" 420 (.str "sealpress.sheets" 339)),(en P "__firstlineno__" 424 (.int 64 423)),(en P "__init__" 433 (.ref 168)),(en P "add_piece" 442 (.ref 175)),(en P "takes_else" 449 (.ref 182)),(en P "whole" 456 (.ref 189)),(en P "__static_attributes__" 460 (.ref 190)),(en P "__dict__" 462 (.ref 193)),(en P "__weakref__" 464 (.ref 194)),(en P "__doc__" 465 .none)] 4),#[]⟩
noncomputable def x28 (_:Params):Obj:=⟨(.type "type"),none,(.cls ⟨"Opened",[(.type "object")],[(.ref 192),(.type "object")],191,"Opened",true,[],[],false,none,false⟩),#[none,none,(some (.str "Opened" 413)),(some (.str "Opened" 421)),(some (.builtin "object.__new__")),(some (.bool true))]⟩
noncomputable def x29 (_:Params):Obj:=⟨(.type "code"),none,(.fields #[(.str "__init__" 480),(.str "Draft.__init__" 481),(.str "/claim/cut.py" 482),(.int 87 0),(.int 1 0),(.int 0 0),(.int 0 0),(.int 3 0),(.ref 204),(.bool true),(.int 181 0),(.ref 205),.none,(.ref 206),(.ref 207),(.ref 208),(.int 484 0),(.int 87 0),(.str "/claim/cut.py" 485)]),#[]⟩
noncomputable def x30 (_:Params):Obj:=⟨(.type "function"),none,(fnO (tc 23 0) "__init__" "Draft.__init__" 3 [] .none .none .none (.str "sealpress.sheets" 339) none (.ref 209) .none 0),#[]⟩
noncomputable def x31 (_:Params):Obj:=⟨(.type "code"),none,(.fields #[(.str "is_outside" 487),(.str "Draft.is_outside" 488),(.str "/claim/cut.py" 489),(.int 92 0),(.int 1 0),(.int 0 0),(.int 0 0),(.int 3 0),(.ref 211),(.bool true),(.int 181 0),(.ref 212),.none,(.ref 213),(.ref 214),(.ref 215),(.int 491 0),(.int 92 0),(.str "/claim/cut.py" 492)]),#[]⟩
noncomputable def x32 (_:Params):Obj:=⟨(.type "function"),none,(fnO (tc 23 1) "is_outside" "Draft.is_outside" 3 [] .none .none .none (.str "sealpress.sheets" 339) none (.ref 216) .none 0),#[]⟩
noncomputable def x33 (_:Params):Obj:=⟨(.type "code"),none,(.fields #[(.str "can_stand" 494),(.str "Draft.can_stand" 495),(.str "/claim/cut.py" 496),(.int 95 0),(.int 3 0),(.int 0 0),(.int 0 0),(.int 3 0),(.ref 218),(.bool true),(.int 181 0),(.ref 219),.none,(.ref 220),(.ref 221),(.ref 222),(.int 501 0),(.int 95 0),(.str "/claim/cut.py" 502)]),#[]⟩
noncomputable def x34 (_:Params):Obj:=⟨(.type "function"),none,(fnO (tc 23 2) "can_stand" "Draft.can_stand" 3 [] .none .none .none (.str "sealpress.sheets" 339) none (.ref 223) .none 0),#[]⟩
noncomputable def x35 (_:Params):Obj:=⟨(.type "code"),none,(.fields #[(.str "begin_piece" 504),(.str "Draft.begin_piece" 505),(.str "/claim/cut.py" 506),(.int 109 0),(.int 3 0),(.int 0 0),(.int 0 0),(.int 3 0),(.ref 225),(.bool true),(.int 181 0),(.ref 226),.none,(.ref 227),(.ref 228),(.ref 229),(.int 510 0),(.int 109 0),(.str "/claim/cut.py" 511)]),#[]⟩
noncomputable def x36 (_:Params):Obj:=⟨(.type "function"),none,(fnO (tc 23 3) "begin_piece" "Draft.begin_piece" 3 [] .none .none .none (.str "sealpress.sheets" 339) none (.ref 230) .none 0),#[]⟩
noncomputable def x37 (_:Params):Obj:=⟨(.type "code"),none,(.fields #[(.str "take" 513),(.str "Draft.take" 514),(.str "/claim/cut.py" 515),(.int 118 0),(.int 3 0),(.int 0 0),(.int 0 0),(.int 3 0),(.ref 232),(.bool true),(.int 181 0),(.ref 233),.none,(.ref 234),(.ref 235),(.ref 236),(.int 521 0),(.int 118 0),(.str "/claim/cut.py" 522)]),#[]⟩
noncomputable def x38 (_:Params):Obj:=⟨(.type "function"),none,(fnO (tc 23 4) "take" "Draft.take" 3 [] .none .none .none (.str "sealpress.sheets" 339) none (.ref 237) .none 0),#[]⟩
noncomputable def x39 (_:Params):Obj:=⟨(.type "code"),none,(.fields #[(.str "ended" 524),(.str "Draft.ended" 525),(.str "/claim/cut.py" 526),(.int 134 0),(.int 2 0),(.int 0 0),(.int 0 0),(.int 3 0),(.ref 239),(.bool true),(.int 181 0),(.ref 240),.none,(.ref 241),(.ref 242),(.ref 243),(.int 529 0),(.int 134 0),(.str "/claim/cut.py" 530)]),#[]⟩
noncomputable def x40 (_:Params):Obj:=⟨(.type "function"),none,(fnO (tc 23 5) "ended" "Draft.ended" 3 [] .none .none .none (.str "sealpress.sheets" 339) none (.ref 244) .none 0),#[]⟩
noncomputable def x41 (P:Params):Obj:=⟨(.type "dict"),none,(.dict #[(en P "__module__" 475 (.str "sealpress.sheets" 339)),(en P "__firstlineno__" 479 (.int 85 478)),(en P "__init__" 486 (.ref 210)),(en P "is_outside" 493 (.ref 217)),(en P "can_stand" 503 (.ref 224)),(en P "begin_piece" 512 (.ref 231)),(en P "take" 523 (.ref 238)),(en P "ended" 531 (.ref 245)),(en P "__static_attributes__" 535 (.ref 246)),(en P "__dict__" 537 (.ref 249)),(en P "__weakref__" 539 (.ref 250)),(en P "__doc__" 540 .none)] 4),#[]⟩
noncomputable def x42 (_:Params):Obj:=⟨(.type "type"),none,(.cls ⟨"Draft",[(.type "object")],[(.ref 248),(.type "object")],247,"Draft",true,[],[],false,none,false⟩),#[none,none,(some (.str "Draft" 468)),(some (.str "Draft" 476)),(some (.builtin "object.__new__")),(some (.bool true))]⟩
noncomputable def x43 (_:Params):Obj:=cO "is_own_name" 543 544 545 138 1 253 254 .none (.ref 255) (.ref 256) (.ref 257) 547 548
noncomputable def x44 (_:Params):Obj:=fO 24 "is_own_name" (.str "sealpress.sheets" 339) 258
noncomputable def x45 (_:Params):Obj:=cO "token_of" 550 551 552 140 1 260 261 .none (.ref 262) (.ref 263) (.ref 264) 555 556
noncomputable def x46 (_:Params):Obj:=fO 25 "token_of" (.str "sealpress.sheets" 339) 265
noncomputable def x47 (_:Params):Obj:=cO "token_at" 558 559 560 151 2 267 268 .none (.ref 269) (.ref 270) (.ref 271) 565 566
noncomputable def x48 (_:Params):Obj:=fO 26 "token_at" (.str "sealpress.sheets" 339) 272
noncomputable def x49 (_:Params):Obj:=cO "sheet_read" 568 569 570 161 1 274 275 .none (.ref 276) (.ref 277) (.ref 278) 575 576
noncomputable def x50 (_:Params):Obj:=fO 27 "sheet_read" (.str "sealpress.sheets" 339) 279
noncomputable def x51 (_:Params):Obj:=cO "_law_cell_at" 580 581 582 173 2 281 282 .none (.ref 283) (.ref 284) (.ref 285) 585 586
noncomputable def x52 (_:Params):Obj:=fO 29 "_law_cell_at" (.str "law_sealpress_k51_pieces_of_a_text" 578) 286
noncomputable def x53 (_:Params):Obj:=cO "_law_mixed" 588 589 590 177 2 288 289 .none (.ref 290) (.ref 291) (.ref 292) 596 597
noncomputable def x54 (_:Params):Obj:=fO 30 "_law_mixed" (.str "law_sealpress_k51_pieces_of_a_text" 578) 293
noncomputable def x55 (_:Params):Obj:=cO "_law_rest" 599 600 601 182 1 295 296 .none (.ref 297) (.ref 298) (.ref 299) 603 604
noncomputable def x56 (_:Params):Obj:=fO 31 "_law_rest" (.str "law_sealpress_k51_pieces_of_a_text" 578) 300
noncomputable def x57 (_:Params):Obj:=cO "_law_signs" 606 607 608 186 0 302 303 .none (.ref 304) (.ref 305) (.ref 306) 610 611
noncomputable def x58 (_:Params):Obj:=fO 32 "_law_signs" (.str "law_sealpress_k51_pieces_of_a_text" 578) 307
noncomputable def x59 (_:Params):Obj:=cO "_law_names" 613 614 615 189 2 309 310 .none (.ref 311) (.ref 312) (.ref 313) 629 630
noncomputable def x60 (_:Params):Obj:=fO 33 "_law_names" (.str "law_sealpress_k51_pieces_of_a_text" 578) 314
noncomputable def x61 (_:Params):Obj:=cO "_law_put" 632 633 634 208 2 316 317 .none (.ref 318) (.ref 319) (.ref 320) 638 639
noncomputable def x62 (_:Params):Obj:=fO 34 "_law_put" (.str "law_sealpress_k51_pieces_of_a_text" 578) 321
noncomputable def x63 (_:Params):Obj:=cO "_law_shut" 641 642 643 213 1 323 324 .none (.ref 325) (.ref 326) (.ref 327) 648 649
noncomputable def x64 (_:Params):Obj:=fO 35 "_law_shut" (.str "law_sealpress_k51_pieces_of_a_text" 578) 328
noncomputable def x65 (_:Params):Obj:=cO "_law_literal" 651 652 653 218 2 330 331 .none (.ref 332) (.ref 333) (.ref 334) 660 661
noncomputable def x66 (_:Params):Obj:=fO 36 "_law_literal" (.str "law_sealpress_k51_pieces_of_a_text" 578) 335
noncomputable def x67 (_:Params):Obj:=cO "_law_opened" 663 664 665 230 4 337 338 .none (.ref 339) (.ref 340) (.ref 341) 672 673
noncomputable def x68 (_:Params):Obj:=fO 37 "_law_opened" (.str "law_sealpress_k51_pieces_of_a_text" 578) 342
noncomputable def x69 (_:Params):Obj:=cO "_law_word" 675 676 677 239 4 344 345 .none .none .none (.ref 346) 678 679
noncomputable def x70 (_:Params):Obj:=fO 38 "_law_word" (.str "law_sealpress_k51_pieces_of_a_text" 578) 347
noncomputable def x71 (_:Params):Obj:=cO "_law_token" 681 682 683 258 5 349 350 .none (.ref 351) (.ref 352) (.ref 353) 690 691
noncomputable def x72 (_:Params):Obj:=fO 39 "_law_token" (.str "law_sealpress_k51_pieces_of_a_text" 578) 354
noncomputable def x73 (_:Params):Obj:=cO "_law_made" 693 694 695 267 2 356 357 .none (.ref 358) (.ref 359) (.ref 360) 703 704
noncomputable def x74 (_:Params):Obj:=fO 40 "_law_made" (.str "law_sealpress_k51_pieces_of_a_text" 578) 361
noncomputable def x75 (_:Params):Obj:=cO "_law_stirred" 706 707 708 278 1 363 364 .none (.ref 365) (.ref 366) (.ref 367) 712 713
noncomputable def x76 (_:Params):Obj:=fO 41 "_law_stirred" (.str "law_sealpress_k51_pieces_of_a_text" 578) 368
noncomputable def x77 (_:Params):Obj:=cO "law" 715 716 717 284 1 370 371 .none (.ref 372) (.ref 373) (.ref 374) 729 730
noncomputable def x78 (_:Params):Obj:=fO 42 "law" (.str "law_sealpress_k51_pieces_of_a_text" 578) 375
noncomputable def kh0 (P:Params):Le:=[(2,boot_o_2 P),(3,x0 P),(100,x1 P),(101,x2 P),(112,x3 P),(113,x4 P),(119,x5 P),(120,x6 P),(121,x7 P),(122,x8 P),(123,x9 P),(124,x10 P)]
noncomputable def kh1 (P:Params):Le:=[(125,x11 P),(126,x12 P),(127,x13 P),(128,x14 P),(141,x15 P),(142,x16 P),(149,x17 P),(150,x18 P),(167,x19 P),(168,x20 P),(174,x21 P),(175,x22 P)]
noncomputable def kh2 (P:Params):Le:=[(181,x23 P),(182,x24 P),(188,x25 P),(189,x26 P),(191,x27 P),(192,x28 P),(209,x29 P),(210,x30 P),(216,x31 P),(217,x32 P),(223,x33 P),(224,x34 P)]
noncomputable def kh3 (P:Params):Le:=[(230,x35 P),(231,x36 P),(237,x37 P),(238,x38 P),(244,x39 P),(245,x40 P),(247,x41 P),(248,x42 P),(258,x43 P),(259,x44 P),(265,x45 P),(266,x46 P)]
noncomputable def kh4 (P:Params):Le:=[(272,x47 P),(273,x48 P),(279,x49 P),(280,x50 P),(286,x51 P),(287,x52 P),(293,x53 P),(294,x54 P),(300,x55 P),(301,x56 P),(307,x57 P),(308,x58 P)]
noncomputable def kh5 (P:Params):Le:=[(314,x59 P),(315,x60 P),(321,x61 P),(322,x62 P),(328,x63 P),(329,x64 P),(335,x65 P),(336,x66 P),(342,x67 P),(343,x68 P),(347,x69 P),(348,x70 P)]
noncomputable def kh6 (P:Params):Le:=[(354,x71 P),(355,x72 P),(361,x73 P),(362,x74 P),(368,x75 P),(369,x76 P),(375,x77 P),(376,x78 P)]
noncomputable def KH (P:Params):Le:=kh0 P++(kh1 P++(kh2 P++(kh3 P++(kh4 P++(kh5 P++(kh6 P))))))
noncomputable def asL:Ld:=[2,3,100,101,112,113,119,120,121,122,123,124,125,126,127,128,141,142,149,150,167,168,174,175,181,182,188,189,191,192,209,210,216,217,223,224,230,231,237,238,244,245,247,248,258,259,265,266,272,273,279,280,286,287,293,294,300,301,307,308,314,315,321,322,328,329,335,336,342,343,347,348,354,355,361,362,368,369,375,376]
theorem ze2 (P:Params):asL=(KH P).map (fun p=>p.1):=by kernel_rfl
@[reducible] noncomputable def HK:Hook:=kHook KH asL ze2
noncomputable def obs0 (s:Shared):List (Option Obj):=asL.map s.heap.get?
noncomputable def val0 (w:World):List (Option Obj):=(KH w.params).map fun p=>some p.2
noncomputable def tb0 (P:Params):BT:=.node (boot_o_0 P) (.node (boot_o_1 P) (.node (boot_o_3 P) (.node (boot_o_7 P) .nil .nil) (.node (o11 P) .nil .nil)) (.node (boot_o_5 P) (.node (boot_o_9 P) .nil .nil) (.node (o13 P) .nil .nil)))
 (.node (boot_o_2 P) (.node (boot_o_4 P) (.node (boot_o_8 P) .nil .nil) (.node (o12 P) .nil .nil)) (.node (boot_o_6 P) (.node (boot_o_10 P) .nil .nil) (.node (o14 P) .nil .nil)))
noncomputable def sB (w:World)(os:OsState):SharedT:=⟨tb0 w.params,15,{},#[],{},187,os⟩
noncomputable def env0:Env:={ scope:=pw.main.scope,locals:=mainNs,globals:=mainNs,cells:=[],code:=.ref 13,frame:=some 14 }
noncomputable def YA:List Stmt:=behindTheImports pw
noncomputable def cE:Code:=.body YA env0
noncomputable def pos0:Pos:=⟨0,0,0,0⟩
noncomputable def B0:List Frame:=[topFrame pos0]
noncomputable def ann0:Option Value:=some (.ref 6)
noncomputable def qvw:Program:=view pw [1,2,3,4,5,7,8,10,11,12,13,14,16,17,18,19,20,21,22,23,24,25,26,27,29,30,31,32,33,34,35,36,37,38,39,40,41,42]
noncomputable def loose0:Lh:=["LONE_TOKENS"]
noncomputable def mods:Lh:=importedModules pw.main.body
noncomputable def Xt0 (s:Shared):Bool:=xlAt qvw [] s&&recOk (RowW.records (OpenRow.toRowW (OpenLaw.row PySem.Challenge.rw_sealpress_k51_pieces_of_a_text))) s
noncomputable def zch (w:World)(r:Flow×SharedT×Code×Pos):=(r.1,r.2.2.1,(staticsOk mods (boot_heap w.params) r.2.1.abs.heap&&namesBound pw r.2.1.abs.heap&&gensDone r.2.1.abs&&laidKept (boot_heap w.params) r.2.1.abs.heap),obs0 r.2.1.abs)
noncomputable def ze3 (r:Flow×SharedT×Code×Pos):=openSeen qvw loose0 mods Xt0 true r.2.1.abs
noncomputable def ck0:List Stmt:=YA
noncomputable def lhs (w:World)(os:OsState):=(segRunT treeTable pw w 11 ann0 1 3108 (sB w os) (piecesOf ck0 env0 cE pos0 B0)).map (zch w)
noncomputable def rhs (w:World)(_:OsState):=some (Flow.next,cE,true,val0 w)
noncomputable def lhsG (w:World)(os:OsState):=(segRunT treeTable pw w 11 ann0 1 3108 (sB w os) (piecesOf ck0 env0 cE pos0 B0)).map ze3
noncomputable def rhsG (_:World)(_:OsState):=some (openGood qvw loose0)
theorem ze4:@lhs = @lhs:=rfl
theorem ze5:@rhs = @rhs:=rfl
name_quick lhsQ for My.lhs by My.ze4
name_quick rhsQ for My.rhs by My.ze5
theorem krf (w:World):PySem.W.Fast.lhsQ (w.withFollow "special-get-raises" false)=PySem.W.Fast.rhsQ (w.withFollow "special-get-raises" false):=by kernel_rfl
theorem krt (w:World):PySem.W.Fast.lhsQ (w.withFollow "special-get-raises" true)=PySem.W.Fast.rhsQ (w.withFollow "special-get-raises" true):=by kernel_rfl
theorem kr (w:World):PySem.W.Fast.lhsQ w=PySem.W.Fast.rhsQ w:=byRow2 "special-get-raises" (P:=fun w=>PySem.W.Fast.lhsQ w=PySem.W.Fast.rhsQ w) krf krt w
theorem za5 (w:World):lhs w=rhs w:=(congrFun PySem.W.Fast.lhsQ_eq w).trans ((kr w).trans (congrFun PySem.W.Fast.rhsQ_eq w).symm)
theorem zcX:@lhsG = @lhsG:=rfl
theorem zcY:@rhsG = @rhsG:=rfl
name_quick lhsGQ for My.lhsG by My.zcX
name_quick rhsGQ for My.rhsG by My.zcY
theorem krfG (w:World):PySem.W.Fast.lhsGQ (w.withFollow "special-get-raises" false)=PySem.W.Fast.rhsGQ (w.withFollow "special-get-raises" false):=by kernel_rfl
theorem krtG (w:World):PySem.W.Fast.lhsGQ (w.withFollow "special-get-raises" true)=PySem.W.Fast.rhsGQ (w.withFollow "special-get-raises" true):=by kernel_rfl
theorem krG (w:World):PySem.W.Fast.lhsGQ w=PySem.W.Fast.rhsGQ w:=byRow2 "special-get-raises" (P:=fun w=>PySem.W.Fast.lhsGQ w=PySem.W.Fast.rhsGQ w) krfG krtG w
theorem YB (w:World):lhsG w=rhsG w:=(congrFun PySem.W.Fast.lhsGQ_eq w).trans ((krG w).trans (congrFun PySem.W.Fast.rhsGQ_eq w).symm)
noncomputable def lhs1 (w:World)(os:OsState):=topGo treeTable pw w 11 ann0 12 ⟨boot_heap w.params,#[],boot_drawn,boot_toks,os⟩ (topStub pw)
noncomputable def rhs1 (w:World)(os:OsState):Option (Shared×Thread):=some ((sB w os).abs,⟨denote treeTable cE,cE,pos0,B0⟩)
theorem zcZ:@lhs1 = @lhs1:=rfl
theorem zc0:@rhs1 = @rhs1:=rfl
name_quick lhs1Q for My.lhs1 by My.zcZ
name_quick rhs1Q for My.rhs1 by My.zc0
theorem kr1 (w:World):PySem.W.Fast.lhs1Q w=PySem.W.Fast.rhs1Q w:=by kernel_rfl
theorem ze6 (w:World):lhs1 w=rhs1 w:=(congrFun PySem.W.Fast.lhs1Q_eq w).trans ((kr1 w).trans (congrFun PySem.W.Fast.rhs1Q_eq w).symm)
noncomputable def lhs2 (w:World)(os:OsState):=segRun treeTable pw w 11 ann0 1 1 (sB w os).abs (blockOf YA env0 cE pos0 B0)
noncomputable def rhs2 (w:World)(os:OsState):Option (Flow×Shared×Code×Pos):=some (.next,(sB w os).abs,cE,pos0)
theorem zc1:@lhs2 = @lhs2:=rfl
theorem zc2:@rhs2 = @rhs2:=rfl
name_quick lhs2Q for My.lhs2 by My.zc1
name_quick rhs2Q for My.rhs2 by My.zc2
theorem kr2 (w:World):PySem.W.Fast.lhs2Q w=PySem.W.Fast.rhs2Q w:=by kernel_rfl
theorem ze7 (w:World):lhs2 w=rhs2 w:=(congrFun PySem.W.Fast.lhs2Q_eq w).trans ((kr2 w).trans (congrFun PySem.W.Fast.rhs2Q_eq w).symm)
noncomputable def lhs3 (w:World):Bool×Nat×Option Value:=((boot_heap w.params).isNs mainGlobals&&(#[]:Array GenState).size == 0,(boot_heap w.params).objs.size,(boot_heap w.params).nsMap mainGlobals "__annotations__")
theorem zc3:@lhs3 = @lhs3:=rfl
name_quick lhs3Q for My.lhs3 by My.zc3
theorem kr3 (w:World):PySem.W.Fast.lhs3Q w=(true,11,ann0):=by kernel_rfl
theorem ze8 (w:World):lhs3 w=(true,11,ann0):=(congrFun PySem.W.Fast.lhs3Q_eq w).trans (kr3 w)
theorem fin0 (w:World)(s:Shared)(q:Pos):topRun treeTable pw w 11 ann0 2 s (restOf [] env0 cE q B0)=some s:=rfl
theorem za6 (w:World)(os:OsState):∃ s:Shared,topRun treeTable pw w 11 ann0 (12+(1+(3108+2))) ⟨boot_heap w.params,#[],boot_drawn,boot_toks,os⟩ (topStub pw)=some s /\
  (staticsOk mods (boot_heap w.params) s.heap&&namesBound pw s.heap&&gensDone s&&laidKept (boot_heap w.params) s.heap)=true/\openSeen qvw loose0 mods Xt0 true s=openGood qvw loose0/\obs0 s=val0 w:=by
 obtain⟨⟨f,s,c,q⟩,hr,hF⟩:=uo.mp (congrFun (za5 w) os)
 unfold zch at hF
 simp only [gy] at hF
 obtain⟨rfl,rfl,h1,h3⟩:=hF
 have h2:openSeen qvw loose0 mods Xt0 true s.abs=openGood qvw loose0:=by
  have hG:=congrFun (YB w) os
  unfold lhsG rhsG at hG
  rw [hr,uT] at hG
  exact uU hG
 refine⟨s.abs,?_,h1,h2,h3⟩
 refine go_top (congrFun (ze6 w) os) (piece_block (congrFun (ze7 w) os) ?_)
 have k:=piece_app (segRun_of hr) (fin0 w s.abs q)
 rw [ux] at k
 exact k
theorem ze9 (w:World):(fencedOpening treeTable pw w 3223).map (fun s=>(s.heap,s.gens,s.drawn,s.toks))=some (boot_heap w.params,Array.mk [],boot_drawn,boot_toks):=boot_open (p:=pw) (N:=3223) (by kernel_rfl) (by kernel_rfl) (fun _=>rfl) w
theorem left:LeftO pw qvw loose0 Xt0 HK.obs HK.val 3223:=L2.left_run (M:=12+(1+(3108+2))) (m0:=11) (ann:=ann0) ze9 ze8 za6 (by decide)
end My
set_option maxHeartbeats 1000000
namespace L2
open PySem PySem.Spec PyProof.Rows
abbrev Key:=Sum Int Str
noncomputable def Zs:Key->Value->Bool
 | .inl k,v=>Value.isInt k v
 | .inr x,v=>Value.isStrOf x v
noncomputable def keyH (w:World):Key->Int
 | .inl k=>hashInt k
 | .inr x=>hashStr w x
theorem z7:∀ {k:Key} {v:Value},Zs k v=true->(∃ i t,k=Sum.inl i/\v=Value.int i t)\/(∃ x t,k=Sum.inr x/\v=Value.str x t)
 | .inl i,v,h=>by
  obtain⟨t,e⟩:=Value.isInt_shape (k:=i) (v:=v) h
  exact .inl ⟨i,t,rfl,e⟩
 | .inr x,v,h=>by
  obtain⟨t,e⟩:=Value.isStrOf_shape (x:=x) (v:=v) h
  exact .inr ⟨x,t,rfl,e⟩
theorem VV (i:Int)(t:Tok):Zs (.inl i) (.int i t)=true:=by simp [Zs,Value.isInt]
theorem VW (x:Str)(t:Tok):Zs (.inr x) (.str x t)=true:=by simp [Zs,Value.isStrOf]
theorem zc4 (a b:Int):decide ((Sum.inl a:Key)=Sum.inl b)=(a == b):=by
 by_cases e:a=b
 ·subst e;simp
 ·have h:¬ (Sum.inl a:Key)=Sum.inl b:=fun q=>e (Sum.inl.inj q)
  rw [uV h]
  exact(Um.mpr e).symm
theorem zc5 (a b:Str):decide ((Sum.inr a:Key)=Sum.inr b)=decide (a=b):=by
 by_cases e:a=b
 ·subst e;simp
 ·have h:¬ (Sum.inr a:Key)=Sum.inr b:=fun q=>e (Sum.inr.inj q)
  rw [uV h,uV e]
theorem zc6 (a:Int)(b:Str):decide ((Sum.inl a:Key)=Sum.inr b)=false:=uV (fun q=>nomatch q)
theorem zc7 (a:Str)(b:Int):decide ((Sum.inr a:Key)=Sum.inl b)=false:=uV (fun q=>nomatch q)
noncomputable def zU (prog:Program)(w:World):PySem.KeyKind prog w Key where
 is:=Zs
 hash:=keyH w
 inj:=fun v a b ha hb=>by
  rcases z7 ha with⟨i,t,rfl,rfl⟩ | ⟨x,t,rfl,rfl⟩
  ·rcases z7 hb with⟨j,u,rfl,e⟩ | ⟨y,u,rfl,e⟩
   ·injection e with e1 _;rw [e1]
   ·exact nomatch e
  ·rcases z7 hb with⟨j,u,rfl,e⟩ | ⟨y,u,rfl,e⟩
   ·exact nomatch e
   ·injection e with e1 _;rw [e1]
 byValue:=fun k v h=>by
  rcases z7 h with⟨i,t,rfl,rfl⟩ | ⟨x,t,rfl,rfl⟩<;>rfl
 pyHash:=fun hv h=>by
  rcases z7 hv with⟨i,t,rfl,rfl⟩ | ⟨x,t,rfl,rfl⟩
  ·exact wpAny_pyHash_int h
  ·exact wpAny_pyHash_str h
 eqBool:=fun hu hv h=>by
  rcases z7 hu with⟨i,t,rfl,rfl⟩ | ⟨x,t,rfl,rfl⟩
  ·rcases z7 hv with⟨j,u,rfl,rfl⟩ | ⟨y,u,rfl,rfl⟩
   ·rw [zc4] at h;exact wpAny_eqBool_int h
   ·rw [zc6] at h;exact SeqAt.EqAt.int_str i t y u _ _ _ _ h
  ·rcases z7 hv with⟨j,u,rfl,rfl⟩ | ⟨y,u,rfl,rfl⟩
   ·rw [zc7] at h;exact SeqAt.EqAt.str_int x t j u _ _ _ _ h
   ·rw [zc5] at h;exact wpAny_eqBool_str h
 «strs»:=fun k x t v h=>by
  rcases z7 h with⟨i,u,rfl,e⟩ | ⟨y,u,rfl,e⟩
  ·exact nomatch e
  ·injection e with e1 _
   subst e1
   cases v<;>rfl
theorem JT (prog:Program)(w:World)(i:Int)(t:Tok):(zU prog w).is (.inl i) (.int i t)=true:=VV i t
theorem JU (prog:Program)(w:World)(x:Str)(t:Tok):(zU prog w).is (.inr x) (.str x t)=true:=VW x t
inductive V where
 | non | bl (b:Bool) | int (i:Int) | str (x:Str) | byt (b:Array UInt8) | flt (b:UInt64) | ref (a:Addr) | ty (n:String)
 deriving DecidableEq
noncomputable def RelV:V->Value->Prop
 | .non,u=>u=Value.none
 | .bl b,u=>u=Value.bool b
 | .int i,u=>∃ t,u=Value.int i t
 | .str x,u=>∃ t,u=Value.str x t
 | .byt b,u=>∃ t,u=Value.bytes b t
 | .flt b,u=>∃ t,u=Value.float b t
 | .ref a,u=>u=Value.ref a
 | .ty n,u=>u=Value.type n
abbrev Vals:List V->Lf->Prop:=Paired RelV
theorem Vals.length {xs:List V}{us:Lf}(r:Vals xs us):xs.length=us.length:=Paired.length r
theorem Vals.get:∀ {xs:List V} {us:Lf} {i:Nat} {x:V},Vals xs us->xs[i]? = some x->∃ u,us[i]? = some u/\RelV x u
 | _,_,_,_,.nil,e=>by simp at e
 | _,_,0,_,.cons r _,e=>by simp at e;subst e;exact⟨_,rfl,r⟩
 | _,_,i+1,x,.cons _ t,e=>by
  obtain⟨u,h1,h2⟩:=Vals.get (i:=i) (x:=x) t (by simpa using e)
  exact⟨u,by simpa using h1,h2⟩
theorem Vals.set {x:V}{u:Value}(r:RelV x u):∀ {xs:List V} {us:Lf} (i:Nat),Vals xs us->Vals (xs.set i x) (us.set i u)
 | _,_,_,.nil=>.nil
 | _,_,0,.cons _ t=>.cons r t
 | _,_,i+1,.cons q t=>.cons q (Vals.set r i t)
theorem Vals.append:∀ {xs ys:List V} {us ws:Lf},Vals xs us->Vals ys ws->Vals (xs++ys) (us++ws)
 | _,_,_,_,.nil,s=>s
 | _,_,_,_,.cons r t,s=>.cons r (Vals.append t s)
theorem Vals.take:∀ {xs:List V} {us:Lf} (n:Nat),Vals xs us->Vals (xs.take n) (us.take n)
 | _,_,0,_=>.nil
 | _,_,_+1,.nil=>.nil
 | _,_,n+1,.cons r t=>.cons r (Vals.take n t)
theorem Vals.drop:∀ {xs:List V} {us:Lf} (n:Nat),Vals xs us->Vals (xs.drop n) (us.drop n)
 | _,_,0,r=>r
 | _,_,_+1,.nil=>.nil
 | _,_,n+1,.cons _ t=>Vals.drop n t
def RelO:Option V->Option Value->Prop
 | some v,some u=>RelV v u
 | none,none=>True
 | _,_=>False
def KV {κ:Type}:List (κ×V)->List (κ×Value)->Prop:=Paired fun(p:κ×V) (q:κ×Value)=>p.1=q.1/\RelV p.2 q.2
noncomputable def kV:Key->V
 | .inl i=>.int i
 | .inr x=>.str x
inductive HO where
 | lst (xs:List V)
 | tup (xs:List V)
 | dK (kvs:List (Key×V)) | dT (kvs:List (List Key×V))
 | set (S:Int->Bool) (n:Nat)
 | ins (C dx:Addr) (fs:List (Str×V))
 | own (x:Addr)
 | xd (fs:List (Str×V))
 | met (f x:Addr)
 | rng (lo hi:Int)
 | frz (o:Obj) (u:HO)
 | tbl (ps:Array Value)
 | ext (φ:Heap->Prop)
abbrev Hp:=Addr->Option HO
noncomputable def upd (H:Hp)(a:Addr)(o:HO):Hp:=fun b=>if b=a then some o else H b
theorem zw {H:Hp}{a:Addr}{o:HO}:upd H a o a=some o:=by unfold upd;rw [uz rfl]
theorem zt {H:Hp}{a b:Addr}{o:HO}(h:b≠a):upd H a o b=H b:=by unfold upd;rw [uy h]
theorem zfa {H:Hp}{a b:Addr}{o u:HO}(h:H a=some o)(h':H b=some u)(d:o≠u):a≠b:=by
 intro e;subst e;rw [h] at h';exact d (uU h')
theorem jy {H:Hp}{a b:Addr}{o:HO}(h:H a=some o)(h':H b=none):a≠b:=by
 intro e;subst e;rw [h] at h';cases h'
section
variable (P:Program) (w:World)
noncomputable def qw (H:Hp)(h:Heap)(a:Addr):HO->Prop
 | .lst xs=>xs.length<=sizeLine/\∃ (its:Lf) (n:Nat),Vals xs its/\h.get? a=some { cls:=.type "list",data:=.seq its.toArray n }
 | .tup xs=>xs.length<=sizeLine/\∃ its:Lf,Vals xs its/\IsTup h a its.toArray
 | .dK kvs=>kvs.length<=sizeLine/\(a == sysModules)=false/\∃ vs,KV kvs vs/\h.DictOf (zU P w) a vs
 | .dT kvs=>kvs.length<=sizeLine/\(a == sysModules)=false/\∃ xs:List (List Key×Addr×Value),
   Paired (fun(p:List Key×V) (q:List Key×Addr×Value)=>p.1=q.1/\H q.2.1=some (.tup (p.1.map kV))/\RelV p.2 q.2.2) kvs xs /\
   ∃ o es ep,h.get? a=some o/\o.ExactDict/\o.data=.dict es ep/\es.toList=xs.map (entryOfKey (tupleKind (zU P w)))/\(xs.map (·.1)).Nodup
 | .set S n=>h.SetOf (intKind P w) a S n
 | .ins C dx fs=>H dx=some (.own a)/\fs.length<=1000/\dx≠a/\h.get? a=some (PySem.W.instObj C dx) /\
   ∃ mA,h.Ns1 dx mA/\(∀ f,RelO (fs.lookup f) (mA f))/\PySem.Within mA (fs.map (·.1))
 | .own _=>∃ o,h.get? a=some o
 | .xd fs=>∃ mA,h.Ns1 a mA/\∀ f,RelO (fs.lookup f) (mA f)
 | .rng lo hi=>∃ t u v,h.get? a=some { cls:=.type "range",data:=.fields #[.int lo t,.int hi u,.int 1 v] }
 | .frz o u=>h.get? a=some o/\qw H h a u
 | .tbl ps=>h.get? a=some { cls:=.none,data:=.fields ps }
 | .met f x=>h.get? a=some (PySem.W.methodObj (.ref f) (.ref x))
 | .ext φ=>φ h/\(∃ o,h.get? a=some o)/\∀ h1 h2:Heap,φ h1->(∀ o,h1.get? a=some o->h2.get? a=some o)->φ h2
def HOk (H:Hp)(h:Heap):Prop:=∀ a o,H a=some o->qw P w H h a o
end
section
variable {P:Program} {w:World} {H H':Hp} {h h':Heap} {a:Addr} {o:HO}
theorem qw.lt (x:qw P w H h a o):a<h.objs.size:=by
 cases o with
 | lst xs=>obtain⟨_,_,_,_,e⟩:=x;exact Heap.lt_size e
 | tup xs=>obtain⟨_,_,_,p⟩:=x;exact p.lt
 | dK kvs=>obtain⟨_,_,_,_,o,_,_,e,_⟩:=x;exact Heap.lt_size e
 | dT kvs=>obtain⟨_,_,_,_,o,_,_,e,_⟩:=x;exact Heap.lt_size e
 | set S n=>obtain⟨o,_,_,_,e,_⟩:=x;exact Heap.lt_size e
 | ins C dx fs=>obtain⟨_,_,_,e,_⟩:=x;exact Heap.lt_size e
 | own y=>obtain⟨_,e⟩:=x;exact Heap.lt_size e
 | xd fs=>obtain⟨_,⟨_,_,_,e,_⟩,_⟩:=x;exact Heap.lt_size e
 | rng lo hi=>obtain⟨_,_,_,e⟩:=x;exact Heap.lt_size e
 | frz ob u=>obtain⟨e,_⟩:=x;exact Heap.lt_size e
 | tbl ps=>exact Heap.lt_size (show h.get? a=some _ from x)
 | met f y=>exact Heap.lt_size (show h.get? a=some _ from x)
 | ext φ=>obtain⟨_,⟨_,e⟩,_⟩:=x;exact Heap.lt_size e
theorem Paired.mapP {α β:Type}{F G:α->β->Prop}:∀ {l₁:List α} {l₂:List β},Paired F l₁ l₂->(∀ a b,F a b->G a b)->Paired G l₁ l₂
 | _,_,.nil,_=>.nil
 | _,_,.cons r t,f=>.cons (f _ _ r) (Paired.mapP t f)
theorem qw.stay (x:qw P w H h a o)(k:∀ b u,(b=a\/H b=some (.own a))->h.get? b=some u->h'.get? b=some u)
  (ho:∀ b,H b=some (.own a)->H' b=some (.own a)) (ht:∀ b xs,H b=some (.tup xs)->H' b=some (.tup xs)):qw P w H' h' a o:=by
 induction o with
 | lst xs=>obtain⟨z,its,n,r,e⟩:=x;exact⟨z,its,n,r,k _ _ (.inl rfl) e⟩
 | tup xs=>obtain⟨z,its,r,ob,e,c⟩:=x;exact⟨z,its,r,ob,k _ _ (.inl rfl) e,c⟩
 | dK kvs=>obtain⟨z,y,vs,r,ob,es,ep,e,c⟩:=x;exact⟨z,y,vs,r,ob,es,ep,k _ _ (.inl rfl) e,c⟩
 | dT kvs=>
  obtain⟨z,y,xs,r,ob,es,ep,e,c⟩:=x
  exact⟨z,y,xs,Paired.mapP r fun p q z=>⟨z.1,ht _ _ z.2.1,z.2.2⟩,ob,es,ep,k _ _ (.inl rfl) e,c⟩
 | set S n=>obtain⟨ob,es,ep,t,e,c⟩:=x;exact⟨ob,es,ep,t,k _ _ (.inl rfl) e,c⟩
 | ins C dx fs=>
  obtain⟨d,z,ne,e,mA,⟨od,es,ep,e2,c⟩,r⟩:=x
  exact⟨ho _ d,z,ne,k _ _ (.inl rfl) e,mA,⟨od,es,ep,k _ _ (.inr d) e2,c⟩,r⟩
 | own y=>obtain⟨ob,e⟩:=x;exact⟨ob,k _ _ (.inl rfl) e⟩
 | xd fs=>obtain⟨mA,⟨od,es,ep,e,c⟩,r⟩:=x;exact⟨mA,⟨od,es,ep,k _ _ (.inl rfl) e,c⟩,r⟩
 | rng lo hi=>obtain⟨t,u,v,e⟩:=x;exact⟨t,u,v,k _ _ (.inl rfl) e⟩
 | frz ob u ih=>obtain⟨e,q⟩:=x;exact⟨k _ _ (.inl rfl) e,ih q⟩
 | tbl ps=>
  have e:h.get? a=some { cls:=.none,data:=.fields ps }:=x
  show h'.get? a=some { cls:=.none,data:=.fields ps }
  exact k a _ (.inl rfl) e
 | met f y=>
  have e:h.get? a=some (PySem.W.methodObj (.ref f) (.ref y)):=x
  show h'.get? a=some (PySem.W.methodObj (.ref f) (.ref y))
  exact k a _ (.inl rfl) e
 | ext φ=>obtain⟨p,⟨o,e⟩,st⟩:=x;exact⟨st _ _ p fun o q=>k _ _ (.inl rfl) q,⟨o,k _ _ (.inl rfl) e⟩,st⟩
theorem HOk.lt (x:HOk P w H h)(e:H a=some o):a<h.objs.size:=(x a o e).lt
theorem HOk.fresh (x:HOk P w H h)(e:h.objs.size<=a):H a=none:=by
 cases q:H a with
 | none=>rfl
 | some u=>exact absurd (uK (x.lt q) e) (u9 _)
theorem HOk.kept (x:HOk P w H h)(k:∀ b u,h.get? b=some u->h'.get? b=some u):HOk P w H h':=fun a o e=>
 (x a o e).stay (fun b u _ q=>k b u q) (fun _ q=>q) fun _ _ q=>q
theorem HOk.laid (x:HOk P w H h)(k:∀ b u,h.get? b=some u->h'.get? b=some u)(hp:h.objs.size<=a)(new:qw P w (upd H a o) h' a o):HOk P w (upd H a o) h':=fun b u e=>by
 have hn:=x.fresh hp
 by_cases hb:b=a
 ·subst hb;rw [zw] at e;cases e;exact new
 ·rw [zt hb] at e
  exact(x b u e).stay (fun c v _ q=>k c v q) (fun c q=>by rw [zt (jy q hn)];exact q) fun c xs q=>by rw [zt (jy q hn)];exact q
end
def Rd (H:Hp)(a:Addr)(u:HO):Prop:=H a=some u\/∃ o,H a=some (.frz o u)
theorem Rd.ok {P:Program}{w:World}{H:Hp}{h:Heap}{a:Addr}{u:HO}(r:Rd H a u)(x:HOk P w H h):qw P w H h a u:=by
 rcases r with r | ⟨o,r⟩
 ·exact x a u r
 ·obtain⟨_,q⟩:=x a _ r
  exact q
def Mut:Option HO->Prop
 | some (.lst _)=>True
 | some (.dK _)=>True
 | some (.dT _)=>True
 | some (.set _ _)=>True
 | some (.ins _ _ _)=>True
 | some (.ext _)=>True
 | _=>False
section
variable {P:Program} {w:World} {H:Hp} {h h':Heap} {x e:Addr} {o':HO}
theorem HOk.write (ok:HOk P w H h)(mu:Mut (H x))(he:e=x\/H e=some (.own x))(k:∀ b u,b≠e->h.get? b=some u->h'.get? b=some u)(heo:∃ u,h'.get? e=some u)
  (new:qw P w (upd H x o') h' x o'):HOk P w (upd H x o') h':=fun b u q=>by
 have nown:∀ c y,H c=some (.own y)->c≠x:=fun c y r z=>by subst z;rw [r] at mu;exact mu
 have ntup:∀ c xs,H c=some (.tup xs)->c≠x:=fun c xs r z=>by subst z;rw [r] at mu;exact mu
 by_cases hb:b=x
 ·subst hb;rw [zw] at q;cases q;exact new
 ·rw [zt hb] at q
  by_cases hbe:b=e
  ·have q':H b=some (.own x):=by
    rcases he with z | z
    ·exact absurd (hbe.trans z) hb
    ·rw [hbe];exact z
   rw [q] at q';cases q'
   obtain⟨v,hv⟩:=heo
   exact⟨v,by rw [hbe];exact hv⟩
  ·refine(ok b u q).stay (fun c v hc r=>k c v ?_ r) (fun c r=>by rw [zt (nown c b r)];exact r) fun c xs r=>by rw [zt (ntup c xs r)];exact r
   rcases hc with rfl | hc
   ·exact hbe
   ·rintro rfl
    rcases he with z | z
    ·exact nown c b hc z
    ·rw [hc] at z;cases z;exact hb rfl
end
structure Un (fs ex:Ld)(H H':Hp)(h h':Heap):Prop where
 keep:∀ b o,h.get? b=some o->H b=none->b∉fs->b∉ex->h'.get? b=some o
 slot:∀ b o,h.get? b=some o->H b=none->b∈fs->b∉ex->∃ sl,h'.get? b=some { o with slots:=sl }
 free:∀ b o,h.get? b=some o->H b=none->b∉ex->H' b=none
 there:∀ b o,h.get? b=some o->b∉ex->∃ o',h'.get? b=some o'
 tups:∀ b xs,H b=some (.tup xs)->H' b=some (.tup xs)
 frzs:∀ b o u,H b=some (.frz o u)->H' b=some (.frz o u)
 tbls:∀ b ps,H b=some (.tbl ps)->∃ more,H' b=some (.tbl (ps++more))
section
variable {fs fs' ex ex':Ld} {H H1 H2:Hp} {h h1 h2 h':Heap} {a x e:Addr} {o:HO}
theorem Un.any (u:Un fs ex H H1 h h1){b:Addr}{ob:Obj}(q:h.get? b=some ob)(n:H b=none)(hx:b∉ex):∃ sl,h1.get? b=some { ob with slots:=sl }:=by
 by_cases hb:b∈fs
 ·exact u.slot b ob q n hb hx
 ·exact⟨ob.slots,u.keep b ob q n hb hx⟩
theorem Un.kept (k:∀ b u,h.get? b=some u->h'.get? b=some u):Un fs ex H H h h':=
 ⟨fun b ob q _ _ _=>k b ob q,fun b ob q _ _ _=>⟨ob.slots,k b ob q⟩,fun _ _ _ n _=>n,fun b ob q _=>⟨ob,k b ob q⟩,fun _ _ q=>q,fun _ _ _ q=>q,fun _ ps q=>⟨#[],by rw [q];simp⟩⟩
theorem Un.refl:Un fs ex H H h h:=Un.kept fun _ _ q=>q
theorem Un.laid (k:∀ b u,h.get? b=some u->h'.get? b=some u)(hp:h.objs.size<=a)(hn:H a=none):Un fs ex H (upd H a o) h h' where
 keep:=fun b u q _ _ _=>k b u q
 slot:=fun b u q _ _ _=>⟨u.slots,k b u q⟩
 free:=fun b u q n _=>by rw [zt (Ud (uK (Heap.lt_size q) hp))];exact n
 there:=fun b u q _=>⟨u,k b u q⟩
 tups:=fun b xs q=>by rw [zt (jy q hn)];exact q
 frzs:=fun b u xs q=>by rw [zt (jy q hn)];exact q
 tbls:=fun b ps q=>⟨#[],by rw [zt (jy q hn),q];simp⟩
theorem Un.write (mu:Mut (H x))(he:e=x\/H e=some (.own x))(k:∀ b u,b≠e->h.get? b=some u->h'.get? b=some u)(heo:∃ u,h'.get? e=some u):Un fs ex H (upd H x o) h h':=by
 have hx:∀ b,H b=none->b≠x:=fun b n z=>by subst z;rw [n] at mu;exact mu
 have hb:∀ b,H b=none->b≠e:=fun b n z=>by
  subst z
  rcases he with r | r
  ·exact hx b n r
  ·rw [n] at r;cases r
 have hm:∀ b u,H b=some u->¬ Mut (some u)->b≠x:=fun b u q nm z=>by subst z;rw [q] at mu;exact nm mu
 refine⟨fun b u q n _ _=>k b u (hb b n) q,fun b u q n _ _=>⟨u.slots,k b u (hb b n) q⟩,fun b u q n _=>by rw [zt (hx b n)];exact n,fun b u q _=>?_,
  fun b xs q=>by rw [zt (hm b _ q fun z=>z)];exact q,fun b u xs q=>by rw [zt (hm b _ q fun z=>z)];exact q,fun b ps q=>⟨#[],by rw [zt (hm b _ q fun z=>z),q];simp⟩⟩
 by_cases hbe:b=e
 ·subst hbe;exact heo
 ·exact⟨u,k b u hbe q⟩
end
noncomputable def trk (h:Heap)(H:Hp):Ld:=(List.range h.objs.size).filter fun a=>(H a).isSome
def hidT (h:Heap)(H:Hp):Heap:=PySem.W.hideAll h (trk h H)
theorem VX (h:Heap)(H:Hp):(hidT h H).objs.size=h.objs.size:=PySem.W.hideAll_size _ _
theorem YC {h:Heap}{H:Hp}{b:Addr}{o:Obj}(e:h.get? b=some o)(n:H b=none):(hidT h H).get? b=some o:=
 PySem.W.hideAll_get _ e fun hm=>by
  have q:(H b).isSome=true:=(List.mem_filter.mp hm).2
  rw [n] at q;simp at q
theorem za7 {h:Heap}{H:Hp}{b:Addr}{o:Obj}(e:(hidT h H).get? b=some o):h.get? b=some o/\H b=none:=by
 have e':h.get? b=some o:=PySem.W.of_hideAll (trk h H) e
 refine⟨e',?_⟩
 cases q:H b with
 | none=>rfl
 | some x=>
  have hm:b∈trk h H:=List.mem_filter.mpr ⟨gL.mpr (Heap.lt_size e'),by simp [q]⟩
  have z:(hidT h H).get? b=none:=PySem.W.hideAll_none (trk h H) hm
  rw [z] at e;cases e
noncomputable def za8 (g h:Heap)(L:Addr):List (Addr×Obj):=(List.range h.objs.size).filterMap fun a=>if a=L\/(g.get? a).isSome=true then none else(h.get? a).map fun o=>(a,o)
noncomputable def rest (g h:Heap)(L d:Addr):List (Addr×Obj):=(za8 g h L).filter fun p=>decide (p.1≠d)
structure Mod (K:Le)(mg:La)(base:Heap):Prop where
 kin:K.In base
 glob:base.Ns mainGlobals mg
 blt:∃ mb,base.Ns builtinsNs mb/\∀ x:Str,x≠"__name__"->mb x=bootBuiltins x
 nolimit:base.NoLimit
structure Cx where
 prog:Program
 w:World
 K:Le
 mg:Str->Option Value
 base:Heap
 A:Around
 N:Lh
 s₀:Shared
 H₀:Hp
 env:Env
 outer:List Env
 stack:List Env
 ex:Ld
 fn:Str->Bool
 calm:Bool
 pn:List (Addr×Obj)
 xe:Value->Shared->Prop
noncomputable def frs (l:List Env):Ld:=l.filterMap (·.frame)
abbrev Cx.fs (X:Cx):Ld:=frs X.outer
def Vis (sc:Scope)(x:Str):Prop:=sc.names.lookup x=some .local\/sc.names.lookup x=some .cell\/sc.names.lookup x=some .free
def Loc (sc:Scope)(x:Str):Prop:=sc.names.lookup x=some .local\/sc.names.lookup x=some .cell
def Look (env:Env)(h:Heap)(m:La)(x:Str)(u:Value):Prop:=
 (env.kindOf x=some .local/\m x=some u)\/((env.kindOf x=some .cell\/env.kindOf x=some .free)/\∃ c,env.cells.lookup x=some c/\h.IsCell c (some u))
structure Cx.Ok (X:Cx):Prop where
 mod:Mod X.K X.mg X.base
 kind:X.env.scope.kind=.function
 glob:X.env.globals=mainGlobals
 blt:X.env.builtins=builtinsNs
 above:X.s₀.heap.objs.size<=X.env.locals
 inj:∀ x y c,X.env.cells.lookup x=some c->X.env.cells.lookup y=some c->x=y
 has:∀ x,(X.env.kindOf x=some .cell\/X.env.kindOf x=some .free)->∃ c,X.env.cells.lookup x=some c
 cab:∀ x c,X.fn x=true->X.env.cells.lookup x=some c->X.s₀.heap.objs.size<=c
 hd:X.calm=true->X.A.handled=none
 frames:X.A.frames=some X.stack
 stk:X.stack=X.outer\/(X.stack=X.env::X.outer/\X.env.frame=some X.env.locals)
 exf:∀ b∈X.ex,b≠X.env.locals/\∀ x c,X.env.cells.lookup x=some c->c≠b
 bs:∀ b o,X.base.get? b=some o->X.s₀.heap.get? b=some o/\X.H₀ b=none
 bsz:X.base.objs.size<=X.s₀.heap.objs.size
 noex:∀ b o,X.base.get? b=some o->b∉X.ex
 exfs:∀ b∈X.ex,b∉X.fs
 funs:X.s₀.heap.FunFrames X.base X.outer
 frf:∀ b∈X.fs,X.H₀ b=none
structure Inv (X:Cx)(pins:List (Addr×Obj))(σ:List (Option V))(H:Hp)(s:Shared):Prop where
 ok:X.Ok
 os:s.os=X.s₀.os
 bare:AllBare s.gens
 base:Un X.fs X.ex X.H₀ H X.s₀.heap s.heap
 loc:∃ m,s.heap.Ns X.env.locals m/\∀ (i:Nat) (x:Str) (v:V),X.N[i]? = some x->σ[i]? = some (some v)->Vis X.env.scope x->∃ u,RelV v u/\Look X.env s.heap m x u
 cell:∀ x c,X.env.cells.lookup x=some c->∃ v,s.heap.IsCell c v
 free:H X.env.locals=none
 freeC:∀ x c,X.env.cells.lookup x=some c->H c=none
 pin:∀ p∈X.pn++pins,s.heap.get? p.1=some p.2/\H p.1=none/\p.1≠X.env.locals/\p.1∉X.fs/\∀ v,p.2.data≠.cell v
 hok:HOk X.prog X.w H s.heap
 len:σ.length=X.N.length
section
variable {X:Cx} {pins:List (Addr×Obj)} {σ:List (Option V)} {H H':Hp} {s:Shared} {h':Heap}
theorem Cx.Ok.nofr (ok:X.Ok){b:Addr}{o:Obj}(e:X.base.get? b=some o):b∉X.fs:=fun hb=>by
 have:=(ok.funs.mem hb).1
 rw [e] at this;cases this
theorem Inv.bs (I:Inv X pins σ H s):∀ b o,X.base.get? b=some o->s.heap.get? b=some o/\H b=none:=fun b o e=>
 ⟨I.base.keep b o (I.ok.bs b o e).1 (I.ok.bs b o e).2 (I.ok.nofr e) (I.ok.noex b o e),I.base.free b o (I.ok.bs b o e).1 (I.ok.bs b o e).2 (I.ok.noex b o e)⟩
theorem Inv.bk (I:Inv X pins σ H s):∀ b o,X.base.get? b=some o->s.heap.get? b=some o:=fun b o e=>(I.bs b o e).1
theorem Inv.mod (I:Inv X pins σ H s):Mod X.K X.mg X.base:=I.ok.mod
theorem Inv.kIn (I:Inv X pins σ H s):X.K.In s.heap:=I.ok.mod.kin.keeps I.bk
theorem Inv.lt (I:Inv X pins σ H s):X.env.locals<s.heap.objs.size:=let ⟨_,hn,_⟩:=I.loc;hn.lt
theorem Inv.sz (I:Inv X pins σ H s):X.s₀.heap.objs.size<=s.heap.objs.size:=uW I.ok.above (Nat.le_of_lt I.lt)
theorem Inv.nofs (I:Inv X pins σ H s){a:Addr}(h:s.heap.objs.size<=a):a∉X.fs:=fun hb=>by
 obtain⟨_,o,ho,_⟩:=I.ok.funs.mem hb
 exact absurd (uK (Heap.lt_size ho) (uW I.sz h)) (u9 _)
theorem Inv.cne (I:Inv X pins σ H s):∀ x c,X.env.cells.lookup x=some c->c≠X.env.locals:=fun x c e z=>by
 obtain⟨v,o,ho,hd⟩:=I.cell x c e
 obtain⟨m,⟨o',es,ep,ho',hd',_⟩,_⟩:=I.loc
 rw [z,ho'] at ho;cases ho;rw [hd'] at hd;cases hd
theorem Inv.funs (I:Inv X pins σ H s):s.heap.FunFrames X.base X.outer:=by
 have all:∀ (l:List Env),(∀ b∈frs l,b∈X.fs)->X.s₀.heap.FunFrames X.base l->s.heap.FunFrames X.base l:=by
  intro l
  induction l with
  | nil=>intro _ _;trivial
  | cons env r ih=>
   intro hs hl
   obtain⟨hk,⟨L,o,hf,hn,ho,hd⟩,hr⟩:=hl
   have hL:L∈X.fs:=hs L (by unfold frs;rw [gu,hf];exact ue)
   obtain⟨sl,e⟩:=I.base.slot L o ho (I.ok.frf L hL) hL fun z=>I.ok.exfs L z hL
   exact⟨hk,⟨L,_,hf,hn,e,hd⟩,ih (fun b hb=>hs b (by unfold frs;rw [gu,hf];exact ug _ hb)) hr⟩
 exact all X.outer (fun _ hb=>hb) I.ok.funs
theorem Inv.stack (I:Inv X pins σ H s):s.heap.FunFrames X.base X.stack:=by
 rcases I.ok.stk with e | ⟨e,hf⟩
 ·rw [e];exact I.funs
 ·rw [e]
  obtain⟨m,hn,_⟩:=I.loc
  refine .cons (by rw [I.ok.kind];decide) hf hn ?_ I.funs
  exact Heap.get?_none_of_le (uW I.ok.bsz I.ok.above)
theorem Inv.stkSub (I:Inv X pins σ H s):∀ b∈frs X.stack,b∈X.env.locals::X.fs:=fun b hb=>by
 rcases I.ok.stk with e | ⟨e,hf⟩
 ·rw [e] at hb;exact ug _ hb
 ·rw [e] at hb
  unfold frs at hb
  rw [gu,hf] at hb
  exact hb
theorem Inv.stkFree (I:Inv X pins σ H s):∀ b∈frs X.stack,H b=none:=fun b hb=>by
 rcases um.mp (I.stkSub b hb) with e | hb
 ·rw [e];exact I.free
 ·obtain⟨_,o,ho,_⟩:=I.ok.funs.mem hb
  exact I.base.free b o ho (I.ok.frf b hb) fun z=>I.ok.exfs b z hb
theorem Inv.step {g':Array GenState}{t':Nat}{d':Drawn}{ch:Ld}(I:Inv X pins σ H s)
  (hch:∀ b∈ch,(b∈X.ex\/X.s₀.heap.objs.size<=b)/\b≠X.env.locals/\(∀ x c,X.env.cells.lookup x=some c->c≠b)/\∀ p∈X.pn++pins,p.1≠b)
  (keep:∀ b o,b≠X.env.locals->b∉X.fs->b∉ch->s.heap.get? b=some o->H b=none->h'.get? b=some o)
  (slot:∀ b o,b≠X.env.locals->b∈X.fs->b∉ch->s.heap.get? b=some o->H b=none->∃ sl,h'.get? b=some { o with slots:=sl }) (free:∀ b o,b∉ch->s.heap.get? b=some o->H b=none->H' b=none)
  (there:∀ b o,b∉ch->s.heap.get? b=some o->∃ o',h'.get? b=some o')
  (tups:∀ b xs,H b=some (.tup xs)->H' b=some (.tup xs)) (frzs:∀ b o u,H b=some (.frz o u)->H' b=some (.frz o u)) (tbls:∀ b ps,H b=some (.tbl ps)->∃ more,H' b=some (.tbl (ps++more)))
  (ns:∀ m,s.heap.Ns X.env.locals m->h'.Ns X.env.locals m) (hok:HOk X.prog X.w H' h') (hg:AllBare g') :
  Inv X pins σ H' { s with heap:=h',gens:=g',drawn:=d',toks:=t' }:=by
 have neL:∀ b o,X.s₀.heap.get? b=some o->b≠X.env.locals:=fun b o e=>Ud (uK (Heap.lt_size e) I.ok.above)
 have neC:∀ b o,X.s₀.heap.get? b=some o->b∉X.ex->b∉ch:=fun b o e hx hb=>by
  rcases(hch b hb).1 with z | z
  ·exact hx z
  ·exact absurd (uK (Heap.lt_size e) z) (u9 _)
 have cellK:∀ x c,X.env.cells.lookup x=some c->∀ v,s.heap.IsCell c v->h'.IsCell c v:=fun x c e v ⟨o,ho,hd⟩=>by
  have nch:c∉ch:=fun z=>(hch c z).2.2.1 x c e rfl
  by_cases hc:c∈X.fs
  ·obtain⟨sl,q⟩:=slot c o (I.cne x c e) hc nch ho (I.freeC x c e)
   exact⟨_,q,hd⟩
  ·exact⟨o,keep c o (I.cne x c e) hc nch ho (I.freeC x c e),hd⟩
 refine⟨I.ok,I.os,hg,⟨fun b o e n hb hx=>?_,fun b o e n hb hx=>?_,fun b o e n hx=>?_,fun b o e hx=>?_,fun b xs e=>tups b xs (I.base.tups b xs e),fun b o xs e=>frzs b o xs (I.base.frzs b o xs e),fun b ps e=>?_⟩,?_,fun x c e=>?_,?_,fun x c e=>?_,fun p hp=>?_,hok,I.len⟩
 ·exact keep b o (neL b o e) hb (neC b o e hx) (I.base.keep b o e n hb hx) (I.base.free b o e n hx)
 ·obtain⟨sl,e1⟩:=I.base.slot b o e n hb hx
  obtain⟨sl',e2⟩:=slot b _ (neL b o e) hb (neC b o e hx) e1 (I.base.free b o e n hx)
  exact⟨sl',e2⟩
 ·obtain⟨o',e1⟩:=I.base.there b o e hx
  exact free b o' (neC b o e hx) e1 (I.base.free b o e n hx)
 ·obtain⟨o',e1⟩:=I.base.there b o e hx
  exact there b o' (neC b o e hx) e1
 ·obtain⟨m1,e1⟩:=I.base.tbls b ps e
  obtain⟨m2,e2⟩:=tbls b _ e1
  exact⟨m1++m2,by rw [e2,Array.append_assoc]⟩
 ·obtain⟨m,hn,hl⟩:=I.loc
  refine⟨m,ns m hn,fun i x v e1 e2 e3=>?_⟩
  obtain⟨u,r,l⟩:=hl i x v e1 e2 e3
  refine⟨u,r,?_⟩
  rcases l with l | ⟨k,c,e,z⟩
  ·exact .inl l
  ·exact .inr ⟨k,c,e,cellK x c e _ z⟩
 ·obtain⟨v,z⟩:=I.cell x c e
  exact⟨v,cellK x c e v z⟩
 ·obtain⟨m,⟨o,_,_,ho,_⟩,_⟩:=I.loc
  exact free _ o (fun z=>(hch _ z).2.1 rfl) ho I.free
 ·obtain⟨v,o,ho,hd⟩:=I.cell x c e
  exact free c o (fun z=>(hch c z).2.2.1 x c e rfl) ho (I.freeC x c e)
 ·obtain⟨e,n,ne,nf,d⟩:=I.pin p hp
  have nch:p.1∉ch:=fun z=>(hch p.1 z).2.2.2 p hp rfl
  exact⟨keep p.1 p.2 ne nf nch e n,free p.1 p.2 nch e n,ne,nf,d⟩
theorem Inv.un {t':Nat}(I:Inv X pins σ H s)(u:Un X.fs [] H H' s.heap h')(hok:HOk X.prog X.w H' h'):Inv X pins σ H' { s with heap:=h',toks:=t' }:=by
 obtain⟨m,⟨o,es,ep,ho,r⟩,_⟩:=id I.loc
 obtain⟨sl,hL⟩:=u.any ho I.free (by simp)
 exact I.step (g':=s.gens) (d':=s.drawn) (ch:=[]) (fun _ z=>nomatch z) (fun b o _ hb _ e n=>u.keep b o e n hb (by simp)) (fun b o _ hb _ e n=>u.slot b o e n hb (by simp)) (fun b o _ e n=>u.free b o e n (by simp)) (fun b o _ e=>u.there b o e (by simp)) u.tups u.frzs u.tbls (fun m' hm=>by
  obtain⟨o',es',ep',ho',r'⟩:=hm
  rw [ho] at ho';cases ho'
  exact⟨_,es',ep',hL,r'⟩) hok I.bare
theorem Inv.call {g':Array GenState}{t':Nat}{d':Drawn}{ch:Ld}(I:Inv X pins σ H s)(u:Un (frs X.stack) ch H H' s.heap h')(hok:HOk X.prog X.w H' h')(hg:AllBare g')
  (hch:∀ b∈ch,(b∈X.ex\/X.s₀.heap.objs.size<=b)/\b≠X.env.locals/\(∀ x c,X.env.cells.lookup x=some c->c≠b)/\∀ p∈X.pn++pins,p.1≠b) :
  Inv X pins σ H' { s with heap:=h',gens:=g',drawn:=d',toks:=t' }:=by
 obtain⟨m,⟨o,es,ep,ho,r⟩,_⟩:=id I.loc
 obtain⟨sl,hL⟩:=u.any ho I.free fun z=>(hch _ z).2.1 rfl
 exact I.step (ch:=ch) hch (fun b o hL hb hc e n=>u.keep b o e n (fun z=>(um.mp (I.stkSub b z)).elim hL hb) hc) (fun b o _ _ hc e n=>u.any e n hc) (fun b o hc e n=>u.free b o e n hc) (fun b o hc e=>u.there b o e hc) u.tups u.frzs u.tbls (fun m' hm=>by
  obtain⟨o',es',ep',ho',r'⟩:=hm
  rw [ho] at ho';cases ho'
  exact⟨_,es',ep',hL,r'⟩) hok hg
theorem Inv.turned {t':Nat}{it:Addr}(I:Inv X pins σ H s)(k:∀ b o,b≠it->s.heap.get? b=some o->h'.get? b=some o)(hn:H it=none)(hL:it≠X.env.locals)
  (h1:it∈X.ex\/X.s₀.heap.objs.size<=it) (h2:∀ x c,X.env.cells.lookup x=some c->c≠it) (h3:∀ p∈X.pn++pins,p.1≠it):Inv X pins σ H { s with heap:=h',toks:=t' }:=by
 have nit:∀ b u,H b=some u->b≠it:=fun b u e z=>by rw [z,hn] at e;cases e
 refine I.step (g':=s.gens) (d':=s.drawn) (ch:=[it]) (fun b hb=>?_) (fun b o _ _ hc e _=>k b o (fun z=>hc (by simp [z])) e) (fun b o _ _ hc e _=>⟨o.slots,k b o (fun z=>hc (by simp [z])) e⟩) (fun _ _ _ _ n=>n)
  (fun b o hc e=>⟨o,k b o (fun z=>hc (by simp [z])) e⟩) (fun _ _ e=>e) (fun _ _ _ e=>e) (fun b ps e=>⟨#[],by rw [e];simp⟩) (fun m hm=>?_) (fun b u e=>?_) I.bare
 ·have e:b=it:=by simpa using hb
  subst e
  exact⟨h1,hL,h2,h3⟩
 ·obtain⟨o,es,ep,ho,r⟩:=hm
  exact⟨o,es,ep,k _ o (Ne.symm hL) ho,r⟩
 ·refine(I.hok b u e).stay (fun c v hc q=>k c v ?_ q) (fun _ q=>q) fun _ _ q=>q
  rcases hc with z | z
  ·rw [z];exact nit b u e
  ·exact nit c _ z
theorem Inv.tok (I:Inv X pins σ H s)(t:Nat):Inv X pins σ H { s with toks:=t }:=I.un (h':=s.heap) (t':=t) Un.refl I.hok
theorem Inv.kept {t':Nat}(I:Inv X pins σ H s)(k:∀ b u,s.heap.get? b=some u->h'.get? b=some u):Inv X pins σ H { s with heap:=h',toks:=t' }:=I.un (Un.kept k) (I.hok.kept k)
theorem Inv.laid {a:Addr}{o:HO}{t':Nat}(I:Inv X pins σ H s)(k:∀ b u,s.heap.get? b=some u->h'.get? b=some u)(hp:s.heap.objs.size<=a)(new:qw X.prog X.w (upd H a o) h' a o) :
  Inv X pins σ (upd H a o) { s with heap:=h',toks:=t' }:=I.un (Un.laid k hp (I.hok.fresh hp)) (I.hok.laid k hp new)
theorem Inv.write {x e:Addr}{o:HO}{t':Nat}(I:Inv X pins σ H s)(mu:Mut (H x))(he:e=x\/H e=some (.own x))(k:∀ b u,b≠e->s.heap.get? b=some u->h'.get? b=some u)(heo:∃ u,h'.get? e=some u)
  (new:qw X.prog X.w (upd H x o) h' x o):Inv X pins σ (upd H x o) { s with heap:=h',toks:=t' }:=I.un (Un.write mu he k heo) (I.hok.write mu he k heo new)
theorem Inv.pins_of {pins':List (Addr×Obj)}(I:Inv X pins σ H s)(h:∀ p∈pins',s.heap.get? p.1=some p.2/\H p.1=none/\p.1≠X.env.locals/\p.1∉X.fs/\∀ v,p.2.data≠.cell v):Inv X pins' σ H s:=
 ⟨I.ok,I.os,I.bare,I.base,I.loc,I.cell,I.free,I.freeC,fun p hp=>(ud.mp hp).elim (fun z=>I.pin p (uj _ z)) (h p),I.hok,I.len⟩
theorem JV {N:Lh}(hN:N.Nodup){i j:Nat}{x:Str}(a:N[i]? = some x)(b:N[j]? = some x):i=j:=by
 obtain⟨h1,e1⟩:=uF.mp a
 obtain⟨h2,e2⟩:=uF.mp b
 exact(List.getElem_inj hN).mp (e1.trans e2.symm)
theorem QD {M:Model}{A:Around}{E:Value->Shared->Prop}{i:Nat}{x:Str}{v:V}{u:Value}{Q:Unit->Shared->Prop}(I:Inv X pins σ H s)(hN:X.N.Nodup)(hi:X.N[i]? = some x)(hx:Loc X.env.scope x)(r:RelV v u)
  (h:∀ s',Inv X pins (σ.set i (some v)) H s'->(∃ a,Heap.SameBut a s.heap s'.heap/\(a=X.env.locals\/X.env.cells.lookup x=some a))->Q () s') (hf:X.fn x=true\/X.env.scope.names.lookup x=some .local):wpAny M A (storeName X.env x u) Q E s:=by
 obtain⟨m,hn,hl⟩:=id I.loc
 have hcls:(X.env.scope.kind == .class||(X.env.scope.kind == .module&&X.env.locals != X.env.globals))=false:=by rw [I.ok.kind];rfl
 have hiσ:i<σ.length:=by rw [I.len];exact(uF.mp hi).1
 have cne:=I.cne
 have tracked:∀ {a:Addr} {h':Heap},(∃ o,s.heap.get? a=some o/\H a=none)->Heap.SameBut a s.heap h'->HOk X.prog X.w H h':=fun {a h'} ha hs b ob e=>by
  obtain⟨_,_,hfree⟩:=ha
  refine(I.hok b ob e).stay (fun c w' hc q=>(hs.2 c ?_).trans q) (fun _ q=>q) fun _ _ q=>q
  rintro rfl
  rcases hc with rfl | hc
  ·rw [hfree] at e;cases e
  ·rw [hfree] at hc;cases hc
 rcases hx with hk | hk
 ·refine wpAny_storeName_local hk hn (fun h' hn' hs=>?_) hcls
  obtain⟨oL,_,_,hoL,_⟩:=id hn
  refine h _ ⟨I.ok,I.os,I.bare,⟨fun b o e n hb hx=>?_,fun b o e n hb hx=>?_,I.base.free,fun b o e hx=>?_,I.base.tups,I.base.frzs,I.base.tbls⟩,⟨_,hn',fun j y v' e1 e2 e3=>?_⟩,fun y c e=>?_,I.free,I.freeC,fun p hp=>?_,tracked ⟨oL,hoL,I.free⟩ hs,by simpa using I.len⟩ ⟨_,hs,.inl rfl⟩
  ·exact(hs.2 b (Ud (uK (Heap.lt_size e) I.ok.above))).trans (I.base.keep b o e n hb hx)
  ·obtain⟨sl,e1⟩:=I.base.slot b o e n hb hx
   exact⟨sl,(hs.2 b (Ud (uK (Heap.lt_size e) I.ok.above))).trans e1⟩
  ·obtain⟨o',e1⟩:=I.base.there b o e hx
   exact⟨o',(hs.2 b (Ud (uK (Heap.lt_size e) I.ok.above))).trans e1⟩
  ·by_cases hj:j=i
   ·subst hj
    rw [hi] at e1;cases e1
    rw [uP hiσ] at e2
    cases e2
    exact⟨u,r,.inl ⟨hk,by simp⟩⟩
   ·rw [uN (Ne.symm hj)] at e2
    obtain⟨u',r',q⟩:=hl j y v' e1 e2 e3
    refine⟨u',r',?_⟩
    rcases q with⟨k,e⟩ | ⟨k,c,e,z⟩
    ·refine .inl ⟨k,?_⟩
     have:y≠x:=fun e=>hj (JV hN e1 (e ▸ hi))
     simp [this,e]
    ·exact .inr ⟨k,c,e,z.sameBut hs (cne y c e)⟩
  ·obtain⟨w',z⟩:=I.cell y c e
   exact⟨w',z.sameBut hs (cne y c e)⟩
  ·obtain⟨e,n,ne,nf,d⟩:=I.pin p hp
   exact⟨(hs.2 p.1 ne).trans e,n,ne,nf,d⟩
 ·have hfn:X.fn x=true:=by
   rcases hf with z | z
   ·exact z
   ·rw [z] at hk;cases hk
  obtain⟨c,hc⟩:=I.ok.has x (.inl hk)
  obtain⟨w',z⟩:=I.cell x c hc
  refine wpAny_storeName_cell I.ok.kind hk hc z (fun h' hc' hs=>?_)
  obtain⟨oc,hoc,hocd⟩:=id z
  refine h { s with heap:=h' } ⟨I.ok,I.os,I.bare,⟨fun b o e n hb hx=>?_,fun b o e n hb hx=>?_,I.base.free,fun b o e hx=>?_,I.base.tups,I.base.frzs,I.base.tbls⟩,⟨m,hn.sameBut hs (Ne.symm (cne x c hc)),fun j y v' e1 e2 e3=>?_⟩,fun y c' e=>?_,I.free,I.freeC,fun p hp=>?_,tracked ⟨oc,hoc,I.freeC x c hc⟩ hs,by simpa using I.len⟩ ⟨c,hs,.inr hc⟩
  ·exact(hs.2 b (Ud (uK (Heap.lt_size e) (I.ok.cab x c hfn hc)))).trans (I.base.keep b o e n hb hx)
  ·obtain⟨sl,e1⟩:=I.base.slot b o e n hb hx
   exact⟨sl,(hs.2 b (Ud (uK (Heap.lt_size e) (I.ok.cab x c hfn hc)))).trans e1⟩
  ·obtain⟨o',e1⟩:=I.base.there b o e hx
   exact⟨o',(hs.2 b (Ud (uK (Heap.lt_size e) (I.ok.cab x c hfn hc)))).trans e1⟩
  ·by_cases hj:j=i
   ·subst hj
    rw [hi] at e1;cases e1
    rw [uP hiσ] at e2
    cases e2
    exact⟨u,r,.inr ⟨.inl hk,c,hc,hc'⟩⟩
   ·rw [uN (Ne.symm hj)] at e2
    obtain⟨u',r',q⟩:=hl j y v' e1 e2 e3
    refine⟨u',r',?_⟩
    rcases q with q | ⟨k,c',e,z'⟩
    ·exact .inl q
    ·refine .inr ⟨k,c',e,z'.sameBut hs ?_⟩
     rintro rfl
     exact hj (JV hN e1 (I.ok.inj _ _ _ e hc ▸ hi))
  ·by_cases hcc:c' = c
   ·subst hcc;exact⟨_,hc'⟩
   ·obtain⟨w2,z2⟩:=I.cell y c' e
    exact⟨w2,z2.sameBut hs hcc⟩
  ·obtain⟨e,n,ne,nf,d⟩:=I.pin p hp
   refine⟨(hs.2 p.1 ?_).trans e,n,ne,nf,d⟩
   intro q
   rw [q,hoc] at e
   have q':oc=p.2:=uU e
   exact d w' (by rw [← q'];exact hocd)
theorem Zt {M:Model}{A:Around}{E:Value->Shared->Prop}{i:Nat}{x:Str}{v:V}{u:Value}{Q:Unit->Shared->Prop}(I:Inv X pins σ H s)(hN:X.N.Nodup)(hi:X.N[i]? = some x)(hx:Loc X.env.scope x)(r:RelV v u)
  (h:∀ s',Inv X pins (σ.set i (some v)) H s'->Q () s') (hf:X.fn x=true\/X.env.scope.names.lookup x=some .local):wpAny M A (storeName X.env x u) Q E s:=
 QD I hN hi hx r (fun s' I' _=>h s' I') hf
theorem Inv.call' {s':Shared}{ch:Ld}(I:Inv X pins σ H s)(ho:s'.os=s.os)(u:Un (frs X.stack) ch H H' s.heap s'.heap)(hok:HOk X.prog X.w H' s'.heap)(hg:AllBare s'.gens)
  (hch:∀ b∈ch,(b∈X.ex\/X.s₀.heap.objs.size<=b)/\b≠X.env.locals/\(∀ x c,X.env.cells.lookup x=some c->c≠b)/\∀ p∈X.pn++pins,p.1≠b):Inv X pins σ H' s':=by
 obtain⟨h',g',d',t',o'⟩:=s'
 have e:o' = s.os:=ho
 subst e
 exact I.call (g':=g') (t':=t') (d':=d') u hok hg hch
end
abbrev XK:=Value->Option Addr->Hp->Prop
abbrev St:=List (Option V)
abbrev VK:=V->Hp->Prop
abbrev TE:=St->Hp->VK->Prop
abbrev TT:=St->Hp->(Bool->Hp->Prop)->Prop
abbrev TA:=St->Hp->(List V->Hp->Prop)->Prop
structure Ends where
 nx:St->Hp->Prop
 rt:VK
 bk:St->Hp->Prop:=fun _ _=>False
 ct:St->Hp->Prop:=fun _ _=>False
abbrev TS:=Ends->St->Hp->Prop
def EP (X:Cx)(pins:List (Addr×Obj))(σ:St)(Q:VK)(u:Value)(s':Shared):Prop:=∃ v H',Inv X pins σ H' s'/\RelV v u/\Q v H'
def TP (X:Cx)(pins:List (Addr×Obj))(σ:St)(Q:Bool->Hp->Prop)(b:Bool)(s':Shared):Prop:=∃ H',Inv X pins σ H' s'/\Q b H'
def AP (X:Cx)(pins:List (Addr×Obj))(σ:St)(Q:List V->Hp->Prop)(us:Lf)(s':Shared):Prop:=∃ vs H',Inv X pins σ H' s'/\Vals vs us/\Q vs H'
def SP (X:Cx)(pins:List (Addr×Obj))(D:Ends)(f:Flow)(s':Shared):Prop:=
 match f with
 | .next=>∃ σ' H',Inv X pins σ' H' s'/\D.nx σ' H'
 | .brk=>∃ σ' H',Inv X pins σ' H' s'/\D.bk σ' H'
 | .cont=>∃ σ' H',Inv X pins σ' H' s'/\D.ct σ' H'
 | .ret u=>∃ v σ' H',Inv X pins σ' H' s'/\RelV v u/\D.rt v H'
def PE (X:Cx)(e:Expr)(t:TE):Prop:=
 ∀ (pins:List (Addr×Obj)) (s:Shared) (σ:St) (H:Hp) (Q:VK),Inv X pins σ H s->t σ H Q->wpAny (model X.prog X.w) X.A (eval e X.env) (EP X pins σ Q) X.xe s
def PT (X:Cx)(e:Expr)(t:TT):Prop:=
 ∀ (pins:List (Addr×Obj)) (s:Shared) (σ:St) (H:Hp) (Q:Bool->Hp->Prop),Inv X pins σ H s->t σ H Q->wpAny (model X.prog X.w) X.A (isTrue e X.env (eval e X.env)) (TP X pins σ Q) X.xe s
def PW (X:Cx)(e:Expr)(t:TT):Prop:=
 ∀ (whole:Sem Value) (pins:List (Addr×Obj)) (s:Shared) (σ:St) (H:Hp) (Q:Bool->Hp->Prop),Inv X pins σ H s->t σ H Q->wpAny (model X.prog X.w) X.A (isTrue e X.env whole) (TP X pins σ Q) X.xe s
theorem PW.pt {X:Cx}{e:Expr}{t:TT}(h:PW X e t):PT X e t:=h _
def PA (X:Cx)(es:Lg)(t:TA):Prop:=
 ∀ (pos:Pos) (pins:List (Addr×Obj)) (s:Shared) (σ:St) (H:Hp) (Q:List V->Hp->Prop),Inv X pins σ H s->t σ H Q->wpAny (model X.prog X.w) X.A (spliced (backTo pos (starEach es X.env))) (AP X pins σ Q) X.xe s
def PS (X:Cx)(st:Stmt)(t:TS):Prop:=
 ∀ (pins:List (Addr×Obj)) (s:Shared) (σ:St) (H:Hp) (D:Ends),Inv X pins σ H s->t D σ H->wpAny (model X.prog X.w) X.A (exec st X.env) (SP X pins D) X.xe s
def PSs (X:Cx)(st:List Stmt)(t:TS):Prop:=
 ∀ (pins:List (Addr×Obj)) (s:Shared) (σ:St) (H:Hp) (D:Ends),Inv X pins σ H s->t D σ H->wpAny (model X.prog X.w) X.A (execs st X.env) (SP X pins D) X.xe s
theorem thn {α:Type}{t:Sem α}{Q Q':α->Shared->Prop}{M:Model}{A:Around}{E:Value->Shared->Prop}{s:Shared}(h:wpAny M A t Q E s)(hQ:∀ a s,Q a s->Q' a s):wpAny M A t Q' E s:=wpAny_mono h hQ fun _ _ x=>x
section
variable {X:Cx}
theorem bin {a b:Expr}{ta tb:TE}(ha:PE X a ta)(hb:PE X b tb){pins:List (Addr×Obj)}{s:Shared}{σ:St}{H:Hp}{R:V->V->Hp->Prop}(I:Inv X pins σ H s)(h:ta σ H fun x H1=>tb σ H1 fun y H2=>R x y H2)
  {α:Type} {Q:α->Shared->Prop} {f:Value->Value->Sem α}
  (hf:∀ v u s2 x y H2,Inv X pins σ H2 s2->RelV x v->RelV y u->R x y H2->wpAny (model X.prog X.w) X.A (f v u) Q X.xe s2) :
  wpAny (model X.prog X.w) X.A (eval a X.env) (fun v s₁=>wpAny (model X.prog X.w) X.A (eval b X.env) (fun u s₂=>wpAny (model X.prog X.w) X.A (f v u) Q X.xe s₂) X.xe s₁) X.xe s:=by
 refine thn (ha pins s σ H _ I h) fun v s1 ⟨x,H1,I1,r1,q1⟩=>?_
 refine thn (hb pins s1 σ H1 _ I1 q1) fun u s2 ⟨y,H2,I2,r2,q2⟩=>?_
 exact hf v u s2 x y H2 I2 r1 r2 q2
def tVar (i:Nat):TE:=fun σ H Q=>∃ v,σ[i]? = some (some v)/\Q v H
def tC (v:V):TE:=fun _ H Q=>Q v H
theorem zc8 {i:Nat}{x:Str}{pos:Pos}(hN:X.N[i]? = some x)(hv:Vis X.env.scope x)(hd:(x == ("__debug__":Str))=false) (hcd:(x == ("__classdict__":Str))=false):PE X (.Name x pos) (tVar i):=by
 intro pins s σ H Q I h
 obtain⟨v,e,h⟩:=h
 obtain⟨m,hn,hl⟩:=I.loc
 obtain⟨u,r,l⟩:=hl i x v hN e hv
 have fin:EP X pins σ Q u s:=⟨v,H,I,r,h⟩
 rcases l with⟨hk,hm⟩ | ⟨hk,c,hc,hcell⟩
 ·exact wpAny_Name (wpAny_loadName_local I.ok.kind hk hn hm fin) hd
 ·rcases hk with hk | hk
  ·exact wpAny_Name (wpAny_loadName_cell I.ok.kind hk hc hcell fin) hd
  ·exact wpAny_Name (wpAny_loadName_free I.ok.kind hk hc hcell fin hcd) hd
theorem zc9 {i j pos}:PE X (.Constant (.int i) j pos) (tC (.int i)):=fun _ _ _ H _ I h=>wpAny_Constant_int ⟨.int i,H,I.tok _,⟨_,rfl⟩,h⟩
theorem zfb {b j pos}:PE X (.Constant (.bool b) j pos) (tC (.bl b)):=fun _ _ _ H _ I h=>Constant_bool ⟨.bl b,H,I,rfl,h⟩
theorem zda {j pos}:PE X (.Constant .none j pos) (tC .non):=fun _ _ _ H _ I h=>Constant_none ⟨.non,H,I,rfl,h⟩
theorem zdb {x j pos}:PE X (.Constant (.str x) j pos) (tC (.str x)):=fun _ _ _ H _ I h=>Calls.Constant_str ⟨.str x,H,I.tok _,⟨_,rfl⟩,h⟩
def Gl (X:Cx)(x:Str):Prop:=X.env.kindOf x=some .globalImplicit
theorem xj {E:Value->Shared->Prop}{pins:List (Addr×Obj)}{s:Shared}{σ:St}{H:Hp}{x:Str}{u:Value}{pos:Pos}{Q:Value->Shared->Prop}(I:Inv X pins σ H s)(hg:Gl X x)(hm:X.mg x=some u)(h:Q u s)
  (hd:(x == ("__debug__":Str))=false):wpAny (model X.prog X.w) X.A (eval (.Name x pos) X.env) Q E s:=
 Calls.Name_function_global I.ok.kind hg (Calls.loadGlobal_global (by rw [I.ok.glob];exact I.mod.glob.keeps I.bk) hm h) hd
theorem ko {E:Value->Shared->Prop}{pins:List (Addr×Obj)}{s:Shared}{σ:St}{H:Hp}{x:Str}{u:Value}{pos:Pos}{Q:Value->Shared->Prop}(I:Inv X pins σ H s)(hg:Gl X x)(hm:X.mg x=none)(hv:bootBuiltins x=some u)(h:Q u s)
  (hn:x≠"__name__":=by decide) (hd:(x == ("__debug__":Str))=false:=by decide):wpAny (model X.prog X.w) X.A (eval (.Name x pos) X.env) Q E s:=by
 obtain⟨mb,h1,h2⟩:=I.mod.blt
 exact Calls.Name_function_global I.ok.kind hg (Calls.loadGlobal_builtin (by rw [I.ok.glob];exact I.mod.glob.keeps I.bk) hm (by rw [I.ok.blt];exact h1.keeps I.bk) ((h2 x hn).trans hv) h) hd
theorem za9 {x:Str}{v:V}{u:Value}{pos:Pos}(hg:Gl X x)(hm:X.mg x=some u)(r:RelV v u)(hd:(x == ("__debug__":Str))=false):PE X (.Name x pos) (tC v):=
 fun _ _ _ H _ I h=>xj I hg hm ⟨v,H,I,r,h⟩ hd
theorem zba {x:Str}{v:V}{u:Value}{pos:Pos}(hg:Gl X x)(hm:X.mg x=none)(hv:bootBuiltins x=some u)(r:RelV v u)(hn:x≠"__name__") (hd:(x == ("__debug__":Str))=false):PE X (.Name x pos) (tC v):=
 fun _ _ _ H _ I h=>ko I hg hm hv ⟨v,H,I,r,h⟩ hn hd
variable {a b:Expr} {ta tb:TE} {pos:Pos}
variable {tA tB':TT} {rest:Lg}
def tAnd (t u:TT):TT:=fun σ H Q=>t σ H fun c H1=>if c=true then u σ H1 Q else Q false H1
def tOr (t u:TT):TT:=fun σ H Q=>t σ H fun c H1=>if c=true then Q true H1 else u σ H1 Q
def tNot (t:TT):TT:=fun σ H Q=>t σ H fun c H1=>Q (!c) H1
theorem zbb (ha:PT X a tA):PW X (.BoolOp .And [a] pos) tA:=by
 intro wh pins s σ H Q I h
 refine isTrue_and (thn (ha pins s σ H Q I h) fun c s1 e=>?_)
 cases c with
 | true=>exact isTrue_and_nil e
 | false=>exact e
theorem zdc (ha:PT X a tA):PW X (.BoolOp .Or [a] pos) tA:=by
 intro wh pins s σ H Q I h
 refine isTrue_or (thn (ha pins s σ H Q I h) fun c s1 e=>?_)
 cases c with
 | false=>exact isTrue_or_nil e
 | true=>exact e
theorem zdd (ha:PT X a tA)(hb:PW X (.BoolOp .And (b::rest) pos) tB'):PW X (.BoolOp .And (a::b::rest) pos) (tAnd tA tB'):=by
 intro wh pins s σ H Q I h
 refine isTrue_and (thn (ha pins s σ H _ I h) fun c s1 ⟨H1,I1,q1⟩=>?_)
 cases c with
 | true=>exact hb wh pins s1 σ H1 Q I1 q1
 | false=>exact⟨H1,I1,q1⟩
theorem zfc (ha:PT X a tA)(hb:PW X (.BoolOp .Or (b::rest) pos) tB'):PW X (.BoolOp .Or (a::b::rest) pos) (tOr tA tB'):=by
 intro wh pins s σ H Q I h
 refine isTrue_or (thn (ha pins s σ H _ I h) fun c s1 ⟨H1,I1,q1⟩=>?_)
 cases c with
 | true=>exact⟨H1,I1,q1⟩
 | false=>exact hb wh pins s1 σ H1 Q I1 q1
theorem zde (ha:PT X a tA):PT X (.UnaryOp .Not a pos) (tNot tA):=by
 intro pins s σ H Q I h
 exact isTrue_not (ha pins s σ H (fun c H1=>Q (!c) H1) I h)
def zci (ta tb:TE):TE:=fun σ H Q=>ta σ H fun x H1=>∃ c,x=.bl c/\if c=true then tb σ H1 Q else Q (.bl false) H1
def tOrV (ta tb:TE):TE:=fun σ H Q=>ta σ H fun x H1=>∃ c,x=.bl c/\if c=true then Q (.bl true) H1 else tb σ H1 Q
def zcj (ta:TE):TE:=fun σ H Q=>ta σ H fun x H1=>∃ c,x=.bl c/\Q (.bl (!c)) H1
theorem zdf {op}{t:TE}(h:PE X a t):PE X (.BoolOp op [a] pos) t:=fun pins s σ H Q I hw=>BoolOp_one (h pins s σ H Q I hw)
theorem zdg (ha:PE X a ta)(hb:PE X (.BoolOp .And (b::rest) pos) tb):PE X (.BoolOp .And (a::b::rest) pos) (zci ta tb):=by
 intro pins s σ H Q I h
 refine BoolOp_and (thn (ha pins s σ H _ I h) fun v s1 ⟨x,H1,I1,r1,q1⟩=>?_)
 obtain⟨c,rfl,q1⟩:=q1
 cases r1
 refine wpAny_truthy_bool ?_
 cases c with
 | true=>exact hb pins s1 σ H1 Q I1 q1
 | false=>exact⟨.bl false,H1,I1,rfl,q1⟩
theorem zfd (ha:PE X a ta)(hb:PE X (.BoolOp .Or (b::rest) pos) tb):PE X (.BoolOp .Or (a::b::rest) pos) (tOrV ta tb):=by
 intro pins s σ H Q I h
 refine BoolOp_or (thn (ha pins s σ H _ I h) fun v s1 ⟨x,H1,I1,r1,q1⟩=>?_)
 obtain⟨c,rfl,q1⟩:=q1
 cases r1
 refine wpAny_truthy_bool ?_
 cases c with
 | false=>exact hb pins s1 σ H1 Q I1 q1
 | true=>exact⟨.bl true,H1,I1,rfl,q1⟩
theorem zdh (ha:PE X a ta):PE X (.UnaryOp .Not a pos) (zcj ta):=by
 intro pins s σ H Q I h
 refine UnaryOp_ (thn (ha pins s σ H _ I h) fun v s1 ⟨x,H1,I1,r1,q1⟩=>?_)
 obtain⟨c,rfl,q1⟩:=q1
 cases r1
 exact not_of (wpAny_truthy_bool ⟨.bl (!c),H1,I1,rfl,q1⟩)
def tIf (t:TT)(ta tb:TE):TE:=fun σ H Q=>t σ H fun c H1=>if c=true then ta σ H1 Q else tb σ H1 Q
theorem YD {c:Expr}(hc:PT X c tA)(ha:PE X a ta)(hb:PE X b tb):PE X (.IfExp c a b pos) (tIf tA ta tb):=by
 intro pins s σ H Q I h
 refine wpAny_IfExp (thn (hc pins s σ H _ I h) fun d s1 ⟨H1,I1,q1⟩=>?_)
 cases d with
 | true=>exact ha pins s1 σ H1 Q I1 q1
 | false=>exact hb pins s1 σ H1 Q I1 q1
end
def SqL (K:Le)(H:Hp)(a:Addr)(xs:List V):Prop:=
 Rd H a (.lst xs) \/
  ∃ (o:Obj) (its:Array Value) (n:Nat),K.lookup a=some o/\o.cls=.type "list"/\o.dict=none/\o.data=.seq its n/\its.size<=sizeLine/\Vals xs its.toList
def SqT (K:Le)(H:Hp)(a:Addr)(xs:List V):Prop:=
 Rd H a (.tup xs) \/
  ∃ (o:Obj) (its:Array Value) (n:Nat),K.lookup a=some o/\o.cls=.type "tuple"/\o.data=.seq its n/\its.size<=sizeLine/\Vals xs its.toList
noncomputable def absV:Value->Option V
 | .none=>some .non
 | .bool b=>some (.bl b)
 | .int i _=>some (.int i)
 | .str x _=>some (.str x)
 | .bytes b _=>some (.byt b)
 | .float b _=>some (.flt b)
 | .ref a=>some (.ref a)
 | .type n=>some (.ty n)
 | _=>none
theorem RelV.abs {x:V}{u:Value}(r:RelV x u):absV u=some x:=by
 cases x with
 | non=>cases r;rfl
 | bl _=>cases r;rfl
 | int _=>obtain⟨t,rfl⟩:=r;rfl
 | str _=>obtain⟨t,rfl⟩:=r;rfl
 | byt _=>obtain⟨t,rfl⟩:=r;rfl
 | flt _=>obtain⟨t,rfl⟩:=r;rfl
 | ref _=>cases r;rfl
 | ty _=>cases r;rfl
theorem RelV.inj {x y:V}{u:Value}(r:RelV x u)(q:RelV y u):x=y:=uU (r.abs.symm.trans q.abs)
theorem Vals.inj:∀ {xs ys:List V} {us:Lf},Vals xs us->Vals ys us->xs=ys
 | _,_,_,.nil,.nil=>rfl
 | _,_,_,.cons r t,.cons r' t'=>by rw [r.inj r',Vals.inj t t']
section
variable {X:Cx} {pins:List (Addr×Obj)} {σ:St} {H:Hp} {s:Shared} {a:Addr} {xs ys:List V}
theorem SqL.of {K:Le}(h:H a=some (.lst xs)):SqL K H a xs:=.inl (.inl h)
theorem SqT.of {K:Le}(h:H a=some (.tup xs)):SqT K H a xs:=.inl (.inl h)
theorem Inv.list (I:Inv X pins σ H s)(h:SqL X.K H a xs):∃ its:Lf,Vals xs its/\PlainL s.heap a its.toArray/\xs.length<=sizeLine:=by
 rcases h with h | ⟨o,its,n,hk,hc,hd,hs,hz,r⟩
 ·obtain⟨z,its,n,r,e⟩:=h.ok I.hok
  exact⟨its,r,⟨_,n,e,rfl,rfl,rfl⟩,z⟩
 ·refine⟨its.toList,r,⟨o,n,I.kIn a o hk,hc,hd,by simpa using hs⟩,?_⟩
  have e:=r.length
  simp only [Array.length_toList] at e
  lia
theorem Inv.tuple (I:Inv X pins σ H s)(h:SqT X.K H a xs):∃ its:Lf,Vals xs its/\IsTup s.heap a its.toArray/\xs.length<=sizeLine:=by
 rcases h with h | ⟨o,its,n,hk,hc,hs,hz,r⟩
 ·obtain⟨z,its,r,p⟩:=h.ok I.hok
  exact⟨its,r,p,z⟩
 ·refine⟨its.toList,r,⟨o,I.kIn a o hk,hc,n,by simpa using hs⟩,?_⟩
  have e:=r.length
  simp only [Array.length_toList] at e
  lia
theorem Inv.list_inj (I:Inv X pins σ H s)(h:SqL X.K H a xs)(h':SqL X.K H a ys):xs=ys:=by
 obtain⟨its,r,⟨o,n,e,_,_,d⟩,_⟩:=I.list h
 obtain⟨its',r',⟨o',n',e',_,_,d'⟩,_⟩:=I.list h'
 rw [e] at e';cases e'
 rw [d] at d'
 injection d' with d1 _
 have:its=its':=by simpa using congrArg Array.toList d1
 subst this
 exact r.inj r'
theorem Inv.tuple_inj (I:Inv X pins σ H s)(h:SqT X.K H a xs)(h':SqT X.K H a ys):xs=ys:=by
 obtain⟨its,r,⟨o,e,_,n,d⟩,_⟩:=I.tuple h
 obtain⟨its',r',⟨o',e',_,n',d'⟩,_⟩:=I.tuple h'
 rw [e] at e';cases e'
 rw [d] at d'
 injection d' with d1 _
 have:its=its':=by simpa using congrArg Array.toList d1
 subst this
 exact r.inj r'
end
abbrev Cx.wish (X:Cx)(E:Value->Shared->Prop):Cx:={ X with xe:=E }
abbrev Cx.nox (X:Cx):Cx:=X.wish fun _ _=>False
theorem Cx.Ok.wish {X:Cx}(ok:X.Ok)(E:Value->Shared->Prop):(X.wish E).Ok:=
 ⟨ok.mod,ok.kind,ok.glob,ok.blt,ok.above,ok.inj,ok.has,ok.cab,ok.hd,ok.frames,ok.stk,ok.exf,ok.bs,ok.bsz,ok.noex,ok.exfs,ok.funs,ok.frf⟩
theorem Cx.Ok.unwish {X:Cx}{E:Value->Shared->Prop}(ok:(X.wish E).Ok):X.Ok:=
 ⟨ok.mod,ok.kind,ok.glob,ok.blt,ok.above,ok.inj,ok.has,ok.cab,ok.hd,ok.frames,ok.stk,ok.exf,ok.bs,ok.bsz,ok.noex,ok.exfs,ok.funs,ok.frf⟩
section
variable {X:Cx} {pins:List (Addr×Obj)} {σ:St} {H:Hp} {s:Shared} {E:Value->Shared->Prop}
theorem Inv.wish (I:Inv X pins σ H s)(E:Value->Shared->Prop):Inv (X.wish E) pins σ H s:=⟨I.ok.wish E,I.os,I.bare,I.base,I.loc,I.cell,I.free,I.freeC,I.pin,I.hok,I.len⟩
theorem Inv.unwish (I:Inv (X.wish E) pins σ H s):Inv X pins σ H s:=⟨I.ok.unwish,I.os,I.bare,I.base,I.loc,I.cell,I.free,I.freeC,I.pin,I.hok,I.len⟩
theorem SP.unwish {D:Ends}{f:Flow}{s':Shared}(h:SP (X.wish E) pins D f s'):SP X pins D f s':=by
 cases f with
 | next=>obtain⟨σ',H',I,q⟩:=h;exact⟨σ',H',I.unwish,q⟩
 | brk=>obtain⟨σ',H',I,q⟩:=h;exact⟨σ',H',I.unwish,q⟩
 | cont=>obtain⟨σ',H',I,q⟩:=h;exact⟨σ',H',I.unwish,q⟩
 | ret u=>obtain⟨v,σ',H',I,r,q⟩:=h;exact⟨v,σ',H',I.unwish,r,q⟩
theorem PSs.nox {st:List Stmt}{t:TS}(h:PSs X.nox st t):PSs X st t:=fun pins s σ H D I hw=>
 wpAny_mono (h pins s σ H D (I.wish _) hw) (fun _ _ q=>q.unwish) fun _ _ z=>False.elim z
end
section
variable {X:Cx} {st:Stmt} {rest:List Stmt} {t u:TS} {e:Expr} {te:TE} {pos:Pos}
def zck:TS:=fun D σ H=>D.nx σ H
def tSeq (t u:TS):TS:=fun D σ H=>t { D with nx:=u D } σ H
theorem zbc:PSs X [] zck:=fun _ _ σ H _ I h=>wpAny_execs_nil ⟨σ,H,I,h⟩
theorem YE (h1:PS X st t)(h2:PSs X rest u):PSs X (st::rest) (tSeq t u):=by
 intro pins s σ H D I h
 refine wpAny_execs_cons (thn (h1 pins s σ H { D with nx:=u D } I h) fun f s1 q=>?_)
 cases f with
 | next=>
  obtain⟨σ',H',I',q⟩:=q
  exact h2 pins s1 σ' H' D I' q
 | ret v=>exact q
 | brk=>exact q
 | cont=>exact q
theorem Inv.quiet {pins:List (Addr×Obj)}{σ:St}{H:Hp}{s:Shared}(I:Inv X pins σ H s):interactive X.env=false:=by simp [interactive,I.ok.kind]
def zcl (te:TE):TS:=fun D σ H=>te σ H fun _ H1=>D.nx σ H1
theorem zbd (he:PE X e te)(hs:swapsWith e none pos.line X.env=pure false):PS X (.Expr e pos) (zcl te):=by
 intro pins s σ H D I h
 exact wpAny_Expr_any (thn (he pins s σ H _ I h) fun v s1 ⟨x,H1,I1,r1,q1⟩=>⟨σ,H1,I1,q1⟩) I.quiet hs
def tRet (te:TE):TS:=fun D σ H=>te σ H D.rt
theorem zdi (he:PE X e te):PS X (.Return (some e) pos) (tRet te):=by
 intro pins s σ H D I h
 exact wpAny_Return_some (thn (he pins s σ H _ I h) fun v s1 ⟨x,H1,I1,r1,q1⟩=>⟨x,σ,H1,I1,r1,q1⟩)
def tIfS (c:TT)(t u:TS):TS:=fun D σ H=>c σ H fun b H1=>if b=true then t D σ H1 else u D σ H1
theorem zfe {c:Expr}{a b:List Stmt}{tc:TT}(hc:PT X c tc)(ha:PSs X a t)(hb:PSs X b u):PS X (.If c a b pos) (tIfS tc t u):=by
 intro pins s σ H D I h
 refine wpAny_If (thn (hc pins s σ H _ I h) fun d s1 ⟨H1,I1,q1⟩=>?_)
 cases d with
 | true=>exact ha pins s1 σ H1 D I1 q1
 | false=>exact hb pins s1 σ H1 D I1 q1
def zdj:TS:=fun _ _ _=>False
theorem YF:PS X st zdj:=fun _ _ _ _ _ _ h=>h.elim
end
abbrev TG:=V->St->Hp->(St->Hp->Prop)->Prop
abbrev TGs:=List V->St->Hp->(St->Hp->Prop)->Prop
def PG (X:Cx)(target:Expr)(t:TG):Prop:=
 ∀ (pins:List (Addr×Obj)) (s:Shared) (σ:St) (H:Hp) (v:V) (u:Value) (Q:St->Hp->Prop),Inv X pins σ H s->RelV v u->t v σ H Q ->
  wpAny (model X.prog X.w) X.A (assign target X.env u) (fun _ s'=>∃ σ' H',Inv X pins σ' H' s'/\Q σ' H') X.xe s
def PGs (X:Cx)(ts:Lg)(t:TGs):Prop:=
 ∀ (pins:List (Addr×Obj)) (s:Shared) (σ:St) (H:Hp) (vs:List V) (us:Lf) (Q:St->Hp->Prop),Inv X pins σ H s->Vals vs us->t vs σ H Q ->
  wpAny (model X.prog X.w) X.A (assignInOrder ((assignEach ts X.env).map (·.2)) us) (fun _ s'=>∃ σ' H',Inv X pins σ' H' s'/\Q σ' H') X.xe s
abbrev TSet:=V->V->V->Hp->(Hp->Prop)->Prop
def PSet (X:Cx)(t:TSet):Prop:=
 ∀ (pins:List (Addr×Obj)) (s:Shared) (σ:St) (H:Hp) (o i v:V) (ov iv u:Value) (Q:Hp->Prop),Inv X pins σ H s->RelV o ov->RelV i iv->RelV v u->t o i v H Q ->
  wpAny (model X.prog X.w) X.A (setItem ov iv u) (fun _ s'=>∃ H',Inv X pins σ H' s'/\Q H') X.xe s
abbrev TIp:=V->V->Hp->VK->Prop
def PIp (X:Cx)(op:Operator)(t:TIp):Prop:=
 ∀ (pins:List (Addr×Obj)) (s:Shared) (σ:St) (H:Hp) (x y:V) (v u:Value) (Q:VK),Inv X pins σ H s->RelV x v->RelV y u->t x y H Q ->
  wpAny (model X.prog X.w) X.A (inplaceOp op v u) (EP X pins σ Q) X.xe s
section
variable {X:Cx} {pos:Pos}
def jv (i:Nat):TG:=fun v σ H Q=>Q (σ.set i (some v)) H
theorem Q9 {i:Nat}{x:Str}(hN:X.N.Nodup)(hi:X.N[i]? = some x)(hx:Loc X.env.scope x)(hf:X.fn x=true\/X.env.scope.names.lookup x=some .local):PG X (.Name x pos) (jv i):=by
 intro pins s σ H v u Q I r h
 exact wpAny_assign_Name (Zt I hN hi hx r (fun s' I'=>⟨_,H,I',h⟩) hf)
def gNil:TGs:=fun vs σ H Q=>vs=[]/\Q σ H
def Zu (t:TG)(u:TGs):TGs:=fun vs σ H Q=>∃ v r,vs=v::r/\t v σ H fun σ' H'=>u r σ' H' Q
theorem X1:PGs X [] gNil:=by
 intro pins s σ H vs us Q I r h
 obtain⟨e,h⟩:=h
 subst e
 cases r
 exact assignInOrder_nil ⟨σ,H,I,h⟩
theorem JW {e:Expr}{es:Lg}{t:TG}{u:TGs}(h1:PG X e t)(h2:PGs X es u)
  (hs:(assignEach (e::es) X.env).map (·.2)=assign e X.env::(assignEach es X.env).map (·.2)):PGs X (e::es) (Zu t u):=by
 intro pins s σ H vs us Q I r h
 obtain⟨v,vr,e1,h⟩:=h
 subst e1
 cases r with
 | cons r rr=>
  rw [hs]
  refine assignInOrder_cons (thn (h1 pins s σ H _ _ _ I r h) fun _ s1 ⟨σ1,H1,I1,q1⟩=>?_)
  exact h2 pins s1 σ1 H1 _ _ Q I1 rr q1
def gTup (K:Le)(n:Nat)(t:TGs):TG:=fun v σ H Q=>∃ a xs,v=.ref a/\SqT K H a xs/\xs.length=n/\t xs σ H Q
theorem YG {es:Lg}{k:Nat}{t:TGs}{n:Nat}(hc:X.calm=true)(h:PGs X es t)
  (hn:(assignEach es X.env).length=n) (hst:(assignEach es X.env).findIdx? (·.1)=none):PG X (.Tuple es k pos) (gTup X.K n t):=by
 intro pins s σ H v u Q I r hw
 obtain⟨a,xs,e1,hq,hl,hw⟩:=hw
 subst e1
 cases r
 obtain⟨its,rv,ht,hz⟩:=I.tuple hq
 refine assign_Tuple_tuple (I.ok.hd hc) ht (by simp [hn,← hl,rv.length]) hst fun h' hx=>?_
 have I1:Inv X pins σ H { s with heap:=h' }:=I.kept (t':=s.toks) fun b o e=>hx b o (Ud (Heap.lt_size e)) e
 exact h pins _ σ H xs _ Q I1 (by simpa using rv) hw
def gSub (to ti:TE)(t:TSet):TG:=fun v σ H Q=>to σ H fun o H1=>ti σ H1 fun i H2=>t o i v H2 fun H3=>Q σ H3
theorem zdk {o i:Expr}{to ti:TE}{t:TSet}(ho:PE X o to)(hi:PE X i ti)(hs:PSet X t)
  (ha:∀ v,assign (.Subscript o i pos) X.env v=(do
   let ov ← holding [v] (eval o X.env)
   let iv ← holding [v,ov] (eval i X.env)
   standAt pos
   holding [v,ov,iv] (setItem ov iv v)
   release [v,ov,iv] [])):PG X (.Subscript o i pos) (gSub to ti t):=by
 intro pins s σ H v u Q I r h
 rw [ha]
 refine wpAny_bind (wpAny_holding (thn (ho pins s σ H _ I h) fun ov s1 ⟨x,H1,I1,r1,q1⟩=>?_))
 refine wpAny_bind (wpAny_holding (thn (hi pins s1 σ H1 _ I1 q1) fun iv s2 ⟨y,H2,I2,r2,q2⟩=>?_))
 refine wpAny_bind (wpAny_standAt (wpAny_bind (wpAny_holding (thn (hs pins s2 σ H2 x y v ov iv u _ I2 r1 r2 r q2) fun _ s3 ⟨H3,I3,q3⟩=>?_))))
 exact wpAny_release ⟨σ,H3,I3,q3⟩
def tAsg (te:TE)(g:TG):TS:=fun D σ H=>te σ H fun x H1=>g x σ H1 D.nx
theorem zdl {tg e:Expr}{te:TE}{g:TG}(he:PE X e te)(hg:PG X tg g)(hs:swapsWithSole [tg] e pos.line X.env=pure false) (hw:swappedStores [tg] e X.env=pure none)
  (h1:(assignEach [tg] X.env).map (·.2)=[assign tg X.env]):PS X (.Assign [tg] e pos) (tAsg te g):=by
 intro pins s σ H D I h
 refine wpAny_Assign_stores (thn (he pins s σ H _ I h) fun v s1 ⟨x,H1,I1,r1,q1⟩=>?_) hs hw
 rw [h1]
 exact thn (hg pins s1 σ H1 x v _ I1 r1 q1) fun _ s2 q=>q
theorem zdm {i:Nat}{x:Str}{e:Expr}{te:TE}{pos':Pos}(hN:X.N.Nodup)(hi:X.N[i]? = some x)(hx:Loc X.env.scope x)(he:PE X e te)(hs:swapsWith e (some (.Name x pos')) pos.line X.env=pure false) (hf:X.fn x=true\/X.env.scope.names.lookup x=some .local) :
  PS X (.Assign [.Name x pos'] e pos) (tAsg te (jv i)):=by
 intro pins s σ H D I h
 refine wpAny_Assign_Name (thn (he pins s σ H _ I h) fun v s1 ⟨y,H1,I1,r1,q1⟩=>?_) hs
 exact Zt I1 hN hi hx r1 (fun s2 I2=>⟨_,H1,I2,q1⟩) hf
def tAug (i:Nat)(te:TE)(ti:TIp):TS:=fun D σ H=>∃ x,σ[i]? = some (some x)/\te σ H fun y H1=>ti x y H1 fun z H2=>D.nx (σ.set i (some z)) H2
theorem YH {i:Nat}{x:Str}{e:Expr}{te:TE}{op:Operator}{ti:TIp}{pos':Pos}(hN:X.N.Nodup)(hi:X.N[i]? = some x)(hx:Loc X.env.scope x)(he:PE X e te)(ho:PIp X op ti)(hf:X.fn x=true\/X.env.scope.names.lookup x=some .local) :
  PS X (.AugAssign (.Name x pos') op e pos) (tAug i te ti):=by
 intro pins s σ H D I h
 obtain⟨v,e1,h⟩:=h
 obtain⟨m,hn,hl⟩:=I.loc
 have vis:Vis X.env.scope x:=by rcases hx with k | k;exact .inl k;exact .inr (.inl k)
 obtain⟨u,r,l⟩:=hl i x v hi e1 vis
 refine wpAny_AugAssign_Name ?_
 have go:wpAny (model X.prog X.w) X.A (eval e X.env) (fun w s₂=>wpAny (model X.prog X.w) X.A (inplaceOp op u w) (fun r s₃=>wpAny (model X.prog X.w) X.A (storeName X.env x r) (fun _=>SP X pins D .next) X.xe s₃) X.xe s₂) X.xe s:=by
  refine thn (he pins s σ H _ I h) fun w s1 ⟨y,H1,I1,r1,q1⟩=>?_
  refine thn (ho pins s1 σ H1 v y u w _ I1 r r1 q1) fun z s2 ⟨zv,H2,I2,r2,q2⟩=>?_
  exact Zt I2 hN hi hx r2 (fun s3 I3=>⟨_,H2,I3,q2⟩) hf
 rcases l with⟨hk,hm⟩ | ⟨hk,c,hc,hcell⟩
 ·exact wpAny_loadName_local I.ok.kind hk hn hm go
 ·rcases hk with hk | hk
  ·exact wpAny_loadName_cell I.ok.kind hk hc hcell go
  ·rcases hx with k | k
   ·have:X.env.scope.names.lookup x=some .free:=hk
    rw [k] at this;cases this
   ·have:X.env.scope.names.lookup x=some .free:=hk
    rw [k] at this;cases this
def ipI (f:Int->Int->Int):TIp:=fun x y H Q=>∃ i j,x=.int i/\y=.int j/\Q (.int (f i j)) H
theorem zdn:PIp X .Add (ipI fun i j=>i+j):=by
 intro pins s σ H x y v u Q I r1 r2 h
 obtain⟨i,j,e1,e2,q⟩:=h
 subst e1;subst e2
 obtain⟨t,rfl⟩:=r1
 obtain⟨t',rfl⟩:=r2
 exact iadd_int ⟨.int _,H,I.tok _,⟨_,rfl⟩,q⟩
theorem zdo:PIp X .Sub (ipI fun i j=>i - j):=by
 intro pins s σ H x y v u Q I r1 r2 h
 obtain⟨i,j,e1,e2,q⟩:=h
 subst e1;subst e2
 obtain⟨t,rfl⟩:=r1
 obtain⟨t',rfl⟩:=r2
 exact isub_int ⟨.int _,H,I.tok _,⟨_,rfl⟩,q⟩
end
section
variable {X:Cx} {pos:Pos}
noncomputable def YI (c:TT)(tb:TS):TS:=fun D σ H=>∃ W:Nat->St->Hp->Prop,(∃ m,W m σ H)/\∀ m σ H,W m σ H ->
 c σ H fun b H1=>if b=true then ∃ N:St->Hp->Prop,(∀ σ' H',N σ' H'->∃ m',m' < m/\W m' σ' H')/\tb { D with nx:=N,ct:=N,bk:=D.nx } σ H1 else D.nx σ H1
theorem YJ {c:Expr}{body:List Stmt}{tc:TT}{tb:TS}(hp:PassesOwn (model X.prog X.w) X.A X.env X.xe)(hc:PT X c tc)(hb:PSs X body tb):PS X (.While c body [] pos) (YI tc tb):=by
 intro pins s σ H D I h
 obtain⟨W,⟨m0,w0⟩,turn⟩:=h
 refine wpAny_While (codeAny_whileLoop (fun n s'=>∃ σ' H',Inv X pins σ' H' s'/\W n σ' H') ?_ m0 ⟨σ,H,I,w0⟩)
 rintro n s1 ⟨σ1,H1,I1,w1⟩
 refine wpAny_passesOwn hp (thn (hc pins s1 σ1 H1 _ I1 (turn n σ1 H1 w1)) fun b s2 ⟨H2,I2,q2⟩=>?_)
 cases b with
 | true=>
  obtain⟨N,hN,q2⟩:=q2
  rw [uz rfl]
  refine wpAny_passesOwn hp (thn (hb pins s2 σ1 H2 _ I2 q2) fun f s3 q3=>?_)
  cases f with
  | next=>
   obtain⟨σ3,H3,I3,n3⟩:=q3
   obtain⟨m',hm,w3⟩:=hN σ3 H3 n3
   exact⟨m',hm,σ3,H3,I3,w3⟩
  | cont=>
   obtain⟨σ3,H3,I3,n3⟩:=q3
   obtain⟨m',hm,w3⟩:=hN σ3 H3 n3
   exact⟨m',hm,σ3,H3,I3,w3⟩
  | brk=>exact q3
  | ret v=>exact q3
 | false=>
  rw [uy uG]
  exact wpAny_execs_nil ⟨σ1,H2,I2,q2⟩
end
structure It where
 go:Nat->Hp->Prop
 yld:Nat->Hp->V->Hp->Prop
 stop:Nat->Hp->Prop
def FpOk (X:Cx)(pins:List (Addr×Obj))(H:Hp)(b:Addr):Prop:=
 H b=none/\b≠X.env.locals/\b∉X.fs/\(b∈X.ex\/X.s₀.heap.objs.size<=b)/\(∀ x c,X.env.cells.lookup x=some c->c≠b)/\∀ p∈X.pn++pins,p.1≠b
theorem Inv.fpOk {X:Cx}{pins:List (Addr×Obj)}{σ:St}{H H':Hp}{s:Shared}{b:Addr}(I:Inv X pins σ H s)(hb:s.heap.objs.size<=b)(hn:H' b=none):FpOk X pins H' b:=by
 refine⟨hn,gC (uK I.lt hb),I.nofs hb,.inr (uW I.sz hb),fun x c e z=>?_,fun p hp z=>?_⟩
 ·obtain⟨v,q⟩:=I.cell x c e
  exact absurd (uK q.lt (by rw [z];exact hb)) (u9 _)
 ·exact absurd (uK (Heap.lt_size (I.pin p hp).1) (by rw [z];exact hb)) (u9 _)
structure Turn (P:Program)(w:World)(K:Le)(tg:Expr)(J:It)(fp:Ld)(it:Addr)(tn:Nat->Heap->Prop):Prop where
 mem:it∈fp
 obj:∀ i h,tn i h->∀ b∈fp,∃ o,h.get? b=some o/\∀ v,o.data≠.cell v
 keep:∀ i h h',tn i h->(∀ b∈fp,∀ o,h.get? b=some o->h'.get? b=some o)->tn i h'
 item:∀ (X:Cx),X.prog=P->X.w=w->X.K=K->X.calm=true->∀ (i:Nat) (pins:List (Addr×Obj)) (s:Shared) (σ:St) (H:Hp) (E:Value->Shared->Prop),Inv X pins σ H s->(∀ b∈fp,FpOk X pins H b)->tn i s.heap->J.go i H ->
  wpAny (model P w) X.A (pyNext (.ref it)) (fun r s1=>∃ u,r=some u /\
   wpAny (model P w) X.A (letOwnedTupleGo tg (.ref it) u) (fun _ s2=>∃ x H',Inv X pins σ H' s2/\RelV x u/\J.yld i H x H'/\tn (i+1) s2.heap/\∀ b∈fp,H' b=none) E s1) E s
 done:∀ (X:Cx),X.prog=P->X.w=w->X.K=K->X.calm=true->∀ (i:Nat) (pins:List (Addr×Obj)) (s:Shared) (σ:St) (H:Hp) (E:Value->Shared->Prop),Inv X pins σ H s->(∀ b∈fp,FpOk X pins H b)->tn i s.heap->J.stop i H ->
  wpAny (model P w) X.A (pyNext (.ref it)) (fun r s1=>r=none/\Inv X pins σ H s1) E s
 self:∀ (A:Around) (i:Nat) (s:Shared) (Q:Value->Shared->Prop) (E:Value->Shared->Prop),tn i s.heap->Q (.ref it) s->wpAny (model P w) A (pyIter (.ref it)) Q E s
abbrev TI:=St->Hp->(It->Hp->Prop)->Prop
def PIE (X:Cx)(pins:List (Addr×Obj))(σ:St)(tg:Expr)(R:It->Hp->Prop)(itv:Value)(s2:Shared):Prop:=
 ∃ (it:Addr) (fp:Ld) (tn:Nat->Heap->Prop) (J:It) (H':Hp),itv=.ref it/\Inv X pins σ H' s2/\Turn X.prog X.w X.K tg J fp it tn/\tn 0 s2.heap/\(∀ b∈fp,FpOk X pins H' b)/\R J H'
def PI (X:Cx)(tg iter:Expr)(wi:TI):Prop:=
 ∀ (pins:List (Addr×Obj)) (s:Shared) (σ:St) (H:Hp) (R:It->Hp->Prop),Inv X pins σ H s->wi σ H R ->
  wpAny (model X.prog X.w) X.A (eval iter X.env) (fun v s1=>wpAny (model X.prog X.w) X.A (pyIter v) (PIE X pins σ tg R) X.xe s1) X.xe s
theorem X2 {M:Model}{A:Around}{E:Value->Shared->Prop}{s:Shared}{tg:Expr}{it:Addr}{u:Value}{o:Obj}{n:String}{vs:Array Value}{Q:Unit->Shared->Prop}(ho:s.heap.get? it=some o)(hc:o.cls=.type n)(hd:o.data=.fields vs)
    (hn:["enumerate","zip","dict_itemiterator","dict_reverseitemiterator","odict_iterator","itertools.zip_longest","itertools.pairwise"].contains n=false) (hQ:Q () s):wpAny M A (letOwnedTupleGo tg (.ref it) u) Q E s:=by
  unfold letOwnedTupleGo
  cases tg<;>first
    | exact wpAny_pure hQ
    | (cases u<;>first
        | exact wpAny_pure hQ
        | (refine wpAny_bind (wpAny_load ho ?_)
           rw [hc,hd]
           show wpAny M A (if (["enumerate","zip","dict_itemiterator","dict_reverseitemiterator","odict_iterator","itertools.zip_longest","itertools.pairwise"].contains n&&vs[0]? == some (rawInt _))=true then _ else _) Q E s
           rw [uy (by intro h;rw [hn,gM] at h;cases h)]
           exact wpAny_pure hQ))
noncomputable def Itl (K:Le)(a:Addr):It:=
 ⟨fun i H=>∃ xs x,SqL K H a xs/\xs[i]? = some x,fun i H x H'=>H' = H/\∀ xs,SqL K H a xs->xs[i]? = some x,fun i H=>∃ xs,SqL K H a xs/\xs.length<=i⟩
noncomputable def Itt (K:Le)(a:Addr):It:=
 ⟨fun i H=>∃ xs x,SqT K H a xs/\xs[i]? = some x,fun i H x H'=>H' = H/\∀ xs,SqT K H a xs->xs[i]? = some x,fun i H=>∃ xs,SqT K H a xs/\xs.length<=i⟩
noncomputable def Itr (lo:Int)(n:Nat):It:=⟨fun i _=>i<n,fun i H x H'=>H' = H/\x=.int (lo+i),fun i _=>n<=i⟩
theorem VY {P:Program}{w:World}{K:Le}{tg:Expr}(a it:Addr):Turn P w K tg (Itl K a) [it] it (fun i h=>h.IsListIter it a i) where
 mem:=by simp
 obj:=fun i h st b hb=>by
  have e:b=it:=by simpa using hb
  subst e
  obtain⟨o,e,c,d⟩:=st
  exact⟨o,e,fun v z=>by rw [d] at z;cases z⟩
 keep:=fun i h h' st k=>st.at fun o e=>k it (by simp) o e
 item:=by
  intro X hP hw hK hc i pins s σ H E I hf st hg
  subst hP hw hK
  obtain⟨xs,x,hq,hx⟩:=hg
  obtain⟨its,rv,p,hz⟩:=I.list hq
  obtain⟨u,hu,ru⟩:=rv.get hx
  obtain⟨f0,f1,f2,f3,f4,f5⟩:=hf it (by simp)
  refine wpAny_pyNext_list_item st p.isList (x:=u) (by simpa using hu) fun h' st' sb=>?_
  have I1:Inv X pins σ H { s with heap:=h' }:=I.turned (t':=s.toks) (fun b o hb e=>(sb.2 b hb).trans e) f0 f1 f3 f4 f5
  obtain⟨o,e,c,d⟩:=id st'
  exact⟨u,rfl,X2 (s:={ s with heap:=h' }) e c d (by decide) ⟨x,H,I1,ru,⟨rfl,fun ys hy=>by rw [I.list_inj hy hq];exact hx⟩,st',fun b hb=>(hf b hb).1⟩⟩
 done:=by
  intro X hP hw hK hc i pins s σ H E I hf st hg
  subst hP hw hK
  obtain⟨xs,hq,hx⟩:=hg
  obtain⟨its,rv,p,hz⟩:=I.list hq
  obtain⟨f0,f1,f2,f3,f4,f5⟩:=hf it (by simp)
  have hl:=rv.length
  exact wpAny_pyNext_list_end (I.ok.hd hc) st p.isList (by simp;lia) fun h' eb=>⟨rfl,I.turned (t':=s.toks) (fun b o hb e=>eb b o hb e) f0 f1 f3 f4 f5⟩
 self:=fun _ _ _ _ _ st h=>wpAny_pyIter_listiter st h
theorem Xa {P:Program}{w:World}{K:Le}{tg:Expr}(a it:Addr):Turn P w K tg (Itt K a) [it] it (fun i h=>h.IsTupleIter it a i) where
 mem:=by simp
 obj:=fun i h st b hb=>by
  have e:b=it:=by simpa using hb
  subst e
  obtain⟨o,e,c,d⟩:=st
  exact⟨o,e,fun v z=>by rw [d] at z;cases z⟩
 keep:=fun i h h' st k=>st.at fun o e=>k it (by simp) o e
 item:=by
  intro X hP hw hK hc i pins s σ H E I hf st hg
  subst hP hw hK
  obtain⟨xs,x,hq,hx⟩:=hg
  obtain⟨its,rv,p,hz⟩:=I.tuple hq
  obtain⟨u,hu,ru⟩:=rv.get hx
  obtain⟨f0,f1,f2,f3,f4,f5⟩:=hf it (by simp)
  refine wpAny_pyNext_tuple_item st (show s.heap.IsTuple a its.toArray from p) (x:=u) (by simpa using hu) fun h' st' sb=>?_
  have I1:Inv X pins σ H { s with heap:=h' }:=I.turned (t':=s.toks) (fun b o hb e=>(sb.2 b hb).trans e) f0 f1 f3 f4 f5
  obtain⟨o,e,c,d⟩:=id st'
  exact⟨u,rfl,X2 (s:={ s with heap:=h' }) e c d (by decide) ⟨x,H,I1,ru,⟨rfl,fun ys hy=>by rw [I.tuple_inj hy hq];exact hx⟩,st',fun b hb=>(hf b hb).1⟩⟩
 done:=by
  intro X hP hw hK hc i pins s σ H E I hf st hg
  subst hP hw hK
  obtain⟨xs,hq,hx⟩:=hg
  obtain⟨its,rv,p,hz⟩:=I.tuple hq
  obtain⟨f0,f1,f2,f3,f4,f5⟩:=hf it (by simp)
  have hl:=rv.length
  exact wpAny_pyNext_tuple_end (I.ok.hd hc) st (show s.heap.IsTuple a its.toArray from p) (by simp;lia) fun h' eb=>⟨rfl,I.turned (t':=s.toks) (fun b o hb e=>eb b o hb e) f0 f1 f3 f4 f5⟩
 self:=fun _ _ _ _ _ st h=>wpAny_pyIter_tupleiter st h
theorem Xb {P:Program}{w:World}{K:Le}{tg:Expr}(it:Addr)(lo:Int)(n:Nat):Turn P w K tg (Itr lo n) [it] it (fun i h=>IsRangeIter h it (lo+(i:Nat) * 1) ((n:Int) - (i:Nat)) 1) where
 mem:=by simp
 obj:=fun i h st b hb=>by
  have e:b=it:=by simpa using hb
  subst e
  exact⟨_,st,fun v z=>by
   have z':Data.fields _=Data.cell v:=z
   cases z'⟩
 keep:=fun i h h' st k=>k it (by simp) _ st
 item:=by
  intro X hP hw hK hc i pins s σ H E I hf st hg
  subst hP hw hK
  obtain⟨f0,f1,f2,f3,f4,f5⟩:=hf it (by simp)
  have W:=Walks.range (prog:=X.prog) (w:=X.w) (I.ok.hd hc) it lo 1 n
  refine W.item i s _ _ hg st fun v h' tk hv st' kk=>?_
  obtain⟨t,rfl⟩:=hv
  have I1:Inv X pins σ H { s with heap:=h',toks:=tk }:=I.turned (fun b o hb e=>kk b o (by simpa using hb) e) f0 f1 f3 f4 f5
  refine⟨_,rfl,X2 (s:={ s with heap:=h',toks:=tk }) (n:="range_iterator") st' rfl rfl (by decide) ⟨.int (lo+i),H,I1,⟨t,?_⟩,⟨rfl,rfl⟩,st',fun b hb=>(hf b hb).1⟩⟩
  rw [Int.mul_one]
 done:=by
  intro X hP hw hK hc i pins s σ H E I hf st hg
  subst hP hw hK
  obtain⟨f0,f1,f2,f3,f4,f5⟩:=hf it (by simp)
  exact wpAny_pyNext_range_end (I.ok.hd hc) st (by have:n<=i:=hg;lia) fun h' eb=>⟨rfl,I.turned (t':=s.toks) (fun b o hb e=>eb b o hb e) f0 f1 f3 f4 f5⟩
 self:=fun _ _ _ _ _ st h=>wpAny_pyIter_rangeiter st h
section
variable {X:Cx} {tg:Expr}
theorem JX {pins:List (Addr×Obj)}{σ:St}{H:Hp}{s:Shared}{R:It->Hp->Prop}{E:Value->Shared->Prop}{lo hi:Int}{t u v:Tok}{tk:Nat}(I:Inv X pins σ H s)(h1:-(2 ^ 62)<=lo)(h2:lo<2 ^ 62)(h3:-(2 ^ 62)<=hi)(h4:hi<2 ^ 62)
  (q:R (Itr lo (hi - lo).toNat) H):wpAny (model X.prog X.w) X.A (pyIter (.ref s.heap.objs.size)) (PIE X pins σ tg R) E { s with heap:=s.heap.push { cls:=.type "range",data:=.fields #[.int lo t,.int hi u,.int 1 v] },toks:=tk }:=by
 refine wpAny_pyIter_range (IsRange.new ..) (small_one h1 h2 h3 h4) ?_
 have I1:Inv X pins σ H { s with heap:=s.heap.push { cls:=.type "range",data:=.fields #[.int lo t,.int hi u,.int 1 v] },toks:=tk }:=I.kept fun b o e=>Heap.get?_push_of_some _ e
 refine⟨(s.heap.push { cls:=.type "range",data:=.fields #[.int lo t,.int hi u,.int 1 v] }).objs.size,[(s.heap.push { cls:=.type "range",data:=.fields #[.int lo t,.int hi u,.int 1 v] }).objs.size],_,_,H,rfl,
  I1.kept (t':=tk) fun b o e=>Heap.get?_push_of_some _ e,Xb _ lo (hi - lo).toNat,?_,fun b hb=>?_,q⟩
 ·have e1:lo+((0:Nat):Int) * 1=lo:=by simp
  have e2:(((hi - lo).toNat:Nat):Int) - ((0:Nat):Int)=Builtin.Range.rangeSize lo hi 1:=by rw [rangeSize_one];split<;>lia
  show IsRangeIter _ _ (lo+((0:Nat):Int) * 1) ((((hi - lo).toNat:Nat):Int) - ((0:Nat):Int)) 1
  rw [e1,e2]
  exact Heap.get?_push_size _ rfl
 ·have e:b=(s.heap.push { cls:=.type "range",data:=.fields #[.int lo t,.int hi u,.int 1 v] }).objs.size:=by simpa using hb
  subst e
  exact I1.fpOk (uu _) (I1.hok.fresh (uu _))
def zcm (ta:TA):TI:=fun σ H R=>ta σ H fun vs H1=>∃ j:Int,vs=[.int j]/\-(2 ^ 62)<=j/\j<2 ^ 62/\R (Itr 0 j.toNat) H1
def zcn (ta:TA):TI:=fun σ H R=>ta σ H fun vs H1=>∃ i j:Int,vs=[.int i,.int j]/\(-(2 ^ 62)<=i/\i<2 ^ 62/\-(2 ^ 62)<=j/\j<2 ^ 62)/\R (Itr i (j - i).toNat) H1
theorem VZ {a:Expr}{ta:TA}{p pos:Pos}(hg:Gl X "range")(hm:X.mg "range" = none)(ha:PA X [a] ta)(hs:starEach [a] X.env=[(false,eval a X.env)]):PI X tg (.Call (.Name "range" p) [a] [] pos) (zcm ta):=by
 intro pins s σ H R I h
 refine Call_ (ko I hg hm boot_range (PyProof.Rows.callWith_type1 (thn (ha pos pins s σ H _ I h) fun us s1 ⟨vs,H1,I1,r1,q1⟩=>?_) hs rfl))
 obtain⟨j,e,q1,q2,q⟩:=q1
 subst e
 cases r1 with
 | cons r rr=>
  cases rr
  obtain⟨t,rfl⟩:=r
  exact call_range_1 (JX I1 (by lia) (by lia) q1 q2 (by simpa using q))
theorem V0 {a b:Expr}{ta:TA}{p pos:Pos}(hg:Gl X "range")(hm:X.mg "range" = none)(ha:PA X [a,b] ta)(hs:starEach [a,b] X.env=[(false,eval a X.env),(false,eval b X.env)]) (hs2:starEach [b] X.env=[(false,eval b X.env)]) :
  PI X tg (.Call (.Name "range" p) [a,b] [] pos) (zcn ta):=by
 intro pins s σ H R I h
 refine Call_ (ko I hg hm boot_range (PyProof.Rows.callWith_type1 (thn (ha pos pins s σ H _ I h) fun us s1 ⟨vs,H1,I1,r1,q1⟩=>?_) (by rw [hs,hs2]) (by rw [hs2];rfl)))
 obtain⟨i,j,e,⟨q1,q2,q3,q4⟩,q⟩:=q1
 subst e
 cases r1 with
 | cons r rr=>
  cases rr with
  | cons r' rr=>
   cases rr
   obtain⟨t,rfl⟩:=r
   obtain⟨t',rfl⟩:=r'
   exact call_range_2 (JX I1 q1 q2 q3 q4 q)
noncomputable def tFor (wi:TI)(g:TG)(tb:TS):TS:=fun D σ H=>wi σ H fun J H1=>∃ W:Nat->Nat->St->Hp->Prop,(∃ m,W 0 m σ H1)/\∀ i m σ H,W i m σ H ->
 (J.stop i H/\D.nx σ H)\/(J.go i H/\∃ N:St->Hp->Prop,(∀ σ' H',N σ' H'->∃ m',m' < m/\W (i+1) m' σ' H')/\∀ x H',J.yld i H x H'->g x σ H' fun σ2 H2=>tb { D with nx:=N,ct:=N,bk:=D.nx } σ2 H2)
noncomputable def kq (fp:Ld)(h:Heap):List (Addr×Obj):=fp.filterMap fun b=>(h.get? b).map fun o=>(b,o)
theorem xl {fp:Ld}{h:Heap}{b:Addr}{o:Obj}(hb:b∈fp)(e:h.get? b=some o):(b,o)∈kq fp h:=UW.mpr ⟨b,hb,by rw [e];rfl⟩
theorem V1 {fp:Ld}{h:Heap}{p:Addr×Obj}(hp:p∈kq fp h):p.1∈fp/\h.get? p.1=some p.2:=by
 obtain⟨b,hb,e⟩:=UW.mp hp
 cases q:h.get? b with
 | none=>rw [q] at e;cases e
 | some o=>
  rw [q] at e
  have e':(b,o)=p:=uU e
  subst e'
  exact⟨hb,q⟩
theorem Inv.pinned {pins:List (Addr×Obj)}{σ:St}{H:Hp}{s:Shared}{fp:Ld}(I:Inv X pins σ H s)(hf:∀ b∈fp,FpOk X pins H b)(ho:∀ b∈fp,∃ o,s.heap.get? b=some o/\∀ v,o.data≠.cell v):Inv X (pins++kq fp s.heap) σ H s:=
 I.pins_of fun p hp=>(ud.mp hp).elim (fun z=>I.pin p (uc _ z)) fun z=>by
  obtain⟨hb,e⟩:=V1 z
  obtain⟨f0,f1,f2,_⟩:=hf p.1 hb
  obtain⟨o,e',d⟩:=ho p.1 hb
  rw [e] at e';cases e'
  exact⟨e,f0,f1,f2,d⟩
theorem Inv.unpinned {pins pl:List (Addr×Obj)}{σ:St}{H:Hp}{s:Shared}(I:Inv X (pins++pl) σ H s):Inv X pins σ H s:=I.pins_of fun p hp=>I.pin p (uc _ (uj _ hp))
theorem Xc {iter:Expr}{body:List Stmt}{wi:TI}{g:TG}{tb:TS}{pos:Pos}(hp:PassesOwn (model X.prog X.w) X.A X.env X.xe)(hc:X.calm=true)(hi:PI X tg iter wi)(hg:PG X tg g)(hb:PSs X body tb)
  (hs:∀ x,foldedSetIterable iter X.env x=pure x):PS X (.For tg iter body [] pos) (tFor wi g tb):=by
 intro pins s σ H D I h
 refine wpAny_For (thn (hi pins s σ H _ I h) fun v s1 h1=>thn h1 fun itv s2 h2=>?_) hs
 obtain⟨it,fp,tn,J,H2,e,I2,T,st2,f2,W,⟨m0,w0⟩,turn⟩:=h2
 subst e
 have stat:∀ {H':Hp},(∀ b∈fp,H' b=none)->∀ b∈fp,FpOk X pins H' b:=fun hn b hb=>⟨hn b hb,(f2 b hb).2⟩
 refine codeAny_forLoop_any (fun n s'=>∃ i σ' H',Inv X pins σ' H' s'/\tn i s'.heap/\(∀ b∈fp,H' b=none)/\W i n σ' H') ?_ m0 ⟨0,σ,H2,I2,st2,fun b hb=>(f2 b hb).1,w0⟩
 rintro n s3 ⟨i,σ3,H3,I3,st3,fr3,w3⟩
 rcases turn i n σ3 H3 w3 with⟨stop,qn⟩ | ⟨go,N,hN,step⟩
 ·refine wpAny_passesOwn hp (thn (T.done X rfl rfl rfl hc i pins s3 σ3 H3 X.xe I3 (stat fr3) st3 stop) fun r s4 ⟨hr,I4⟩=>?_)
  subst hr
  exact wpAny_execs_nil ⟨σ3,H3,I4,qn⟩
 ·refine wpAny_passesOwn hp (thn (T.item X rfl rfl rfl hc i pins s3 σ3 H3 X.xe I3 (stat fr3) st3 go) fun r s4 ⟨u,hr,h4⟩=>?_)
  subst hr
  refine wpAny_passesOwn hp (thn h4 fun _ s5 ⟨x,H5,I5,r5,y5,st5,fr5⟩=>?_)
  have I5':=I5.pinned (stat fr5) (T.obj _ _ st5)
  refine wpAny_passesOwn hp (thn (hg _ s5 σ3 H5 x u _ I5' r5 (step x H5 y5)) fun _ s6 ⟨σ6,H6,I6,q6⟩=>?_)
  refine wpAny_passesOwn hp (thn (hb _ s6 σ6 H6 _ I6 q6) fun f s7 q7=>?_)
  have again:∀ {σ7:St} {H7:Hp},Inv X (pins++kq fp s5.heap) σ7 H7 s7->N σ7 H7->∃ m,m<n/\∃ i σ' H',Inv X pins σ' H' s7/\tn i s7.heap/\(∀ b∈fp,H' b=none)/\W i m σ' H':=fun {σ7 H7} I7 n7=>by
   obtain⟨m',hm,w7⟩:=hN σ7 H7 n7
   refine⟨m',hm,i+1,σ7,H7,I7.unpinned,T.keep _ _ _ st5 fun b hb o e=>(I7.pin (b,o) (uc _ (uc _ (xl hb e)))).1,fun b hb=>?_,w7⟩
   obtain⟨o,e,d⟩:=T.obj _ _ st5 b hb
   exact(I7.pin (b,o) (uc _ (uc _ (xl hb e)))).2.1
  cases f with
  | next=>obtain⟨σ7,H7,I7,n7⟩:=q7;exact again I7 n7
  | cont=>obtain⟨σ7,H7,I7,n7⟩:=q7;exact again I7 n7
  | brk=>obtain⟨σ7,H7,I7,q7⟩:=q7;exact⟨σ7,H7,I7.unpinned,q7⟩
  | ret v=>obtain⟨x7,σ7,H7,I7,r7,q7⟩:=q7;exact⟨x7,σ7,H7,I7.unpinned,r7,q7⟩
end
abbrev R2:=V->V->Hp->VK->Prop
def OpR (X:Cx)(f:Value->Value->Sem Value)(r:R2):Prop:=
 ∀ (pins:List (Addr×Obj)) (s:Shared) (σ:St) (H:Hp) (x y:V) (v u:Value) (Q:VK),Inv X pins σ H s->RelV x v->RelV y u->r x y H Q ->
  wpAny (model X.prog X.w) X.A (f v u) (EP X pins σ Q) X.xe s
def UnR (X:Cx)(f:Value->Sem Value)(r:V->Hp->VK->Prop):Prop:=
 ∀ (pins:List (Addr×Obj)) (s:Shared) (σ:St) (H:Hp) (x:V) (v:Value) (Q:VK),Inv X pins σ H s->RelV x v->r x H Q ->
  wpAny (model X.prog X.w) X.A (f v) (EP X pins σ Q) X.xe s
def jc (X:Cx)(f:Value)(r:List V->Hp->VK->Prop):Prop:=
 ∀ (pins:List (Addr×Obj)) (s:Shared) (σ:St) (H:Hp) (xs:List V) (us:Lf) (Q:VK),Inv X pins σ H s->Vals xs us->r xs H Q ->
  wpAny (model X.prog X.w) X.A (call f us) (EP X pins σ Q) X.xe s
def TruR (X:Cx)(r:V->Hp->(Bool->Hp->Prop)->Prop):Prop:=
 ∀ (pins:List (Addr×Obj)) (s:Shared) (σ:St) (H:Hp) (x:V) (v:Value) (Q:Bool->Hp->Prop),Inv X pins σ H s->RelV x v->r x H Q ->
  wpAny (model X.prog X.w) X.A (truthy v) (TP X pins σ Q) X.xe s
def tOp (r:R2)(ta tb:TE):TE:=fun σ H Q=>ta σ H fun x H1=>tb σ H1 fun y H2=>r x y H2 Q
def tUn (r:V->Hp->VK->Prop)(ta:TE):TE:=fun σ H Q=>ta σ H fun x H1=>r x H1 Q
def rI (C:Int->Int->Prop)(g:Int->Int->V):R2:=fun x y H Q=>∃ i j,x=.int i/\y=.int j/\C i j/\Q (g i j) H
def rI0 (g:Int->Int->V):R2:=fun x y H Q=>∃ i j,x=.int i/\y=.int j/\Q (g i j) H
def rU (g:Int->V):V->Hp->VK->Prop:=fun x H Q=>∃ i,x=.int i/\Q (g i) H
section
variable {X:Cx} {a b c:Expr} {ta tb tc:TE} {pos:Pos}
theorem binT (ha:PE X a ta)(hb:PE X b tb){pins:List (Addr×Obj)}{s:Shared}{σ:St}{H:Hp}{R:V->V->Hp->Prop}(I:Inv X pins σ H s)
  (h:ta σ H fun x H1=>tb σ H1 fun y H2=>R x y H2) {Q:Value->Shared->Prop} {f:Value->Value->Sem Value}
  (hf:∀ v u s2 x y H2,Inv X pins σ H2 s2->RelV x v->RelV y u->R x y H2->wpAny (model X.prog X.w) X.A (f v u) Q X.xe s2) :
  wpAny (model X.prog X.w) X.A (eval a X.env) (fun v s₁=>wpAny (model X.prog X.w) X.A (eval b X.env) (fun u s₂=>wpAny (model X.prog X.w) X.A (f v u) Q X.xe s₂) X.xe s₁) X.xe s:=by
 refine thn (ha pins s σ H _ I h) fun v s1 ⟨x,H1,I1,r1,q1⟩=>?_
 refine thn (hb pins s1 σ H1 _ I1 q1) fun u s2 ⟨y,H2,I2,r2,q2⟩=>?_
 exact hf v u s2 x y H2 I2 r1 r2 q2
theorem zff {op:Operator}{r:R2}(ho:OpR X (binaryOp op) r)(ha:PE X a ta)(hb:PE X b tb):PE X (.BinOp a op b pos) (tOp r ta tb):=by
 intro pins s σ H Q I h
 exact wpAny_BinOp (binT ha hb I h fun v u s2 x y H2 I2 rx ry q=>ho pins s2 σ H2 x y v u Q I2 rx ry q)
theorem zfg {op:UnaryOp}{r:V->Hp->VK->Prop}(ho:UnR X (unaryOp op) r)(ha:PE X a ta):PE X (.UnaryOp op a pos) (tUn r ta):=by
 intro pins s σ H Q I h
 exact UnaryOp_ (thn (ha pins s σ H _ I h) fun v s1 ⟨x,H1,I1,r1,q1⟩=>ho pins s1 σ H1 x v Q I1 r1 q1)
theorem augR {op:Operator}{r:R2}(ho:OpR X (inplaceOp op) r){pins:List (Addr×Obj)}{s:Shared}{σ:St}{H:Hp}{x y:V}{v u:Value}{Q:VK}(I:Inv X pins σ H s)
  (rx:RelV x v) (ry:RelV y u) (q:r x y H Q):wpAny (model X.prog X.w) X.A (inplaceOp op v u) (EP X pins σ Q) X.xe s:=ho pins s σ H x y v u Q I rx ry q
theorem opI {f:Value->Value->Sem Value}{C:Int->Int->Prop}{g:Int->Int->Int}
  (rule:∀ (i j:Int) (t u:Tok) (s:Shared) (Q:Value->Shared->Prop) (E:Value->Shared->Prop),C i j->Q (.int (g i j) s.toks) { s with toks:=s.toks+1 }->wpAny (model X.prog X.w) X.A (f (.int i t) (.int j u)) Q E s) :
  OpR X f (rI C fun i j=>.int (g i j)):=by
 intro pins s σ H x y v u Q I rx ry h
 obtain⟨i,j,rfl,rfl,hc,q⟩:=h
 obtain⟨t,rfl⟩:=rx
 obtain⟨t',rfl⟩:=ry
 exact rule i j t t' s _ _ hc ⟨.int (g i j),H,I.tok _,⟨_,rfl⟩,q⟩
theorem opI0 {f:Value->Value->Sem Value}{g:Int->Int->Int}
  (rule:∀ (i j:Int) (t u:Tok) (s:Shared) (Q:Value->Shared->Prop) (E:Value->Shared->Prop),Q (.int (g i j) s.toks) { s with toks:=s.toks+1 }->wpAny (model X.prog X.w) X.A (f (.int i t) (.int j u)) Q E s) :
  OpR X f (rI0 fun i j=>.int (g i j)):=by
 intro pins s σ H x y v u Q I rx ry h
 obtain⟨i,j,rfl,rfl,q⟩:=h
 obtain⟨t,rfl⟩:=rx
 obtain⟨t',rfl⟩:=ry
 exact rule i j t t' s _ _ ⟨.int (g i j),H,I.tok _,⟨_,rfl⟩,q⟩
theorem opB0 {f:Value->Value->Sem Value}{g:Int->Int->Bool}
  (rule:∀ (i j:Int) (t u:Tok) (s:Shared) (Q:Value->Shared->Prop) (E:Value->Shared->Prop),Q (.bool (g i j)) s->wpAny (model X.prog X.w) X.A (f (.int i t) (.int j u)) Q E s) :
  OpR X f (rI0 fun i j=>.bl (g i j)):=by
 intro pins s σ H x y v u Q I rx ry h
 obtain⟨i,j,rfl,rfl,q⟩:=h
 obtain⟨t,rfl⟩:=rx
 obtain⟨t',rfl⟩:=ry
 exact rule i j t t' s _ _ ⟨.bl (g i j),H,I,rfl,q⟩
def CDiv (i j:Int):Prop:=0<j/\j<1073741824
def CPow (i j:Int):Prop:=0<=j/\j<=1000000/\i.natAbs<2 ^ 64
def CMul (i j:Int):Prop:=(-(2 ^ 64)<i/\i<2 ^ 64)\/(-(2 ^ 64)<j/\j<2 ^ 64)
theorem CMul.ok {i j:Int}(h:CMul i j):IntMulOk i j:=by
 rcases h with⟨h1,h2⟩ | ⟨h1,h2⟩
 ·exact .of_left (intBits_le_64 h1 h2)
 ·exact .of_right (intBits_le_64 h1 h2)
theorem zdp:OpR X (binaryOp .Add) (rI0 fun i j=>.int (i+j)):=opI0 fun _ _ _ _ _ _ _ q=>add_int q
theorem zdq:OpR X (binaryOp .Sub) (rI0 fun i j=>.int (i - j)):=opI0 fun _ _ _ _ _ _ _ q=>sub_int q
theorem zbe:OpR X (binaryOp .FloorDiv) (rI CDiv fun i j=>.int (i / j)):=opI fun i j _ _ _ _ _ hc q=>by
 have h1:(0:Int)<j:=hc.1
 have h2:j<1073741824:=hc.2
 exact floordiv_int (by lia) (by rw [Int.fdiv_eq_ediv_of_nonneg i (by lia)];exact q) (.inl (PyProof.noPylong_small (by lia)))
theorem zdr:OpR X (binaryOp .Mod) (rI (fun _ j=>0<j) fun i j=>.int (i % j)):=opI fun i j _ _ _ _ _ hc q=>by
 have h1:(0:Int)<j:=hc
 exact mod_int' (by lia) (by rw [Int.fmod_eq_emod_of_nonneg i (by lia)];exact q)
theorem zds:OpR X (binaryOp .Pow) (rI CPow fun i j=>.int (i ^ j.toNat)):=opI fun _ _ _ _ _ _ _ hc q=>pow_int_small hc.1 hc.2.1 hc.2.2 q
theorem unI {f:Value->Sem Value}{g:Int->Int}
  (rule:∀ (i:Int) (t:Tok) (s:Shared) (Q:Value->Shared->Prop) (E:Value->Shared->Prop),Q (.int (g i) s.toks) { s with toks:=s.toks+1 }->wpAny (model X.prog X.w) X.A (f (.int i t)) Q E s) :
  UnR X f (rU fun i=>.int (g i)):=by
 intro pins s σ H x v Q I rx h
 obtain⟨i,rfl,q⟩:=h
 obtain⟨t,rfl⟩:=rx
 exact rule i t s _ _ ⟨.int (g i),H,I.tok _,⟨_,rfl⟩,q⟩
theorem zdt:UnR X (unaryOp .USub) (rU fun i=>.int (-i)):=unI fun _ _ _ _ _ q=>neg_int q
end
noncomputable def scal:V->V->Bool
 | .non,.non=>true | .non,.int _=>true | .int _,.non=>true | .non,.bl _=>true | .bl _,.non=>true | .non,.str _=>true | .str _,.non=>true
 | .int _,.int _=>true | .bl _,.bl _=>true | .str _,.str _=>true | .byt _,.byt _=>true
 | .int _,.str _=>true | .str _,.int _=>true | .bl _,.str _=>true | .str _,.bl _=>true
 | _,_=>false
def rEq:R2:=fun x y H Q=>scal x y=true/\Q (.bl (decide (x=y))) H
def rNe:R2:=fun x y H Q=>scal x y=true/\Q (.bl (!decide (x=y))) H
theorem X3 {i j:Int}:decide (V.int i=V.int j)=(i == j):=by
 rw [UP]
 simp
theorem YK {i j:Bool}:decide (V.bl i=V.bl j)=(i == j):=by
 rw [UP]
 simp
theorem X5 {i j:Str}:decide (V.str i=V.str j)=(i == j):=by
 rw [UP]
 simp
theorem X6 {i j:Array UInt8}:decide (V.byt i=V.byt j)=(i.toList == j.toList):=by
 rw [UP]
 cases i
 cases j
 simp
section
variable {X:Cx} {a b c:Expr} {ta tb tc:TE} {pos:Pos}
theorem zy {pins:List (Addr×Obj)}{σ:St}{H:Hp}{s:Shared}{Q:VK}{k k':Bool}(I:Inv X pins σ H s)(q:Q (.bl k) H)(e:k=k'):EP X pins σ Q (.bool k') s:=by
 subst e
 exact⟨.bl k,H,I,rfl,q⟩
theorem zfh:OpR X (compareOp .Eq) rEq:=by
 intro pins s σ H x y v u Q I rx ry h
 obtain⟨hs,q⟩:=h
 cases x with
 | non=>
  cases rx
  cases y with
  | non=>cases ry;exact PySem.EqNone.eq_none_none (zy I q (by simp))
  | bl j=>cases ry;exact PySem.EqNone.eq_none_bool (zy I q (by simp))
  | int j=>obtain⟨t',rfl⟩:=ry;exact PySem.EqNone.eq_none_int (zy I q (by simp))
  | str j=>obtain⟨t',rfl⟩:=ry;exact PySem.EqNone.eq_none_str (zy I q (by simp))
  | _=>exact absurd (show false=true from hs) uG
 | bl i=>
  cases rx
  cases y with
  | non=>cases ry;exact PySem.EqNone.eq_bool_none (zy I q (by simp))
  | bl j=>cases ry;exact eq_bool (zy I q YK)
  | str j=>obtain⟨t',rfl⟩:=ry;exact PySem.EqMixed.eq_bool_str (zy I q (by simp))
  | _=>exact absurd (show false=true from hs) uG
 | int i=>
  obtain⟨t,rfl⟩:=rx
  cases y with
  | non=>cases ry;exact PySem.EqNone.eq_int_none (zy I q (by simp))
  | int j=>obtain⟨t',rfl⟩:=ry;exact eq_int (zy I q X3)
  | str j=>obtain⟨t',rfl⟩:=ry;exact PySem.EqMixed.eq_int_str (zy I q (by simp))
  | _=>exact absurd (show false=true from hs) uG
 | str i=>
  obtain⟨t,rfl⟩:=rx
  cases y with
  | non=>cases ry;exact PySem.EqNone.eq_str_none (zy I q (by simp))
  | bl j=>cases ry;exact PySem.EqMixed.eq_str_bool (zy I q (by simp))
  | int j=>obtain⟨t',rfl⟩:=ry;exact PySem.EqMixed.eq_str_int (zy I q (by simp))
  | str j=>obtain⟨t',rfl⟩:=ry;exact eq_str (zy I q X5)
  | _=>exact absurd (show false=true from hs) uG
 | byt i=>
  obtain⟨t,rfl⟩:=rx
  cases y with
  | byt j=>obtain⟨t',rfl⟩:=ry;exact PySem.W.eq_bytes (zy I q X6)
  | _=>exact absurd (show false=true from hs) uG
 | _=>cases y<;>exact absurd (show false=true from hs) uG
theorem zfi:OpR X (compareOp .NotEq) rNe:=by
 intro pins s σ H x y v u Q I rx ry h
 obtain⟨hs,q⟩:=h
 cases x with
 | non=>
  cases rx
  cases y with
  | non=>cases ry;exact PySem.EqNone.ne_none_none (zy I q (by simp))
  | bl j=>cases ry;exact PySem.EqNone.ne_none_bool (zy I q (by simp))
  | int j=>obtain⟨t',rfl⟩:=ry;exact PySem.EqNone.ne_none_int (zy I q (by simp))
  | str j=>obtain⟨t',rfl⟩:=ry;exact PySem.EqNone.ne_none_str (zy I q (by simp))
  | _=>exact absurd (show false=true from hs) uG
 | bl i=>
  cases rx
  cases y with
  | non=>cases ry;exact PySem.EqNone.ne_bool_none (zy I q (by simp))
  | bl j=>cases ry;exact ne_bool (zy I q (congrArg not YK))
  | str j=>obtain⟨t',rfl⟩:=ry;exact PySem.EqMixed.ne_bool_str (zy I q (by simp))
  | _=>exact absurd (show false=true from hs) uG
 | int i=>
  obtain⟨t,rfl⟩:=rx
  cases y with
  | non=>cases ry;exact PySem.EqNone.ne_int_none (zy I q (by simp))
  | int j=>obtain⟨t',rfl⟩:=ry;exact ne_int (zy I q (congrArg not X3))
  | str j=>obtain⟨t',rfl⟩:=ry;exact PySem.EqMixed.ne_int_str (zy I q (by simp))
  | _=>exact absurd (show false=true from hs) uG
 | str i=>
  obtain⟨t,rfl⟩:=rx
  cases y with
  | non=>cases ry;exact PySem.EqNone.ne_str_none (zy I q (by simp))
  | bl j=>cases ry;exact PySem.EqMixed.ne_str_bool (zy I q (by simp))
  | int j=>obtain⟨t',rfl⟩:=ry;exact PySem.EqMixed.ne_str_int (zy I q (by simp))
  | str j=>obtain⟨t',rfl⟩:=ry;exact ne_str (zy I q (congrArg not X5))
  | _=>exact absurd (show false=true from hs) uG
 | byt i=>
  obtain⟨t,rfl⟩:=rx
  cases y with
  | byt j=>obtain⟨t',rfl⟩:=ry;exact PySem.W.ne_bytes (zy I q (congrArg not X6))
  | _=>exact absurd (show false=true from hs) uG
 | _=>cases y<;>exact absurd (show false=true from hs) uG
theorem zfj:OpR X (compareOp .Lt) (rI0 fun i j=>.bl (decide (i<j))):=opB0 fun _ _ _ _ _ _ _ q=>lt_int q
theorem zfk:OpR X (compareOp .LtE) (rI0 fun i j=>.bl (decide (i<=j))):=opB0 fun _ _ _ _ _ _ _ q=>le_int q
theorem zfl:OpR X (compareOp .Gt) (rI0 fun i j=>.bl (decide (j<i))):=opB0 fun _ _ _ _ _ _ _ q=>gt_int q
theorem zfm:OpR X (compareOp .GtE) (rI0 fun i j=>.bl (decide (j<=i))):=opB0 fun _ _ _ _ _ _ _ q=>ge_int q
theorem V2:OpR X (compareOp .In) (fun x y H Q=>∃ i j,x=.str i/\y=.str j/\Q (.bl (!(Builtin.Str.occurrences j i 0 j.length 1).isEmpty)) H):=by
 intro pins s σ H x y v u Q I rx ry h
 obtain⟨i,j,rfl,rfl,q⟩:=h
 obtain⟨t,rfl⟩:=rx
 obtain⟨t',rfl⟩:=ry
 exact in_str (zy I q rfl)
theorem zdu:OpR X (compareOp .Is) (fun x y H Q=>y=.non/\Q (.bl (decide (x=.non))) H):=by
 intro pins s σ H x y v u Q I rx ry h
 obtain⟨rfl,q⟩:=h
 cases ry
 refine is_none_gen (zy I q ?_)
 cases x<;>first
  | (cases rx;rfl)
  | (obtain⟨t,rfl⟩:=rx;rfl)
theorem zbf:OpR X (compareOp .IsNot) (fun x y H Q=>y=.non/\Q (.bl (!decide (x=.non))) H):=by
 intro pins s σ H x y v u Q I rx ry h
 obtain⟨rfl,q⟩:=h
 cases ry
 refine isnot_none_gen (zy I q ?_)
 cases x<;>first
  | (cases rx;rfl)
  | (obtain⟨t,rfl⟩:=rx;rfl)
theorem Ja:OpR X (compareOp .NotIn) (fun x y H Q=>∃ i j,x=.str i/\y=.str j/\Q (.bl (!(!(Builtin.Str.occurrences j i 0 j.length 1).isEmpty))) H):=by
 intro pins s σ H x y v u Q I rx ry h
 obtain⟨i,j,rfl,rfl,q⟩:=h
 obtain⟨t,rfl⟩:=rx
 obtain⟨t',rfl⟩:=ry
 exact notIn_str (zy I q rfl)
theorem OpR.or {f:Value->Value->Sem Value}{r r':R2}(h:OpR X f r)(h':OpR X f r'):OpR X f (fun x y H Q=>r x y H Q\/r' x y H Q):=by
 intro pins s σ H x y v u Q I rx ry q
 rcases q with q | q
 ·exact h pins s σ H x y v u Q I rx ry q
 ·exact h' pins s σ H x y v u Q I rx ry q
theorem zbg {op:CmpOp}{r:R2}(ho:OpR X (compareOp op) r)(ha:PE X a ta)(hb:PE X b tb)(hm:behindInMarks op b=false):PE X (.Compare a [op] [b] pos) (tOp r ta tb):=by
 intro pins s σ H Q I h
 exact wpAny_Compare1 (binT ha hb I h fun v u s2 x y H2 I2 rx ry q=>ho pins s2 σ H2 x y v u Q I2 rx ry q) hm
def YL (t:TE):TT:=fun σ H Q=>t σ H fun x H'=>∃ k,x=.bl k/\Q k H'
theorem zbh {op:CmpOp}{r:R2}(ho:OpR X (compareOp op) r)(ha:PE X a ta)(hb:PE X b tb)(hm:behindInMarks op b=false):PT X (.Compare a [op] [b] pos) (YL (tOp r ta tb)):=by
 intro pins s σ H Q I h
 refine wpAny_isTrue_Compare1 (thn (ha pins s σ H _ I h) fun v s1 ⟨x,H1,I1,r1,q1⟩=>thn (hb pins s1 σ H1 _ I1 q1) fun u s2 ⟨y,H2,I2,r2,q2⟩=>
  thn (ho pins s2 σ H2 x y v u _ I2 r1 r2 q2) fun c s3 ⟨z,H3,I3,r3,k,e,q3⟩=>?_) hm
 subst e
 cases r3
 exact wpAny_truthy_bool ⟨H3,I3,q3⟩
def Xd (r r':R2)(ta tb tc:TE):TE:=fun σ H Q=>ta σ H fun x H1=>tb σ H1 fun y H2=>r x y H2 fun z H3=>∃ k,z=.bl k /\
 (if k=true then tc σ H3 fun w' H4=>r' y w' H4 Q else Q (.bl false) H3)
theorem YM {op op':CmpOp}{r r':R2}(ho:OpR X (compareOp op) r)(ho':OpR X (compareOp op') r')(ha:PE X a ta)(hb:PE X b tb)(hc:PE X c tc)
  (hm:lastMarks [op,op'] [b,c]=false:=by with_unfolding_all rfl):PE X (.Compare a [op,op'] [b,c] pos) (Xd r r' ta tb tc):=by
 intro pins s σ H Q I h
 refine Compare_chain (thn (ha pins s σ H _ I h) fun v s1 ⟨x,H1,I1,r1,q1⟩=>chain_link (thn (hb pins s1 σ H1 _ I1 q1) fun u s2 ⟨y,H2,I2,r2,q2⟩=>
  thn (ho pins s2 σ H2 x y v u _ I2 r1 r2 q2) fun d s3 ⟨z,H3,I3,r3,k,e,q3⟩=>?_)) hm
 subst e
 cases r3
 refine wpAny_truthy_bool ?_
 cases k with
 | false=>exact ite_ff ⟨.bl false,H3,I3,rfl,q3⟩
 | true=>exact ite_tt (chain_last (thn (hc pins s3 σ H3 _ I3 q3) fun w' s4 ⟨z',H4,I4,r4,q4⟩=>ho' pins s4 σ H4 y z' u w' Q I4 r2 r4 q4))
theorem YN {op op':CmpOp}{r r':R2}(ho:OpR X (compareOp op) r)(ho':OpR X (compareOp op') r')(ha:PE X a ta)(hb:PE X b tb)(hc:PE X c tc)
  (hm:lastMarks [op,op'] [b,c]=false:=by with_unfolding_all rfl):PT X (.Compare a [op,op'] [b,c] pos) (YL (Xd r r' ta tb tc)):=by
 intro pins s σ H Q I h
 refine isTrue_chain (thn (ha pins s σ H _ I h) fun v s1 ⟨x,H1,I1,r1,q1⟩=>test_link (thn (hb pins s1 σ H1 _ I1 q1) fun u s2 ⟨y,H2,I2,r2,q2⟩=>
  thn (ho pins s2 σ H2 x y v u _ I2 r1 r2 q2) fun d s3 ⟨z,H3,I3,r3,k,e,q3⟩=>?_)) hm
 subst e
 cases r3
 refine wpAny_truthy_bool ?_
 cases k with
 | false=>
  obtain⟨k',e',q'⟩:=q3
  cases e'
  exact ite_ff ⟨H3,I3,q'⟩
 | true=>
  refine ite_tt (test_last (thn (hc pins s3 σ H3 _ I3 q3) fun w' s4 ⟨z',H4,I4,r4,q4⟩=>thn (ho' pins s4 σ H4 y z' u w' _ I4 r2 r4 q4) fun d' s5 ⟨z2,H5,I5,r5,k2,e2,q5⟩=>?_))
  subst e2
  cases r5
  exact wpAny_truthy_bool ⟨H5,I5,q5⟩
def TruV (K:Le)(x:V)(H:Hp)(k:Bool):Prop:=
 match x with
 | .non=>k=false
 | .bl b=>k=b
 | .int i=>k=(i != 0)
 | .str y=>y.length<=sizeLine/\k=((y.length:Int) != 0)
 | .byt y=>y.size<=sizeLine/\k=((y.size:Int) != 0)
 | .ref p=>(∃ xs,SqL K H p xs/\k = !xs.isEmpty)\/(∃ xs,SqT K H p xs/\k = !xs.isEmpty)\/∃ kvs,H p=some (.dK kvs)/\k = !kvs.isEmpty
 | _=>False
theorem Xe {κ:Type}{kvs:List (κ×V)}{vs:List (κ×Value)}(r:KV kvs vs):(!vs.isEmpty) = !kvs.isEmpty:=by
 cases r<;>rfl
theorem Zv {xs:List V}{its:Lf}(r:Vals xs its):(!its.toArray.isEmpty) = !xs.isEmpty:=by
 cases r<;>simp
theorem yj:(sizeLine:Nat)<2 ^ 63:=by rw [sizeLine_eq];decide
theorem zdv:TruR X (fun x H Q=>∃ k,TruV X.K x H k/\Q k H):=by
 intro pins s σ H x v Q I rx h
 obtain⟨k,e,q⟩:=h
 have hl:=yj
 have hs:sizeLine=16777216:=sizeLine_eq
 cases x with
 | non=>
  cases rx
  have e':k=false:=e
  subst e'
  exact truthy_none ⟨H,I,q⟩
 | bl b=>
  cases rx
  have e':k=b:=e
  subst e'
  exact wpAny_truthy_bool ⟨H,I,q⟩
 | int i=>
  obtain⟨t,rfl⟩:=rx
  have e':k=(i != 0):=e
  subst e'
  exact PySem.P.truthy_int ⟨H,I,q⟩
 | str y=>
  obtain⟨t,rfl⟩:=rx
  obtain⟨hy,e'⟩:y.length<=sizeLine/\k=((y.length:Int) != 0):=e
  subst e'
  exact PySem.P.truthy_str (by lia) ⟨H,I.tok _,q⟩
 | byt y=>
  obtain⟨t,rfl⟩:=rx
  obtain⟨hy,e'⟩:y.size<=sizeLine/\k=((y.size:Int) != 0):=e
  subst e'
  exact PySem.W.truthy_bytes (by lia) ⟨H,I.tok _,q⟩
 | ref p=>
  cases rx
  have e':(∃ xs,SqL X.K H p xs/\k = !xs.isEmpty)\/(∃ xs,SqT X.K H p xs/\k = !xs.isEmpty)\/∃ kvs,H p=some (.dK kvs)/\k = !kvs.isEmpty:=e
  rcases e' with⟨xs,hx,e'⟩ | ⟨xs,hx,e'⟩ | ⟨kvs,hx,e'⟩
  ·subst e'
   obtain⟨its,r,pl,hz⟩:=I.list hx
   have hlen:=r.length
   exact wpAny_truthy_list pl.isList (by simp only [ur];lia) ⟨H,I.tok _,by rw [Zv r];exact q⟩
  ·subst e'
   obtain⟨its,r,pl,hz⟩:=I.tuple hx
   have hlen:=r.length
   exact truthy_tuple pl (by simp only [ur];lia) ⟨H,I.tok _,by rw [Zv r];exact q⟩
  ·subst e'
   obtain⟨hz,hS,vs,r,m⟩:kvs.length<=sizeLine/\(p == sysModules)=false/\∃ vs,KV kvs vs/\s.heap.DictOf (zU X.prog X.w) p vs:=I.hok p _ hx
   have hlen:kvs.length=vs.length:=Paired.length r
   exact wpAny_truthy_dict hS m (by lia) ⟨H,I.tok _,by rw [Xe r];exact q⟩
 | _=>exact(show False from e).elim
theorem YO (ha:PE X a ta)(he:∀ whole,isTrue a X.env whole=(do let v ← whole;standAt a.pos;holding [v] (truthy v))) :
  PT X a (fun σ H Q=>ta σ H fun x H'=>∃ k,TruV X.K x H' k/\Q k H'):=by
 intro pins s σ H Q I h
 exact isTrue_plain (thn (ha pins s σ H _ I h) fun v s1 ⟨x,H1,I1,r1,q1⟩=>zdv pins s1 σ H1 x v Q I1 r1 q1) (he _)
theorem Xf:OpR X (binaryOp .Add) (fun x y H Q=>∃ i j,x=.str i/\y=.str j/\i.length+j.length<=sizeLine/\Q (.str (i++j)) H):=by
 intro pins s σ H x y v u Q I rx ry h
 obtain⟨i,j,rfl,rfl,hz,q⟩:=h
 obtain⟨t,rfl⟩:=rx
 obtain⟨t',rfl⟩:=ry
 exact add_str (fun t' tk=>⟨.str (i++j),H,I.tok _,⟨_,rfl⟩,q⟩) hz
theorem vals1 {x:V}{us:Lf}(r:Vals [x] us):∃ u,us=[u]/\RelV x u:=by
 cases r with
 | cons r1 r2=>cases r2;exact⟨_,rfl,r1⟩
theorem vals2 {x y:V}{us:Lf}(r:Vals [x,y] us):∃ u w',us=[u,w']/\RelV x u/\RelV y w':=by
 cases r with
 | cons r1 r2=>
  cases r2 with
  | cons r3 r4=>cases r4;exact⟨_,_,rfl,r1,r3⟩
theorem V3:jc X (.type "int") (fun xs H Q=>(∃ i,xs=[.int i]/\Q (.int i) H)\/∃ k,xs=[.bl k]/\Q (.int (if k then 1 else 0)) H):=by
 intro pins s σ H xs us Q I r h
 rcases h with⟨i,rfl,q⟩ | ⟨k,rfl,q⟩
 ·obtain⟨u,rfl,t,rfl⟩:=vals1 r
  exact call_int_int ⟨.int i,H,I,⟨_,rfl⟩,q⟩
 ·obtain⟨u,rfl,r1⟩:=vals1 r
  cases r1
  exact call_int_bool ⟨.int (if k then 1 else 0),H,I.tok _,⟨_,rfl⟩,q⟩
end
structure ObjM (h:Heap)(x dx C:Addr)(mA:La):Prop where
 obj:h.get? x=some (PySem.W.instObj C dx)
 ns:h.Ns1 dx mA
 ne:dx≠x
theorem V4 {h:Heap}{dx:Addr}{mA:La}(n:h.Ns1 dx mA):∃ od,h.get? dx=some od/\∀ name,PySem.W.lookIn name od=some (mA name):=by
 obtain⟨o,es,ep,ho,hd,hk,_,hm⟩:=n
 refine⟨o,ho,fun name=>?_⟩
 have e:=hm name
 unfold nsFind findBy at e
 rw [← Array.find?_toList] at e
 unfold PySem.W.lookIn
 rw [hd]
 dsimp only
 split
 ·rename_i y q
  rw [q] at e
  exact congrArg some e
 ·rename_i q
  rw [q] at e
  have a:es.toList.any (·.refKey)=false:=by
   rw [List.any_eq_false]
   intro y hy
   obtain⟨z,t,hkey⟩:=hk y (Array.mem_toList_iff.mp hy)
   simp [DictEntry.refKey,hkey]
  have a':¬ es.toList.any (·.refKey)=true:=by rw [a];exact uG
  rw [uy a']
  exact congrArg some e
theorem ObjM.look {h:Heap}{x dx C:Addr}{mA:La}(I:ObjM h x dx C mA):∃ od,PySem.W.InstAt h x (PySem.W.instObj C dx) C (some od)/\∀ name,PySem.W.lookIn name od=some (mA name):=
 let ⟨od,ho,hl⟩:=V4 I.ns
 ⟨od,⟨I.obj,rfl,rfl,ho⟩,hl⟩
section
variable {prog:Program} {w:World} {A:Around} {E:Value->Shared->Prop} {s:Shared} {K:Le} {x dx C f:Addr} {mA:La} {name:Str} {v:Value}
theorem get_map {expr:Bool}{Q:Value->Shared->Prop}(X:K.In s.heap)(I:ObjM s.heap x dx C mA)(hg:PySem.W.plainGet K C name=true)(hh:PySem.W.hasDictIn K C=true)
  (ha:PySem.W.findIn K (.ref C) name=some none) (hv:mA name=some v) (hv':PySem.W.handedIn v=true) (h:Q v { s with toks:=s.toks+1 }) :
  wpAny (model prog w) A (getAttr (.ref x) name expr) Q E s:=by
 obtain⟨od,J,hl⟩:=I.look
 exact PySem.W.get_value X J (gv hg).1 (PySem.W.findObj_own hh ha rfl (by rw [hl,hv])) hv' h
theorem YQ {pl:Sem Bool}{Q:Value×Lf->Shared->Prop}(X:K.In s.heap)(I:ObjM s.heap x dx C mA)(hg:PySem.W.plainGet K C name=true)
  (hf:PySem.W.findIn K (.ref C) name=some (some (.ref f))) (ht:PySem.W.isFn K (.ref f)=true) (hv:mA name=none) (h:Q (.ref f,[.ref x]) s) :
  wpAny (model prog w) A (getMethod (.ref x) name pl) Q E s:=by
 obtain⟨od,J,hl⟩:=I.look
 exact PySem.W.method_fn X J (gv hg).1 (gv hg).2 hf (gA.mp ht) (by show(PySem.W.lookIn name od).map (·.isSome)=some false;rw [hl,hv];rfl) h
theorem zbi {ns:Lh}{Q:Unit->Shared->Prop}(X:K.In s.heap)(I:ObjM s.heap x dx C mA)
  (hs:PySem.W.findIn K (.ref C) "__setattr__" = some (some (.builtin "object.__setattr__"))) (hp:PySem.W.plainOver K C=true) (ht:PySem.W.takerIn K C name=some none) (hh:PySem.W.hasDictIn K C=true)
  (hw:PySem.Within mA ns) (hsz:ns.length<=sizeLine)
  (h:∀ h',ObjM h' x dx C (fun y=>if y=name then some v else mA y)->Heap.SameBut dx s.heap h'->Q () { s with heap:=h',toks:=s.toks+2 }) :
  wpAny (model prog w) A (setAttr (.ref x) name v) Q E s:=by
 obtain⟨od,J,hl⟩:=I.look
 refine PySem.W.set_plain X J hs (PySem.W.osa_open (s:={ s with toks:=s.toks+1 }) (r:=none) X J hp ht fun b=>?_)
 obtain⟨cd,hc,hd'⟩:=PySem.W.any_some hh
 have hx:s.heap.get? x=some ⟨.ref C,some dx,.plain,#[]⟩:=I.obj
 refine wpAny_bind (wpAny_pure (wpAny_bind (wpAny_bind (wpAny_loadPart hx (wpAny_bind (PySem.W.Looks.here (s:={ s with toks:=s.toks+1 }) (PySem.W.looks_clsIn X hc) ?_))))))
 rw [hd']
 refine wpAny_pure (a:=some dx) (wpAny_bind (wpAny_pure (wpAny_bind ?_)))
 refine wpAny_nsSet1 (s:={ s with toks:=s.toks+1 }) I.ns fun h' hn2 hs2=>?_
 obtain⟨oD,esD,epD,hoD,hdD,hcD⟩:=hn2.count (PySem.Within.cons name v hw)
 refine wpAny_bind (wpAny_lookBehind hoD (by rw [hdD];exact pastItsLine_dict (uW hcD (by rw [ua];lia))) ?_)
 exact wpAny_pure (h _ ⟨(hs2.2 _ (Ne.symm I.ne)).trans I.obj,hn2,I.ne⟩ hs2)
theorem YR {R:Result->Shared->Prop}{vs:Lf}{kw:List (Str×Value)}(X:K.In s.heap)(hm:PySem.W.makesIn K C=true)
  (hi:PySem.W.findIn K (.ref C) "__init__" = some (some (.ref f))) (hf:PySem.W.typeIn K (.ref f)=some (.type "function"))
  (h:codeAny (model prog w) (A.under (.builtin "type.__call__" ⟨.ref C::vs,kw⟩)) (.call (.ref f) ⟨.ref (s.heap.objs.size+1)::vs,kw⟩) (PySem.W.InitBack (s.heap.objs.size+1) R)
   { s with heap:=(s.heap.push PySem.W.emptyDict).push (PySem.W.instObj C s.heap.objs.size) }) :
  codeAny (model prog w) A (.call (.ref C) ⟨vs,kw⟩) R s:=by
 obtain⟨hh,g,d,t,os⟩:=s
 exact PySem.W.make_core (PySem.W.makes_of X hm) (PySem.W.looks_findIn X hi) (fun self=>PySem.W.bind_fn X self hf) (.inl rfl) h
end
noncomputable def putF (f:Str)(v:V):List (Str×V)->List (Str×V)
 | []=>[(f,v)]
 | (g,x)::r=>if g=f then(g,v)::r else(g,x)::putF f v r
theorem kT (f g:Str)(v:V):∀ fs:List (Str×V),(putF f v fs).lookup g=if g=f then some v else fs.lookup g
 | []=>by
  show List.lookup g [(f,v)]=_
  by_cases h:g=f
  ·have hb:(g == f)=true:=gA.mpr h
   simp only [List.lookup,hb,uz h]
  ·have hb:(g == f)=false:=Um.mpr h
   simp only [List.lookup,hb,uy h]
 | (k,x)::r=>by
  have ih:=kT f g v r
  rw [show putF f v ((k,x)::r)=(if k=f then(k,v)::r else(k,x)::putF f v r) from rfl]
  by_cases hk:k=f
  ·rw [uz hk]
   by_cases h:g=k
   ·have hb:(g == k)=true:=gA.mpr h
    simp only [List.lookup,hb,uz (h.trans hk)]
   ·have hb:(g == k)=false:=Um.mpr h
    simp only [List.lookup,hb,uy (fun e:g=f=>h (e.trans hk.symm))]
  ·rw [uy hk]
   by_cases h:g=k
   ·have hb:(g == k)=true:=gA.mpr h
    simp only [List.lookup,hb,uy (fun e:g=f=>hk (h.symm.trans e))]
   ·have hb:(g == k)=false:=Um.mpr h
    simp only [List.lookup,hb]
    exact ih
theorem ku (f:Str)(v:V):∀ fs:List (Str×V),f∈(putF f v fs).map (·.1)/\∀ g,g∈fs.map (·.1)->g∈(putF f v fs).map (·.1)
 | []=>⟨by simp [putF],fun g h=>by simp at h⟩
 | (k,x)::r=>by
  obtain⟨i1,i2⟩:=ku f v r
  rw [show putF f v ((k,x)::r)=(if k=f then(k,v)::r else(k,x)::putF f v r) from rfl]
  by_cases hk:k=f
  ·rw [uz hk]
   subst hk
   exact⟨by simp,fun g h=>by simpa using h⟩
  ·rw [uy hk]
   refine⟨?_,fun g h=>?_⟩
   ·rw [uA]
    exact ug _ i1
   ·rw [uA] at h ⊢
    rcases um.mp h with e | e
    ·exact um.mpr (.inl e)
    ·exact ug _ (i2 g e)
theorem kU (f:Str)(v:V):∀ fs:List (Str×V),(putF f v fs).length<=fs.length+1
 | []=>by simp [putF]
 | (k,x)::r=>by
  have ih:=kU f v r
  rw [show putF f v ((k,x)::r)=(if k=f then(k,v)::r else(k,x)::putF f v r) from rfl]
  by_cases hk:k=f
  ·rw [uz hk,ua,ua];lia
  ·rw [uy hk,ua,ua];lia
theorem RelO.some_of {v:V}{o:Option Value}(r:RelO (some v) o):∃ u,o=some u/\RelV v u:=by
 cases o with
 | none=>exact(show False from r).elim
 | some u=>exact⟨u,rfl,r⟩
theorem RelO.none_of {o:Option Value}(r:RelO none o):o=none:=by
 cases o with
 | none=>rfl
 | some u=>exact(show False from r).elim
theorem V5 {v:V}{u:Value}(r:RelV v u):PySem.W.handedIn u=true:=by
 cases v with
 | non=>cases (show u=Value.none from r);rfl
 | bl b=>cases (show u=Value.bool b from r);rfl
 | int i=>obtain⟨t,e⟩:=(show ∃ t,u=Value.int i t from r);cases e;rfl
 | str x=>obtain⟨t,e⟩:=(show ∃ t,u=Value.str x t from r);cases e;rfl
 | byt b=>obtain⟨t,e⟩:=(show ∃ t,u=Value.bytes b t from r);cases e;rfl
 | flt b=>obtain⟨t,e⟩:=(show ∃ t,u=Value.float b t from r);cases e;rfl
 | ref a=>cases (show u=Value.ref a from r);rfl
 | ty n=>cases (show u=Value.type n from r);rfl
section
variable {P:Program} {w:World} {H H':Hp} {h h':Heap} {a C dx:Addr} {fs fs':List (Str×V)}
theorem Zd (hok:HOk P w H h)(e:H a=some (.ins C dx fs)):∃ mA,ObjM h a dx C mA/\(∀ f,RelO (fs.lookup f) (mA f))/\PySem.Within mA (fs.map (·.1))/\fs.length<=1000/\H dx=some (.own a):=by
 obtain⟨d,z,ne,ob,mA,n,r,q⟩:=(show qw P w H h a (.ins C dx fs) from hok a _ e)
 exact⟨mA,⟨ob,n,ne⟩,r,q,z,d⟩
end
structure Cls (K:Le)(C:Addr):Prop where
 pg:PySem.W.plainGet K C Str.empty=true
 hd:PySem.W.hasDictIn K C=true
 po:PySem.W.plainOver K C=true
 sa:PySem.W.findIn K (.ref C) "__setattr__" = some (some (.builtin "object.__setattr__"))
theorem Cls.get {K:Le}{C:Addr}(c:Cls K C)(f:Str):PySem.W.plainGet K C f=true:=c.pg
def qk (K:Le)(C:Addr)(f:Str):Prop:=PySem.W.findIn K (.ref C) f=some none
theorem qk.taker {K:Le}{C:Addr}{f:Str}(n:qk K C f):PySem.W.takerIn K C f=some none:=by
 unfold PySem.W.takerIn
 rw [show PySem.W.findIn K (.ref C) f=some none from n]
 rfl
structure Meth (K:Le)(C:Addr)(m:Str)(f:Addr):Prop where
 at_:PySem.W.findIn K (.ref C) m=some (some (.ref f))
 fn:PySem.W.isFn K (.ref f)=true
 kp:PySem.W.keepIn K (.ref f)=true
section
variable {X:Cx} {pins:List (Addr×Obj)} {σ:St} {H:Hp} {s:Shared} {a C dx:Addr} {fs:List (Str×V)} {f:Str} {v:V} {A:Around} {E:Value->Shared->Prop}
theorem Xg {b:Bool}{Q:Value->Shared->Prop}(I:Inv X pins σ H s)(e:H a=some (.ins C dx fs))(c:Cls X.K C)(n:qk X.K C f)(l:fs.lookup f=some v)
  (h:∀ u s',Inv X pins σ H s'->RelV v u->Q u s'):wpAny (model X.prog X.w) A (getAttr (.ref a) f b) Q E s:=by
 obtain⟨mA,O,r,_,_,_⟩:=Zd I.hok e
 obtain⟨u,hu,ru⟩:=RelO.some_of (v:=v) (o:=mA f) (by rw [← l];exact r f)
 exact get_map I.kIn O (c.get f) c.hd n hu (V5 ru) (h u _ (I.tok _) ru)
theorem Zw {m:Str}{g:Addr}{pl:Sem Bool}{Q:Value×Lf->Shared->Prop}(I:Inv X pins σ H s)(e:H a=some (.ins C dx fs))(c:Cls X.K C)(k:Meth X.K C m g)(l:fs.lookup m=none)
  (h:Q (.ref g,[.ref a]) s):wpAny (model X.prog X.w) A (getMethod (.ref a) m pl) Q E s:=by
 obtain⟨mA,O,r,_,_,_⟩:=Zd I.hok e
 have hn:mA m=none:=RelO.none_of (by rw [← l];exact r m)
 exact YQ I.kIn O (c.get m) k.at_ k.fn hn h
theorem Xh {y:V}{u:Value}{Q:Unit->Shared->Prop}(I:Inv X pins σ H s)(e:H a=some (.ins C dx fs))(c:Cls X.K C)(n:qk X.K C f)(hl:fs.length<1000)(ry:RelV y u)
  (h:∀ s',Inv X pins σ (upd H a (.ins C dx (putF f y fs))) s'->Q () s'):wpAny (model X.prog X.w) A (setAttr (.ref a) f u) Q E s:=by
 obtain⟨mA,O,r,wi,_,ho⟩:=Zd I.hok e
 have hz:(fs.map (·.1)).length<=sizeLine:=by rw [uh,sizeLine_eq];lia
 refine zbi I.kIn O c.sa c.po n.taker c.hd wi hz fun h' O' sb=>h _ ?_
 have hd:∃ o,h'.get? dx=some o:=let ⟨o,_,_,e',_⟩:=O'.ns;⟨o,e'⟩
 refine I.write (x:=a) (e:=dx) (by rw [e];exact True.intro) (.inr ho) (fun b q hb z=>(sb.2 b hb).trans z) hd ?_
 refine⟨by rw [zt O.ne];exact ho,?_,O.ne,O'.obj,_,O'.ns,fun g=>?_,fun g hg=>?_⟩
 ·have:=kU f y fs;lia
 ·show RelO ((putF f y fs).lookup g) (if g=f then some u else mA g)
  rw [kT]
  by_cases q:g=f
  ·rw [uz q,uz q];exact ry
  ·rw [uy q,uy q];exact r g
 ·by_cases q:g=f
  ·rw [q];exact(ku f y fs).1
  ·refine(ku f y fs).2 g (wi g fun z=>hg ?_)
   show(if g=f then some u else mA g)=none
   rw [uy q];exact z
theorem Inv.made (I:Inv X pins σ H s):Inv X pins σ (upd (upd H s.heap.objs.size (.own (s.heap.objs.size+1))) (s.heap.objs.size+1) (.ins C s.heap.objs.size []))
  { s with heap:=(s.heap.push PySem.W.emptyDict).push (PySem.W.instObj C s.heap.objs.size) }:=by
 have e1:(s.heap.push PySem.W.emptyDict).get? s.heap.objs.size=some PySem.W.emptyDict:=Heap.get?_push_size s.heap rfl
 have e2:((s.heap.push PySem.W.emptyDict).push (PySem.W.instObj C s.heap.objs.size)).get? (s.heap.objs.size+1)=some (PySem.W.instObj C s.heap.objs.size):=by
  have:=Heap.get?_push_size (s.heap.push PySem.W.emptyDict) (o:=PySem.W.instObj C s.heap.objs.size) rfl
  rwa [Heap.size_push] at this
 have e3:(s.heap.push PySem.W.emptyDict).Ns s.heap.objs.size (fun _=>none):=⟨PySem.W.emptyDict,#[],_,e1,rfl,(fun e he=>absurd he (by simp)),fun _=>rfl⟩
 have I1:=I.laid (a:=s.heap.objs.size) (o:=.own (s.heap.objs.size+1)) (h':=s.heap.push PySem.W.emptyDict) (t':=s.toks) (fun b u q=>Heap.get?_push_of_some _ q) (uu _) ⟨_,e1⟩
 refine I1.laid (a:=s.heap.objs.size+1) (o:=.ins C s.heap.objs.size []) (t':=s.toks) (fun b u q=>Heap.get?_push_of_some _ q) (gj (Heap.size_push _ _)) ?_
 have ne:s.heap.objs.size≠s.heap.objs.size+1:=Ud (Uz _)
 refine⟨by rw [zt ne,zw],uS _,ne,e2,fun _=>none,(Heap.Ns1.of_empty e3).at fun o q=>Heap.get?_push_of_some _ q,fun _=>True.intro,fun y hy=>absurd rfl hy⟩
theorem zbj {prog:Program}{w:World}{env:Env}{e:Expr}{f:Str}{pos:Pos}{s:Shared}{Q:Value->Shared->Prop}(hb:attributeBase e f env (eval e env)=eval e env)
  (h:wpAny (model prog w) A (eval e env) (fun o s₁=>wpAny (model prog w) A (getAttr o f true) Q E s₁) E s):wpAny (model prog w) A (eval (.Attribute e f pos) env) Q E s:=
 Attribute_any_ h (by rw [arm_eval_Attribute,hb])
end
def tFld (K:Le)(ta:TE)(f:Str):TE:=fun σ H Q=>ta σ H fun x H1=>∃ a C dx fs v,x=.ref a/\H1 a=some (.ins C dx fs)/\Cls K C/\qk K C f/\fs.lookup f=some v/\Q v H1
def sFld (K:Le)(ta tv:TE)(f:Str):TS:=fun D σ H=>tv σ H fun y H1=>ta σ H1 fun x H2=>∃ a C dx fs,x=.ref a/\H2 a=some (.ins C dx fs)/\Cls K C/\qk K C f/\fs.length<1000 /\
 D.nx σ (upd H2 a (.ins C dx (putF f y fs)))
section
variable {X:Cx} {o e value:Expr} {f:Str} {pos pos' tpos:Pos} {ta tv:TE}
theorem YS (he:PE X e ta)(hb:attributeBase e f X.env (eval e X.env)=eval e X.env):PE X (.Attribute e f pos) (tFld X.K ta f):=by
 intro pins s σ H Q I h
 refine zbj hb (thn (he pins s σ H _ I h) fun u s1 ⟨x,H1,I1,rx,a,C,dx,fs,v,ex,ea,c,n,l,q⟩=>?_)
 subst ex
 obtain rfl:u=Value.ref a:=rx
 exact Xg I1 ea c n l fun u' s2 I2 ru=>⟨v,H1,I2,ru,q⟩
theorem zdw (ha:PE X o ta)(hv:PE X value tv)(hs:swapsWith value (some (.Attribute o f pos')) pos.line X.env=pure false):PS X (.Assign [.Attribute o f pos'] value pos) (sFld X.K ta tv f):=by
 intro pins s σ H D I h
 refine plainObj_wpAny_Assign_Attribute (thn (hv pins s σ H _ I h) fun u s1 ⟨y,H1,I1,ry,q⟩=>thn (ha pins s1 σ H1 _ I1 q) fun ov s2 ⟨x,H2,I2,rx,a,C,dx,fs,ex,ea,c,n,l,q2⟩=>?_) hs
 subst ex
 obtain rfl:ov=Value.ref a:=rx
 exact Xh I2 ea c n l ry fun s3 I3=>⟨σ,_,I3,q2⟩
end
section
variable {X:Cx} {pins:List (Addr×Obj)} {σ:St} {H:Hp} {s:Shared} {A:Around} {E:Value->Shared->Prop} {Q:Value->Shared->Prop} {c:Value} {b:Bool}
inductive TyOf (K:Le)(H:Hp):V->Value->Prop where
 | non:TyOf K H .non (.type "NoneType")
 | bl (x:Bool):TyOf K H (.bl x) (.type "bool")
 | int (i:Int):TyOf K H (.int i) (.type "int")
 | str (x:Str):TyOf K H (.str x) (.type "str")
 | flt (x:UInt64):TyOf K H (.flt x) (.type "float")
 | lst {a:Addr} {xs:List V} (e:H a=some (.lst xs)):TyOf K H (.ref a) (.type "list")
 | frz {a:Addr} {o:Obj} {xs:List V} (e:H a=some (.frz o (.lst xs))):TyOf K H (.ref a) (.type "list")
 | tup {a:Addr} {xs:List V} (e:H a=some (.tup xs)):TyOf K H (.ref a) (.type "tuple")
 | dK {a:Addr} {kvs:List (Key×V)} (e:H a=some (.dK kvs)):TyOf K H (.ref a) (.type "dict")
 | dT {a:Addr} {kvs:List (List Key×V)} (e:H a=some (.dT kvs)):TyOf K H (.ref a) (.type "dict")
 | ins {a C dx:Addr} {fs:List (Str×V)} (e:H a=some (.ins C dx fs)) (cl:Cls K C) (ha:PySem.W.findIn K (.ref C) "__class__" = some (some (.builtin "object.__class__")))
   (hn:PySem.W.specialIn K (.builtin "object.__class__") "__get__" = some (some (.builtin "getset_descriptor.__get__"))) (htk:PySem.W.takesIn K (.builtin "object.__class__")=some true)
   (hm:PySem.W.mroIn K C (.type "object")=some true):TyOf K H (.ref a) (.ref C)
theorem QF {x:V}{u t:Value}(I:Inv X pins σ H s)(rx:RelV x u)(ty:TyOf X.K H x t)(e:PySem.W.kitOne X.K t c=some b)(h:∀ tk,Q (.bool b) { s with toks:=tk }) :
  wpAny (model X.prog X.w) A (call (.builtin "isinstance") [u,c]) Q E s:=by
 cases ty with
 | non=>cases (show u=Value.none from rx);exact Ua PySem.W.kitx_none I.kIn True.intro e (fun z=>nomatch z) h
 | bl y=>cases (show u=Value.bool y from rx);exact Ua PySem.W.kitx_bool I.kIn True.intro e (fun z=>nomatch z) h
 | int i=>obtain⟨t,q⟩:=(show ∃ t,u=Value.int i t from rx);cases q;exact Ua PySem.W.kitx_int I.kIn True.intro e (fun z=>nomatch z) h
 | str y=>obtain⟨t,q⟩:=(show ∃ t,u=Value.str y t from rx);cases q;exact Ua PySem.W.kitx_str I.kIn True.intro e (fun z=>nomatch z) h
 | flt y=>obtain⟨t,q⟩:=(show ∃ t,u=Value.float y t from rx);cases q;exact Ua PySem.W.kitx_float I.kIn True.intro e (fun z=>nomatch z) h
 | @lst a xs ea=>
  cases (show u=Value.ref a from rx)
  obtain⟨_,_,n,_,h1⟩:=(show qw X.prog X.w H s.heap a (.lst xs) from I.hok a _ ea)
  exact Ua PySem.W.kitx_list I.kIn ⟨_,h1,rfl⟩ e (fun z=>nomatch z) h
 | @frz a ob xs ea=>
  cases (show u=Value.ref a from rx)
  obtain⟨_,_,_,n,_,h1⟩:=(show qw X.prog X.w H s.heap a (.frz ob (.lst xs)) from I.hok a _ ea)
  exact Ua PySem.W.kitx_list I.kIn ⟨_,h1,rfl⟩ e (fun z=>nomatch z) h
 | @tup a xs ea=>
  cases (show u=Value.ref a from rx)
  obtain⟨_,_,_,p⟩:=(show qw X.prog X.w H s.heap a (.tup xs) from I.hok a _ ea)
  obtain⟨o,h1,h2,_⟩:=p
  exact Ua PySem.W.kitx_tuple I.kIn ⟨o,h1,h2⟩ e (fun z=>nomatch z) h
 | @dK a kvs ea=>
  cases (show u=Value.ref a from rx)
  obtain⟨_,_,vs,_,p⟩:=(show qw X.prog X.w H s.heap a (.dK kvs) from I.hok a _ ea)
  obtain⟨o,es,ep,h1,h2,_⟩:=p
  exact Ua PySem.W.kitx_dict I.kIn ⟨o,h1,h2.1⟩ e (fun z=>nomatch z) h
 | @dT a kvs ea=>
  cases (show u=Value.ref a from rx)
  obtain⟨_,_,xs,_,o,es,ep,h1,h2,_⟩:=(show qw X.prog X.w H s.heap a (.dT kvs) from I.hok a _ ea)
  exact Ua PySem.W.kitx_dict I.kIn ⟨o,h1,h2.1⟩ e (fun z=>nomatch z) h
 | @ins a C dx fs ea cl ha hn htk hm=>
  cases (show u=Value.ref a from rx)
  obtain⟨mA,O,_⟩:=Zd I.hok ea
  obtain⟨od,J,_⟩:=O.look
  exact Ua (PySem.W.kitx_own (cl.get _) cl.hd ha hn htk hm) I.kIn J e (fun z=>nomatch z) h
end
structure Room (k:Nat)(A:Around):Prop where
 hd:A.handled=none
 dp:A.depth+3 * k+5<recursionLimit
 un:A.units+16 * k+200<cLine
 gd:A.guards=some []
theorem Room.mono {j k:Nat}{A:Around}(r:Room k A)(h:j<=k):Room j A:=⟨r.hd,by have:=r.dp;lia,by have:=r.un;lia,r.gd⟩
theorem Room.deeper {k:Nat}{A:Around}(r:Room (k+1) A)(env:Env):Room k (A.deeper env):=
 ⟨r.hd,by have:=r.dp;show A.depth+1+3 * k+5<_;lia,by have:=r.un;show A.units+3+16 * k+200<_;lia,r.gd⟩
theorem Xi {A:Around}{C:Addr}{us:Lf}{kw:List (Str×Value)}:(A.under (.builtin "type.__call__" ⟨.ref C::us,kw⟩)).depth=A.depth+1:=by
 first | rfl | simp [Around.under,Code.weight,Code.isCreation,Code.isGuard,Code.isCaller,Code.frames,Code.isFrame,guardIds]
theorem Xj {A:Around}{C:Addr}{us:Lf}{kw:List (Str×Value)}:(A.under (.builtin "type.__call__" ⟨.ref C::us,kw⟩)).units=A.units+1:=by
 first | rfl | simp [Around.under,Code.cUnits,Code.frames,Code.isFrame]
theorem JY {A:Around}{C:Addr}{us:Lf}{kw:List (Str×Value)}:(A.under (.builtin "type.__call__" ⟨.ref C::us,kw⟩)).guards=A.guards:=by
 first | rfl | simp [Around.under,Code.weight,Code.isCreation,Code.isGuard,Code.isCaller,Code.frames,Code.isFrame,guardIds]
theorem Room.make {k:Nat}{A:Around}(r:Room (k+1) A)(C:Addr)(us:Lf)(kw:List (Str×Value)):Room k (A.under (.builtin "type.__call__" ⟨.ref C::us,kw⟩)):=
 ⟨r.hd,by have:=r.dp;rw [Xi];lia,by have:=r.un;rw [Xj];lia,by rw [JY];exact r.gd⟩
theorem Room.depth {k:Nat}{A:Around}(r:Room k A):A.depth<recursionLimit:=by have:=r.dp;lia
def tNil:TA:=fun _ H Q=>Q [] H
def j9 (ta:TE)(tr:TA):TA:=fun σ H Q=>ta σ H fun x H1=>tr σ H1 fun xs H2=>Q (x::xs) H2
section
variable {X:Cx} {e:Expr} {es:Lg} {te:TE} {t:TA} {pos:Pos}
theorem yk:PA X [] tNil:=fun _ _ _ _ H Q I h=>Calls.spliced_nil ⟨[],H,I,.nil,h⟩
theorem jU (ha:PE X e te)(hr:PA X es t)(hs:starEach (e::es) X.env=(false,eval e X.env)::starEach es X.env):PA X (e::es) (j9 te t):=by
 intro pos pins s σ H Q I h
 rw [hs]
 show wpAny _ _ (spliced ((false,eval e X.env)::backTo pos (starEach es X.env))) _ _ s
 refine Calls.spliced_cons (thn (ha pins s σ H _ I h) fun u s1 ⟨x,H1,I1,r1,q1⟩=>?_)
 exact thn (hr pos pins s1 σ H1 _ I1 q1) fun us s2 ⟨xs,H2,I2,r2,q2⟩=>⟨x::xs,H2,I2,.cons r1 r2,q2⟩
def tTup (t:TA):TE:=fun σ H Q=>t σ H fun xs H1=>xs.length<=sizeLine/\∀ p,H1 p=none->Q (.ref p) (upd H1 p (.tup xs))
def tLst (t:TA):TE:=fun σ H Q=>t σ H fun xs H1=>xs.length<=sizeLine/\∀ p,H1 p=none->Q (.ref p) (upd H1 p (.lst xs))
theorem zdx {x1}(h:PA X es t):PE X (.Tuple es x1 pos) (tTup t):=by
 intro pins s σ H Q I hq
 refine wpAny_Tuple_spliced (thn (h pos pins s σ H _ I hq) fun us s1 ⟨xs,H1,I1,r,z,q⟩=>⟨by rw [← r.length];exact z,?_⟩)
 have hf:H1 s1.heap.objs.size=none:=I1.hok.fresh (uu _)
 refine⟨.ref s1.heap.objs.size,upd H1 s1.heap.objs.size (.tup xs),I1.laid (t':=s1.toks) (fun b u e=>Heap.get?_push_of_some _ e) (uu _) ?_,rfl,q _ hf⟩
 exact⟨z,us,r,⟨_,Heap.get?_push_size _ rfl,rfl,_,rfl⟩⟩
theorem zdy (h:PA X es t):PE X (.List es pos) (tLst t):=by
 intro pins s σ H Q I hq
 refine wpAny_List_spliced (thn (h pos pins s σ H _ I hq) fun us s1 ⟨xs,H1,I1,r,z,q⟩=>⟨by rw [← r.length];exact z,?_⟩)
 have hf:H1 s1.heap.objs.size=none:=I1.hok.fresh (uu _)
 refine⟨.ref s1.heap.objs.size,upd H1 s1.heap.objs.size (.lst xs),I1.laid (t':=s1.toks) (fun b u e=>Heap.get?_push_of_some _ e) (uu _) ?_,rfl,q _ hf⟩
 exact⟨z,us,0,r,Heap.get?_push_size _ rfl⟩
end
abbrev Sp:=List V->Hp->VK->XK->Prop
abbrev CXT:=List Env->Hp->Shared->XK->Value->Shared->Prop
structure Env0 (P:Program)(w:World)(K:Le)(mg:La)(base:Heap)(A:Around)(outer:List Env)(s:Shared)(H:Hp):Prop where
 frames:A.frames=some outer
 mod:Mod K mg base
 bs:∀ b o,base.get? b=some o->s.heap.get? b=some o/\H b=none
 bsz:base.objs.size<=s.heap.objs.size
 funs:s.heap.FunFrames base outer
 frf:∀ b∈frs outer,H b=none
 hok:HOk P w H s.heap
 bare:AllBare s.gens
def CE (outer:List Env)(P:Program)(w:World)(H:Hp)(s:Shared)(Q:VK)(u:Value)(s':Shared):Prop:=
 ∃ v H',s'.os=s.os/\AllBare s'.gens/\Un (frs outer) [] H H' s.heap s'.heap/\HOk P w H' s'.heap/\RelV v u/\Q v H'
def CR (CX:CXT)(outer:List Env)(P:Program)(w:World)(H:Hp)(s:Shared)(Q:VK)(E:XK)(r:Result)(s':Shared):Prop:=
 match r with
 | .ok (.ret u)=>CE outer P w H s Q u s'
 | .ok _=>False
 | .error e=>CX outer H s E e s'
structure FnOk (P:Program)(w:World)(K:Le)(mg:La)(base:Heap)(CX:CXT)(k:Nat)(f:Addr)(fd:FuncData)(ps:Lh)(sp:Sp):Prop where
 len:∀ vs H Q E,sp vs H Q E->vs.length=ps.length
 run:∀ (A:Around) (outer:List Env) (s:Shared) (H:Hp) (args:Args) (us:Lf) (vs:List V) (Q:VK) (E:XK),Room k A->Env0 P w K mg base A outer s H->BindsTo s fd args (ps.zip us)->Vals vs us->sp vs H Q E ->
  codeAny (model P w) A (.call (.ref f) args) (CR CX outer P w H s Q E) s
theorem Env0.make {P:Program}{w:World}{K:Le}{mg:La}{base:Heap}{A:Around}{outer:List Env}{s:Shared}{H:Hp}(e:Env0 P w K mg base A outer s H)(C:Addr)(us:Lf)(kw:List (Str×Value)) :
  Env0 P w K mg base (A.under (.builtin "type.__call__" ⟨.ref C::us,kw⟩)) outer s H:=⟨by first | exact e.frames | (simpa [Around.under,Code.envs,Code.isFrame,pushEnvs] using e.frames),e.mod,e.bs,e.bsz,e.funs,e.frf,e.hok,e.bare⟩
section
variable {X:Cx} {pins:List (Addr×Obj)} {σ:St} {H:Hp} {s s':Shared}
theorem Inv.env0 (I:Inv X pins σ H s):Env0 X.prog X.w X.K X.mg X.base X.A X.stack s H:=
 ⟨I.ok.frames,I.ok.mod,I.bs,uW I.ok.bsz I.sz,I.stack,I.stkFree,I.hok,I.bare⟩
theorem Inv.after {Q:VK}{u:Value}(I:Inv X pins σ H s)(h:CE X.stack X.prog X.w H s Q u s'):EP X pins σ Q u s':=by
 obtain⟨v,H',os,bare,un,hok,r,q⟩:=h
 obtain⟨hh,g,d,t,os'⟩:=s'
 obtain rfl:os' = s.os:=os
 exact⟨v,H',I.call (h':=hh) (g':=g) (d':=d) (t':=t) (ch:=[]) un hok bare (fun b z=>absurd z (by simp)),r,q⟩
end
def QG (sp:Sp)(dvs:List V)(E:XK)(t:TA):TE:=fun σ H Q=>t σ H fun vs H1=>sp (vs++dvs) H1 Q E
def Binds (K:Le)(fd:FuncData)(ps:Lh)(ds:Lf):Prop:=
 ∀ (s:Shared) (us:Lf),K.In s.heap->(us++ds).length=ps.length->BindsTo s fd ⟨us,[]⟩ (ps.zip (us++ds))
theorem Binds.all {K:Le}{fd:FuncData}{ps:Lh}(h:∀ us:Lf,us.length=ps.length->bindArgs fd ⟨us,[]⟩=pure (ps.zip us)):Binds K fd ps []:=fun s us _ hl=>by
 rw [ux] at hl ⊢
 exact .of_eq (h us hl)
def Passes (CX:CXT)(X:Cx)(E:XK):Prop:=∀ (pins:List (Addr×Obj)) (σ:St) (H:Hp) (s:Shared) (e:Value) (s':Shared),Inv X pins σ H s->CX X.stack H s E e s'->X.xe e s'
section
variable {X:Cx} {CX:CXT} {k:Nat} {f C:Addr} {fd:FuncData} {ps:Lh} {sp:Sp} {dvs:List V} {ds:Lf} {E:XK} {x m:Str} {p pos apos:Pos} {e o:Expr} {es:Lg} {ta:TE} {t:TA}
theorem Xk {pins:List (Addr×Obj)}{σ:St}{H:Hp}{s:Shared}{Q:VK}{us:Lf}{vs:List V}(F:FnOk X.prog X.w X.K X.mg X.base CX k f fd ps sp)(hr:Room k X.A)(hb:Binds X.K fd ps ds)(hd:Vals dvs ds)(hx:Passes CX X E)
  (I:Inv X pins σ H s) (r:Vals vs us) (h:sp (vs++dvs) H Q E):wpAny (model X.prog X.w) X.A (call (.ref f) us) (EP X pins σ Q) X.xe s:=by
 have r2:Vals (vs++dvs) (us++ds):=r.append hd
 have hl:(us++ds).length=ps.length:=by rw [← r2.length];exact F.len _ _ _ _ h
 refine wpAny_call (codeAny_mono (F.run X.A X.stack s H ⟨us,[]⟩ (us++ds) (vs++dvs) Q E hr I.env0 (hb s us I.kIn hl) r2 h) fun r s' hq=>?_)
 cases r with
 | error e=>exact hx pins σ H s e s' I hq
 | ok fl=>
  cases fl with
  | ret u=>exact I.after hq
  | next=>exact False.elim hq
  | brk=>exact False.elim hq
  | cont=>exact False.elim hq
theorem zbk (F:FnOk X.prog X.w X.K X.mg X.base CX k f fd ps sp)(hr:Room k X.A)(hg:Gl X x)(hm:X.mg x=some (.ref f))(hk:PySem.W.keepIn X.K (.ref f)=true)(hb:Binds X.K fd ps ds)(hd:Vals dvs ds)(hx:Passes CX X E)
  (ha:PA X (e::es) t) (hdb:(x == ("__debug__":Str))=false) (he:starEach (e::es) X.env=(false,eval e X.env)::starEach es X.env) (hpl:(backTo pos (starEach es X.env)).any (·.1)=false) :
  PE X (.Call (.Name x p) (e::es) [] pos) (QG sp dvs E t):=by
 intro pins s σ H Q I h
 refine wpAny_Call_Name_kw (xj I hg hm ?_ hdb)
 refine UD (h₀:=X.base) I.ok.mod.kin hk (thn (ha pos pins s σ H _ I h) fun us s1 ⟨vs,H1,I1,r,q⟩=>⟨I1.kIn,?_⟩) he hpl
 exact Xk F hr hb hd hx I1 r q
theorem YT (F:FnOk X.prog X.w X.K X.mg X.base CX k f fd ps sp)(hr:Room k X.A)(hg:Gl X x)(hm:X.mg x=some (.ref f))(hk:PySem.W.keepIn X.K (.ref f)=true)(hb:Binds X.K fd ps ds)(hd:Vals dvs ds)(hx:Passes CX X E)
  (hdb:(x == ("__debug__":Str))=false):PE X (.Call (.Name x p) [] [] pos) (QG sp dvs E tNil):=by
 intro pins s σ H Q I h
 refine wpAny_Call_Name_kw (xj I hg hm ?_ hdb)
 exact UB I.kIn hk (Xk (us:=[]) F hr hb hd hx I .nil h)
structure Mk (K:Le)(C f:Addr):Prop where
 makes:PySem.W.makesIn K C=true
 init:PySem.W.findIn K (.ref C) "__init__" = some (some (.ref f))
 fn:PySem.W.isFn K (.ref f)=true
 kp:PySem.W.keepIn K (.ref C)=true
end
section
variable {X:Cx} {CX:CXT} {k:Nat} {f C:Addr} {fd:FuncData} {ps ks:Lh} {sp:Sp} {E:XK} {x m:Str} {p pos apos kpos:Pos} {e o:Expr} {es:Lg} {kws:List Keyword} {te ta:TE} {t tk:TA} {nm:Option Str}
variable {g:Lf->Lf->Lf} {gV:List V->List V->List V}
end
structure zg (N P:Lh)(sc:Scope):Prop where
 kind:sc.kind=.function
 co:sc.isCoroutine=false
 gen:sc.isGenerator=false
 nd:N.Nodup
 pre:N.take P.length=P
 par:∀ x∈P,sc.names.lookup x=some .local\/sc.names.lookup x=some .cell
 nofree:∀ y∈sc.names,y.2≠.free
theorem QH {kindOf:Str->Option NameKind}{x:Str}:∀ {binds:List (Str×Value)} {m:La},(∀ v,(x,v)∉binds)->bindL kindOf binds m x=m x
 | [],_,_=>rfl
 | (n,v)::r,m,h=>by
  unfold bindL
  rw [QH fun w hw=>h w (ug _ hw)]
  split
  ·have:x≠n:=by rintro rfl;exact h v ue
   simp [this]
  ·rfl
theorem QI {kindOf:Str->Option NameKind}{x:Str}:∀ {binds:List (Str×Value)} {m:La},(∀ v,(x,v)∉binds)->bindC kindOf binds m x=m x
 | [],_,_=>rfl
 | (n,v)::r,m,h=>by
  unfold bindC
  rw [QI fun w hw=>h w (ug _ hw)]
  split
  ·rfl
  ·have:x≠n:=by rintro rfl;exact h v ue
   simp [this]
theorem QJ {kindOf:Str->Option NameKind}{x:Str}{v:Value}:∀ {P:Lh} {vs:Lf} {i:Nat} {m:La},P.Nodup->P[i]? = some x->vs[i]? = some v->kindOf x=some .local ->
  bindL kindOf (P.zip vs) m x=some v
 | [],_,_,_,_,h,_,_=>by simp at h
 | _::_,[],_,_,_,_,h,_=>by simp at h
 | p::P,w::vs,0,m,nd,h1,h2,hk=>by
  simp at h1 h2;subst h1;subst h2
  show bindL kindOf ((p,w)::P.zip vs) m p=_
  unfold bindL
  rw [QH fun v hv=>(uH.mp nd).1 (gJ hv).1,uz hk]
  simp
 | p::P,w::vs,i+1,m,nd,h1,h2,hk=>by
  show bindL kindOf ((p,w)::P.zip vs) m x=_
  unfold bindL
  exact QJ (i:=i) (uH.mp nd).2 (by simpa using h1) (by simpa using h2) hk
theorem QK {kindOf:Str->Option NameKind}{x:Str}{v:Value}:∀ {P:Lh} {vs:Lf} {i:Nat} {m:La},P.Nodup->P[i]? = some x->vs[i]? = some v->kindOf x≠some .local ->
  bindC kindOf (P.zip vs) m x=some v
 | [],_,_,_,_,h,_,_=>by simp at h
 | _::_,[],_,_,_,_,h,_=>by simp at h
 | p::P,w::vs,0,m,nd,h1,h2,hk=>by
  simp at h1 h2;subst h1;subst h2
  show bindC kindOf ((p,w)::P.zip vs) m p=_
  unfold bindC
  rw [QI fun v hv=>(uH.mp nd).1 (gJ hv).1,uy hk]
  simp
 | p::P,w::vs,i+1,m,nd,h1,h2,hk=>by
  show bindC kindOf ((p,w)::P.zip vs) m x=_
  unfold bindC
  exact QK (i:=i) (uH.mp nd).2 (by simpa using h1) (by simpa using h2) hk
noncomputable def start (N:Lh)(vs:List V):St:=vs.map some++List.replicate (N.length - vs.length) none
noncomputable def cxOf (CX:CXT)(P:Program)(w:World)(K:Le)(mg:La)(base:Heap)(N:Lh)(qual:Str)(scope:Scope)(f:Addr)(cd:Value)(A:Around)(outer:List Env)(s:Shared)(H:Hp)(E:XK):Cx where
 prog:=P
 w:=w
 K:=K
 mg:=mg
 base:=base
 A:=A.deeper (envOfC qual scope s.heap.objs.size f cd)
 N:=N
 s₀:=s
 H₀:=H
 env:=envOfC qual scope s.heap.objs.size f cd
 outer:=outer
 stack:=envOfC qual scope s.heap.objs.size f cd::outer
 ex:=[]
 calm:=true
 fn:=fun _=>true
 pn:=[]
 xe:=fun e s'=>wpAny (model P w) (A.deeper (envOfC qual scope s.heap.objs.size f cd)) (leaving (envOfC qual scope s.heap.objs.size f cd) e) (fun _ s''=>CX outer H s E e s'') (fun e' s''=>CX outer H s E e' s'') s'
theorem JZ {sc:Scope}{n:Nat}{x:Str}(h:sc.names.lookup x=some .cell):∃ c,(cellsFrom n sc.names []).lookup x=some c:=by
 have q:=PySem.W.cellsFrom_some sc.names n [] (.inl h)
 exact Option.isSome_iff_exists.mp q
theorem V6 {CX:CXT}{P:Program}{w:World}{K:Le}{mg:La}{base:Heap}{N ps:Lh}{qual:Str}{scope:Scope}{f:Addr}{cd:Value}{A:Around}{outer:List Env}{s s1:Shared}{H:Hp}{E:XK}{us:Lf}{vs:List V}
  (S:zg N ps scope) (hd:A.handled=none) (e0:Env0 P w K mg base A outer s H) (hl:vs.length=ps.length) (r:Vals vs us)
  (x:InCallC s s.heap.objs.size (bindL (envOfC qual scope s.heap.objs.size f cd).kindOf (ps.zip us) fun _=>none) (cellsFrom (s.heap.objs.size+1) scope.names []) (bindC (envOfC qual scope s.heap.objs.size f cd).kindOf (ps.zip us) fun _=>none) s1) :
  Inv (cxOf CX P w K mg base N qual scope f cd A outer s H E) [] (start N vs) H s1:=by
 have hpl:ps.length<=N.length:=by have:=congrArg List.length S.pre;rw [Us] at this;lia
 obtain⟨h1,tk,rfl,hk⟩:=x.done
 have noA:∀ b:Addr,b∉(cxOf CX P w K mg base N qual scope f cd A outer s H E).ex:=fun b z=>absurd (show b∈([]:Ld) from z) (by simp)
 refine⟨⟨e0.mod,S.kind,rfl,rfl,uu _,fun y z c h1 h2=>?_,fun y hy=>?_,fun y c _ h=>?_,fun _=>hd,Around.frames_deeper e0.frames,.inr ⟨rfl,rfl⟩,fun b z=>absurd z (noA b),e0.bs,e0.bsz,fun b _ _=>noA b,fun b z=>absurd z (noA b),e0.funs,e0.frf⟩,
  rfl,e0.bare,Un.kept hk,⟨_,x.toInCall.ns,fun i y v h1 h2 h3=>?_⟩,fun y c h=>⟨_,x.cell y c h⟩,e0.hok.fresh (uu _),fun y c h=>?_,fun p hp=>absurd (show p∈([]:List (Addr×Obj)) from hp) (by simp),e0.hok.kept hk,?_⟩
 ·exact name_of_addr x.apart (u6 h1) (u6 h2)
 ·have hy:scope.names.lookup y=some .cell\/scope.names.lookup y=some .free:=hy
  rcases hy with hy | hy
  ·exact JZ hy
  ·exact absurd rfl (S.nofree _ (u6 hy))
 ·exact Nat.le_of_lt (x.above y c (u6 h))
 ·have hi:i<vs.length:=by
   unfold start at h2
   by_cases hi:i<vs.length
   ·exact hi
   ·rw [uL (by simpa using hi)] at h2
    rw [gU] at h2
    split at h2<;>cases h2
  have ha:vs[i]? = some v:=by
   unfold start at h2
   rw [u5 (by simpa using hi),uD] at h2
   cases e:vs[i]? with
   | none=>rw [e] at h2;cases h2
   | some a=>rw [e] at h2;cases h2;rfl
  obtain⟨u,hu,rv⟩:=r.get ha
  have hp:ps[i]? = some y:=by
   rw [← S.pre,List.getElem?_take_of_lt (by lia)];exact h1
  have ndP:ps.Nodup:=by rw [← S.pre];exact S.nd.sublist (List.take_sublist _ _)
  refine⟨u,rv,?_⟩
  rcases S.par y (uR hp) with k | k
  ·exact .inl ⟨k,QJ ndP hp hu k⟩
  ·obtain⟨c,e⟩:=JZ (n:=s.heap.objs.size+1) k
   refine .inr ⟨.inl k,c,e,?_⟩
   have q:=x.cell y c e
   rw [QK ndP hp hu (by show scope.names.lookup y≠_;rw [k];decide)] at q
   exact q
 ·exact e0.hok.fresh (Nat.le_of_lt (x.above y c (u6 h)))
 ·unfold start
  show _=N.length
  rw [uf,uh,u7]
  lia
theorem YU {CX:CXT}{P:Program}{w:World}{K:Le}{mg:La}{base:Heap}{k:Nat}{f:Addr}{name qual:Str}{params:Arguments}{body:List Stmt}{scope:Scope}{dV kV doc pm cdv ct oc:Value}{an od:Option Addr}
  {osl:Array (Option Value)} {N ps:Lh} {sp:Sp} (lk:K.lookup f=some ⟨oc,od,.func (PySem.W.fnOf name qual params body scope dV kV doc pm an cdv ct),osl⟩) (hcd:PySem.W.codeIn K cdv qual=true) (S:zg N ps scope)
  (len:∀ vs H Q E,sp vs H Q E->vs.length=ps.length)
  (hbody:∀ (A:Around) (outer:List Env) (s:Shared) (H:Hp) (vs:List V) (Q:VK) (E:XK),Room k (A.deeper (envOfC qual scope s.heap.objs.size f cdv))->sp vs H Q E ->
   ∃ t,PSs (cxOf CX P w K mg base N qual scope f cdv A outer s H E) body t/\t { nx:=fun _ H'=>Q .non H',rt:=Q } (start N vs) H) :
  FnOk P w K mg base CX (k+1) f (PySem.W.fnOf name qual params body scope dV kV doc pm an cdv ct) ps sp:=by
 refine⟨len,fun A outer s H args us vs Q E hr e0 hb r hsp=>?_⟩
 have hl:=len _ _ _ _ hsp
 have KX:K.In s.heap:=e0.mod.kin.keeps fun b o e=>(e0.bs b o e).1
 have lim:s.heap.NoLimit:=e0.mod.nolimit.keeps fun b o e=>(e0.bs b o e).1
 have hkind:∀ y∈ps.zip us,scope.names.lookup y.1=some .local\/(scope.names.lookup y.1=some .cell/\((cellsFrom (s.heap.objs.size+1) scope.names []).lookup y.1).isSome=true):=fun⟨n,v⟩ hy=>by
  rcases S.par n (gJ hy).1 with q | q
  ·exact .inl q
  ·exact .inr ⟨q,PySem.W.cellsFrom_some _ _ _ (.inl q)⟩
 refine codeAny_call_function hr.depth (KX _ _ lk) rfl S.co S.gen rfl (PySem.W.codeRec_of KX hcd) (hb _ _ _ _ ?_)
 refine wpAny_newFunctionEnv_cells S.kind hkind fun env he s1 x=>?_
 subst he
 refine⟨lim.keeps x.toInCall.keep,codeAny_func ?_⟩
 obtain⟨t,ht,hq⟩:=hbody A outer s H vs Q E (hr.deeper _) hsp
 have I:Inv (cxOf CX P w K mg base N qual scope f cdv A outer s H E) [] (start N vs) H s1:=V6 S hr.hd e0 hl r x
 refine wpAny_mono (ht [] s1 (start N vs) H _ I hq) (fun fl s' hs=>?_) fun e s' hs=>hs
 have fin:∀ {σ':St} {H':Hp} {v:V} {u:Value},Inv (cxOf CX P w K mg base N qual scope f cdv A outer s H E) [] σ' H' s'->RelV v u->Q v H'->CE outer P w H s Q u s':=
  fun {σ' H' v u} J rv q=>⟨v,H',J.os,J.bare,J.base,J.hok,rv,q⟩
 cases fl with
 | ret u=>
  obtain⟨v,σ',H',J,rv,q⟩:=hs
  exact fin J rv q
 | next=>
  obtain⟨σ',H',J,q⟩:=hs
  exact fin (v:=V.non) (u:=Value.none) J rfl q
 | brk=>
  obtain⟨_,_,_,q⟩:=hs
  exact False.elim q
 | cont=>
  obtain⟨_,_,_,q⟩:=hs
  exact False.elim q
section
variable {X:Cx} {x:Str} {p pos:Pos} {e:Expr} {es:Lg} {t:TA} {id T:String} {r:List V->Hp->VK->Prop}
def tCB (r:List V->Hp->VK->Prop)(t:TA):TE:=fun σ H Q=>t σ H fun vs H1=>r vs H1 Q
theorem yI (hc:jc X (.builtin id) r)(hg:Gl X x)(hm:X.mg x=none)(hv:bootBuiltins x=some (.builtin id))(ha:PA X (e::es) t)(hn:x≠"__name__") (hdb:(x == ("__debug__":Str))=false)
  (he:starEach (e::es) X.env=(false,eval e X.env)::starEach es X.env) (hpl:(backTo pos (starEach es X.env)).any (·.1)=false):PE X (.Call (.Name x p) (e::es) [] pos) (tCB r t):=by
 intro pins s σ H Q I h
 refine wpAny_Call_Name_kw (ko I hg hm hv ?_ hn hdb)
 exact PyProof.Rows.callWith_builtin1 (thn (ha pos pins s σ H _ I h) fun us s1 ⟨vs,H1,I1,r1,q1⟩=>hc pins s1 σ H1 vs us Q I1 r1 q1) he hpl
theorem QM (hc:jc X (.type T) r)(hg:Gl X x)(hm:X.mg x=none)(hv:bootBuiltins x=some (.type T))(ha:PA X (e::es) t)(hn:x≠"__name__") (hdb:(x == ("__debug__":Str))=false)
  (he:starEach (e::es) X.env=(false,eval e X.env)::starEach es X.env) (hpl:(backTo pos (starEach es X.env)).any (·.1)=false):PE X (.Call (.Name x p) (e::es) [] pos) (tCB r t):=by
 intro pins s σ H Q I h
 refine wpAny_Call_Name_kw (ko I hg hm hv ?_ hn hdb)
 exact PyProof.Rows.callWith_type1 (thn (ha pos pins s σ H _ I h) fun us s1 ⟨vs,H1,I1,r1,q1⟩=>hc pins s1 σ H1 vs us Q I1 r1 q1) he hpl
end
end L2
namespace HT
open PySem PyProof.Rows
section
open PySem.SeqAt
open PySem.AutoSeq1 (wpAny_loadPart')
open PySem.MeetsSeq PySem.MeetsSeq2 PySem.MeetsSeq3
end
section
variable {prog:Program} {w:World} {A:Around} {E:Value->Shared->Prop} {s:Shared}
theorem zbl {t b:Addr}{vs ws:Lf}{Q:Value->Shared->Prop}(ht:IsTup s.heap t vs.toArray)(hb:IsTup s.heap b ws.toArray)(hv:vs≠[])
  (h1:ws=[]->Q (.ref t) s) (h2:ws≠[]->Q (.ref s.heap.objs.size) { s with heap:=s.heap.push { cls:=.type "tuple",data:=.seq (vs++ws).toArray } })
  (hsz:vs.length+ws.length<=sizeLine):wpAny (model prog w) A (binaryOp .Add (.ref t) (.ref b)) Q E s:=by
 obtain⟨⟨cls,dd,data,sl⟩,ho,hc,n,hd⟩:=id ht
 obtain⟨⟨cls2,dd2,data2,sl2⟩,ho2,hc2,n2,hd2⟩:=id hb
 simp only at hc hd hc2 hd2
 subst hc hd hc2 hd2
 have e:vs.toArray++ws.toArray=(vs++ws).toArray:=by simp
 by_cases hw:ws=[]
 ·exact concat_meets ⟨_,ho,rfl⟩ ⟨_,ho2,rfl⟩ noFill_tuple_add seq_tuple_add gk U6 (U3 _ _)
   (tuple_addW1 t b vs.toArray ws.toArray n n2 dd dd2 sl sl2 (by simpa using hv) (by simp [hw])) ⟨ho,ho2,h1 hw⟩
 ·refine concat_meets ⟨_,ho,rfl⟩ ⟨_,ho2,rfl⟩ noFill_tuple_add seq_tuple_add gk U6 (U3 _ _)
   (tuple_addW2 t b vs.toArray ws.toArray n n2 dd dd2 sl sl2 (by simpa using hv) (by simpa using hw) (by rw [ur,ur];exact hsz)) ⟨ho,ho2,?_⟩
  rw [e]
  exact h2 hw
noncomputable def sIx (n d:Nat):Option Int->Nat
 | none=>d
 | some v=>if v<0 then(v+(n:Int)).toNat else min v.toNat n
theorem sIx_nat (n d k:Nat):sIx n d (some (k:Int))=min k n:=by
 show(if (k:Int)<0 then((k:Int)+(n:Int)).toNat else min (k:Int).toNat n)=min k n
 rw [uy (by lia),gD]
theorem sIx_le (n d:Nat)(hd:d<=n)(o:Option Int):sIx n d o<=n:=by
 cases o with
 | none=>exact hd
 | some v=>
  show(if v<0 then(v+(n:Int)).toNat else min v.toNat n)<=n
  by_cases hv:v<0
  ·rw [uz hv];lia
  ·rw [uy hv];exact Nat.min_le_right _ _
end
end HT
namespace L2
open PySem PySem.Spec PyProof.Rows
abbrev TO:=St->Hp->(Option Int->Hp->Prop)->Prop
def PO (X:Cx)(e:Option Expr)(t:TO):Prop:=
 ∀ (pins:List (Addr×Obj)) (s:Shared) (σ:St) (H:Hp) (Q:Option Int->Hp->Prop),Inv X pins σ H s->t σ H Q ->
  wpAny (model X.prog X.w) X.A (evalPart e X.env) (fun u s'=>∃ o H',Inv X pins σ H' s'/\IsPart u o/\Q o H') X.xe s
def X7:TO:=fun _ H Q=>Q none H
def zco (t:TE):TO:=fun σ H Q=>t σ H fun x H1=>∃ i,x=.int i/\Q (some i) H1
section
variable {X:Cx} {e:Expr} {te:TE} {lo hi:Option Expr} {tl th:TO} {pos p2:Pos}
theorem zbm:PO X none X7:=by
 intro pins s σ H Q I h
 rw [evalPart_none]
 exact wpAny_pure ⟨none,H,I,.none,h⟩
theorem zbn (h:PE X e te):PO X (some e) (zco te):=by
 intro pins s σ H Q I hw
 rw [evalPart_some]
 refine thn (h pins s σ H _ I hw) fun u s1 ⟨x,H1,I1,r1,q1⟩=>?_
 obtain⟨i,rfl,q⟩:=q1
 obtain⟨t,rfl⟩:=r1
 exact⟨some i,H1,I1,.int i t,q⟩
def SlR (X:Cx)(r:V->Option Int->Option Int->Hp->VK->Prop):Prop:=
 ∀ (pins:List (Addr×Obj)) (s:Shared) (σ:St) (H:Hp) (x:V) (v vl vu:Value) (lo hi:Option Int) (sl:Addr) (Q:VK),Inv X pins σ H s->RelV x v->s.heap.IsSliceOf sl vl vu .none->IsPart vl lo->IsPart vu hi->r x lo hi H Q ->
  ∃ T id,typeLookup (.type T) "__getitem__" = pure (some (.builtin id))/\s.TypeIs v T/\wpAny (model X.prog X.w) X.A (getItem v (.ref sl)) (EP X pins σ Q) X.xe s
theorem SlR.or {r r':V->Option Int->Option Int->Hp->VK->Prop}(h:SlR X r)(h':SlR X r'):SlR X (fun x lo hi H Q=>r x lo hi H Q\/r' x lo hi H Q):=by
 intro pins s σ H x v vl vu lo hi sl Q I rx hs pl pu q
 rcases q with q | q
 ·exact h pins s σ H x v vl vu lo hi sl Q I rx hs pl pu q
 ·exact h' pins s σ H x v vl vu lo hi sl Q I rx hs pl pu q
def tSl (r:V->Option Int->Option Int->Hp->VK->Prop)(te:TE)(tl th:TO):TE:=fun σ H Q=>te σ H fun x H1=>tl σ H1 fun l H2=>th σ H2 fun u H3=>r x l u H3 Q
theorem YV {r:V->Option Int->Option Int->Hp->VK->Prop}(hr:SlR X r)(he:PE X e te)(hl:PO X lo tl)(hu:PO X hi th):PE X (.Subscript e (.Slice lo hi none p2) pos) (tSl r te tl th):=by
 intro pins s σ H Q I h
 refine Subscript_ (thn (he pins s σ H _ I h) fun v s1 ⟨x,H1,I1,r1,q1⟩=>?_)
 refine wpAny_Slice (thn (hl pins s1 σ H1 _ I1 q1) fun vl s2 ⟨l,H2,I2,pl,q2⟩=>thn (hu pins s2 σ H2 _ I2 q2) fun vu s3 ⟨u,H3,I3,pu,q3⟩=>?_)
 rw [evalPart_none]
 refine wpAny_pure ?_
 have I4:Inv X pins σ H3 { s3 with heap:=s3.heap.push { cls:=.type "slice",data:=.fields #[vl,vu,.none] } }:=I3.kept (t':=s3.toks) fun b ob q=>Heap.get?_push_of_some _ q
 obtain⟨T,id,hT,ht,hg⟩:=hr pins { s3 with heap:=s3.heap.push { cls:=.type "slice",data:=.fields #[vl,vu,.none] } } σ H3 x v vl vu l u s3.heap.objs.size Q I4 r1 (Heap.IsSliceOf.new ..) pl pu q3
 show wpAny (model X.prog X.w) X.A (subscriptTail e (.Slice lo hi none p2) v (.ref s3.heap.objs.size)) (EP X pins σ Q) X.xe { s3 with heap:=s3.heap.push { cls:=.type "slice",data:=.fields #[vl,vu,.none] } }
 exact tail_any (ops:=[.ref s3.heap.objs.size,v]) ht hT hg (by with_unfolding_all rfl)
noncomputable def cutV (xs:List V)(lo hi:Option Int):List V:=(xs.drop (HT.sIx xs.length 0 lo)).take (HT.sIx xs.length xs.length hi - HT.sIx xs.length 0 lo)
theorem J0 (xs:List V)(lo hi:Option Int):(cutV xs lo hi).length<=xs.length:=by
 unfold cutV
 rw [Us,Uh]
 lia
def zfn (K:Le):R2:=fun x y H Q=>∃ a b xs ys,x=.ref a/\y=.ref b/\SqT K H a xs/\SqT K H b ys/\xs≠[]/\xs.length+ys.length<=sizeLine /\
 (ys=[]->Q (.ref a) H)/\(ys≠[]->∀ p,H p=none->Q (.ref p) (upd H p (.tup (xs++ys))))
theorem Vals.nil_iff {xs:List V}{us:Lf}(r:Vals xs us):us=[]↔xs=[]:=by
 cases r with
 | nil=>simp
 | cons _ _=>simp
theorem zbo:OpR X (binaryOp .Add) (zfn X.K):=by
 intro pins s σ H x y v u Q I rx ry h
 obtain⟨a,b,xs,ys,rfl,rfl,ha,hb,hx,hz,q1,q2⟩:=h
 cases rx
 cases ry
 obtain⟨its,r1,p1,_⟩:=I.tuple ha
 obtain⟨its2,r2,p2,_⟩:=I.tuple hb
 refine HT.zbl p1 p2 (fun z=>hx (r1.nil_iff.mp z)) (fun z=>⟨.ref a,H,I,rfl,q1 (r2.nil_iff.mp z)⟩) (fun z=>?_) (by rw [← r1.length,← r2.length];exact hz)
 refine⟨.ref s.heap.objs.size,_,I.laid (t':=s.toks) (o:=.tup (xs++ys)) (fun b ob q=>Heap.get?_push_of_some _ q) (uu _) ?_,rfl,q2 (fun w=>z (r2.nil_iff.mpr w)) _ (I.hok.fresh (uu _))⟩
 exact⟨by rw [uf];exact hz,_,r1.append r2,IsTup.new _ _⟩
end
noncomputable def ixN (n:Nat)(i:Int):Option Nat:=if 0<=i then(if i<n then some i.toNat else none) else if -(n:Int)<=i then some (i+n).toNat else none
noncomputable def atI {α:Type}(xs:List α)(i:Int):Option α:=(ixN xs.length i).bind fun j=>xs[j]?
theorem Jb {n:Nat}{i:Int}{j:Nat}(h:ixN n i=some j):seqIndex? i n=some j/\j<n/\-(n:Int)<=i/\i<n:=by
 unfold ixN at h
 by_cases h0:0<=i
 ·rw [uz h0] at h
  by_cases h1:i<n
  ·rw [uz h1] at h
   have e:i.toNat=j:=uU h
   exact⟨by rw [seqIndex_of h0 h1,e],by lia,by lia,h1⟩
  ·rw [uy h1] at h;cases h
 ·rw [uy h0] at h
  by_cases h1:-(n:Int)<=i
  ·rw [uz h1] at h
   have e:(i+n).toNat=j:=uU h
   exact⟨by rw [seqIndex_neg (by lia) h1,e],by lia,h1,by lia⟩
  ·rw [uy h1] at h;cases h
theorem Jc {α:Type}{xs:List α}{i:Int}{v:α}(h:atI xs i=some v):∃ j,seqIndex? i xs.length=some j/\xs[j]? = some v/\j<xs.length/\-(xs.length:Int)<=i/\i<xs.length:=by
 unfold atI at h
 cases e:ixN xs.length i with
 | none=>rw [e] at h;cases h
 | some j=>
  rw [e] at h
  obtain⟨h1,h2,h3,h4⟩:=Jb e
  exact⟨j,h1,h,h2,h3,h4⟩
theorem atI_nat {α:Type}{xs:List α}{j:Nat}{v:α}(h:xs[j]? = some v):atI xs (j:Int)=some v:=by
 have hj:j<xs.length:=(uF.mp h).1
 have e:ixN xs.length (j:Int)=some j:=by
  unfold ixN
  rw [uz (by lia),uz (by lia)];simp
 unfold atI;rw [e];exact h
def X8 (b:Expr):Prop:=∀ o i,subscripted b false o i=operate [o,i] (getItem o i)
def IxR (X:Cx)(r:R2):Prop:=
 ∀ (value slice:Expr) (pins:List (Addr×Obj)) (s:Shared) (σ:St) (H:Hp) (x y:V) (v u:Value) (Q:VK),Inv X pins σ H s->RelV x v->RelV y u->r x y H Q ->
  subscripted slice false v u=operate [v,u] (getItem v u)->wpAny (model X.prog X.w) X.A (subscriptTail value slice v u) (EP X pins σ Q) X.xe s
def MtR (X:Cx)(id:String)(r:V->List V->Hp->VK->Prop):Prop:=
 ∀ (pins:List (Addr×Obj)) (s:Shared) (σ:St) (H:Hp) (x:V) (xs:List V) (v:Value) (us:Lf) (Q:VK),Inv X pins σ H s->RelV x v->Vals xs us->r x xs H Q ->
  wpAny (model X.prog X.w) X.A (call (.builtin id) (v::us)) (EP X pins σ Q) X.xe s
section
variable {X:Cx} {a b:Expr} {ta tb:TE} {pos:Pos}
theorem IxR.or {r r':R2}(h:IxR X r)(h':IxR X r'):IxR X (fun x y H Q=>r x y H Q\/r' x y H Q):=by
 intro value slice pins s σ H x y v u Q I rx ry q hs
 rcases q with q | q
 ·exact h value slice pins s σ H x y v u Q I rx ry q hs
 ·exact h' value slice pins s σ H x y v u Q I rx ry q hs
theorem MtR.or {id:String}{r r':V->List V->Hp->VK->Prop}(h:MtR X id r)(h':MtR X id r'):MtR X id (fun x xs H Q=>r x xs H Q\/r' x xs H Q):=by
 intro pins s σ H x xs v us Q I rx rs q
 rcases q with q | q
 ·exact h pins s σ H x xs v us Q I rx rs q
 ·exact h' pins s σ H x xs v us Q I rx rs q
theorem zcp {r:R2}(hr:IxR X r)(ha:PE X a ta)(hb:PE X b tb)(hs:X8 b):PE X (.Subscript a b pos) (tOp r ta tb):=by
 intro pins s σ H Q I h
 exact Subscript_ (binT ha hb I h fun v u s2 x y H2 I2 rx ry q=>hr a b pins s2 σ H2 x y v u Q I2 rx ry q (hs _ _))
def rIxL (K:Le):R2:=fun x y H Q=>∃ p xs i v,x=.ref p/\y=.int i/\SqL K H p xs/\atI xs i=some v/\Q v H
def rIxT (K:Le):R2:=fun x y H Q=>∃ p xs i v,x=.ref p/\y=.int i/\SqT K H p xs/\atI xs i=some v/\Q v H
def rIxS:R2:=fun x y H Q=>∃ z i c,x=.str z/\y=.int i/\z.length<=sizeLine/\atI z.cps.toList i=some c/\Q (.str ⟨#[c]⟩) H
theorem X9:IxR X (rIxL X.K):=by
 intro value slice pins s σ H x y v u Q I rx ry h hs
 obtain⟨p,xs,i,z,rfl,rfl,hq,he,q⟩:=h
 cases rx
 obtain⟨t,rfl⟩:=ry
 obtain⟨its,r,pl,hz⟩:=I.list hq
 obtain⟨j,h1,h2,h3,h4,h5⟩:=Jc he
 obtain⟨w,ew,rw'⟩:=r.get h2
 have hl:=r.length
 have hn:=yj
 have fin:EP X pins σ Q w s:=⟨z,H,I,rw',q⟩
 by_cases h0:0<=i
 ·have hj:i.toNat=j:=by
   rw [seqIndex_of h0 h5] at h1
   exact uU h1
  exact item_listR pl.isList h0 (by lia) (by rw [hj];simpa using ew) fin hs
 ·have hj:(i+(its.toArray.size:Int)).toNat=j:=by
   rw [seqIndex_neg (by lia) h4] at h1
   rw [ur,← hl]
   exact uU h1
  exact subscriptTail_builtinR (x:=w) pl.isList.typeIs slot_list_getitem.lookup
   (wpAny_getItem_list_neg (Q:=fun r s'=>r=w/\EP X pins σ Q r s') pl.isList (by lia) (by rw [ur]<;>lia) (by lia) (by rw [hj];simpa using ew) ⟨rfl,fin⟩) hs
theorem YW:IxR X (rIxT X.K):=by
 intro value slice pins s σ H x y v u Q I rx ry h hs
 obtain⟨p,xs,i,z,rfl,rfl,hq,he,q⟩:=h
 cases rx
 obtain⟨t,rfl⟩:=ry
 obtain⟨its,r,pl,hz⟩:=I.tuple hq
 obtain⟨j,h1,h2,h3,h4,h5⟩:=Jc he
 obtain⟨w,ew,rw'⟩:=r.get h2
 have hl:=r.length
 have hn:=yj
 have fin:EP X pins σ Q w s:=⟨z,H,I,rw',q⟩
 exact subscriptTail_builtinR (x:=w) pl.typeIs slot_tuple_getitem.lookup
  (getItem_tuple (j:=j) (Q:=fun r s'=>r=w/\EP X pins σ Q r s') pl (by lia) (by lia) (by rw [ur,← hl];exact h1) (by simpa using ew) ⟨rfl,fin⟩) hs
theorem YX:IxR X rIxS:=by
 intro value slice pins s σ H x y v u Q I rx ry h hs
 obtain⟨z,i,c,rfl,rfl,hz,he,q⟩:=h
 obtain⟨t,rfl⟩:=rx
 obtain⟨t',rfl⟩:=ry
 obtain⟨j,h1,h2,h3,h4,h5⟩:=Jc he
 have hl:z.cps.toList.length=z.length:=by simp [Str.length]
 rw [hl] at h1 h4 h5
 have hn:=yj
 exact tail_any (typeIs_str s z t) slot_str_getitem.lookup (getItem_str (c:=c) (by
  have e1:decide (i < -(2 ^ 63:Int))=false:=uV (by lia)
  have e2:decide (i ≥ 2 ^ 63)=false:=uV (by lia)
  rw [e1,e2,Bool.or_false]) (by rw [h1];simpa using h2) ⟨.str ⟨#[c]⟩,H,I.tok _,⟨_,rfl⟩,q⟩) hs
def rIx (K:Le):R2:=fun x y H Q=>rIxL K x y H Q\/rIxT K x y H Q\/rIxS x y H Q
theorem ix_seq:IxR X (rIx X.K):=X9.or (YW.or YX)
theorem Xl (its:Lf)(n j:Nat)(u:Value):Obj.mapSeq (·.setIfInBounds j u) { cls:=.type "list",data:=.seq its.toArray n }={ cls:=.type "list",data:=.seq (its.set j u).toArray n }:=by
 simp [Obj.mapSeq]
theorem Inv.lst {pins:List (Addr×Obj)}{σ:St}{H:Hp}{s:Shared}{p:Addr}{xs:List V}(I:Inv X pins σ H s)(h:H p=some (.lst xs)) :
  ∃ (its:Lf) (n:Nat),Vals xs its/\s.heap.get? p=some { cls:=.type "list",data:=.seq its.toArray n }/\xs.length<=sizeLine:=by
 obtain⟨z,its,n,r,e⟩:=I.hok p _ h
 exact⟨its,n,r,e,z⟩
theorem Inv.lstUpd {pins:List (Addr×Obj)}{σ:St}{H:Hp}{s:Shared}{p:Addr}{xs ys:List V}{its its':Lf}{n n':Nat}{f:Obj->Obj}(I:Inv X pins σ H s)(h:H p=some (.lst xs))
  (ho:s.heap.get? p=some { cls:=.type "list",data:=.seq its.toArray n }) (hf:f { cls:=.type "list",data:=.seq its.toArray n }={ cls:=.type "list",data:=.seq its'.toArray n' }) (r:Vals ys its') (hz:ys.length<=sizeLine) (t:Nat) :
  Inv X pins σ (upd H p (.lst ys)) { s with heap:=s.heap.update p f,toks:=t }:=by
 have e:(s.heap.update p f).get? p=some { cls:=.type "list",data:=.seq its'.toArray n' }:=by
  rw [Heap.get?_update_self f ho (by rw [hf]<;>rfl),hf]
 refine I.write (x:=p) (e:=p) (by rw [h];trivial) (.inl rfl) (fun b u hb q=>(Heap.get?_update_other _ _ (Ne.symm hb)).trans q) ⟨_,e⟩ ?_
 exact⟨hz,its',n',r,e⟩
def zcq:V->V->V->Hp->(Hp->Prop)->Prop:=fun o i v H Q=>∃ p xs k j,o=.ref p/\i=.int k/\H p=some (.lst xs)/\ixN xs.length k=some j/\Q (upd H p (.lst (xs.set j v)))
theorem set_list:PSet X zcq:=by
 intro pins s σ H o i v ov iv u Q I ro ri rv h
 obtain⟨p,xs,k,j,rfl,rfl,hp,hj,q⟩:=h
 cases ro
 obtain⟨t,rfl⟩:=ri
 obtain⟨its,n,r,ho,hz⟩:=I.lst hp
 obtain⟨h1,h2,h3,h4⟩:=Jb hj
 have hl:=r.length
 have hn:=yj
 have I':Inv X pins σ (upd H p (.lst (xs.set j v))) { s with heap:=s.heap.update p (Obj.mapSeq (·.setIfInBounds j u)) }:=
  I.lstUpd hp ho (Xl its n j u) (r.set rv j) (by rw [uZ];exact hz) s.toks
 by_cases h0:0<=k
 ·have hk:k.toNat=j:=by
   rw [seqIndex_of h0 h4] at h1
   exact uU h1
  exact PySem.W.ki_setAt ho h0 (by lia) (by rw [ur,← hl];exact h4) (by rw [hk];exact⟨_,I',q⟩)
 ·have hk:(k+(its.toArray.size:Int)).toNat=j:=by
   rw [seqIndex_neg (by lia) h3] at h1
   rw [ur,← hl]
   exact uU h1
  exact PySem.W.ki_setBack ho (by lia) (by rw [ur,← hl];exact h3) (by lia) (by rw [hk];exact⟨_,I',q⟩)
theorem Jd (lo hi:Option Int)(n:Nat):(sliceBounds lo hi none n).1=((HT.sIx n 0 lo:Nat):Int)/\(sliceBounds lo hi none n).2.1=((HT.sIx n n hi:Nat):Int)/\(sliceBounds lo hi none n).2.2=1:=by
 refine⟨?_,?_,rfl⟩
 ·cases lo with
  | none=>simp [sliceBounds,HT.sIx]
  | some i=>
   simp only [sliceBounds,HT.sIx,U7,show(1:Int) > 0 by decide,Ul]
   by_cases h:i<0
   ·simp only [h,Ul]<;>lia
   ·simp only [h,U8]<;>lia
 ·cases hi with
  | none=>simp [sliceBounds,HT.sIx]
  | some i=>
   simp only [sliceBounds,HT.sIx,U7,show(1:Int) > 0 by decide,Ul]
   by_cases h:i<0
   ·simp only [h,Ul]<;>lia
   ·simp only [h,U8]<;>lia
theorem Qn (its:Lf)(lo hi:Option Int):slicePick its.toArray lo hi none=((its.drop (HT.sIx its.length 0 lo)).take (HT.sIx its.length its.length hi - HT.sIx its.length 0 lo)).toArray:=by
 obtain⟨h1,h2,h3⟩:=Jd lo hi its.toArray.size
 unfold slicePick
 rw [h1,h2,h3]
 simp only [sliceRange_one,pick_run,ur]<;>rfl
def rSlL (K:Le):V->Option Int->Option Int->Hp->VK->Prop:=fun x lo hi H Q=>∃ a xs,x=.ref a/\SqL K H a xs/\∀ p,H p=none->Q (.ref p) (upd H p (.lst (cutV xs lo hi)))
theorem zbp:SlR X (rSlL X.K):=by
 intro pins s σ H x v vl vu lo hi sl Q I rx hs pl pu h
 obtain⟨a,xs,rfl,hx,q⟩:=h
 cases rx
 obtain⟨its,r,ht,hz⟩:=I.list hx
 have hlen:=r.length
 refine⟨"list",_,slot_list_getitem.lookup,ht.isList.typeIs,?_⟩
 refine wpAny_getItem_list_slice ht.isList hs pl pu .none (by simp) ?_ (by rw [ur]<;>lia)
 rw [Qn,← hlen]
 refine⟨.ref s.heap.objs.size,_,I.laid (t':=s.toks) (o:=.lst (cutV xs lo hi)) (fun b ob q=>Heap.get?_push_of_some _ q) (uu _) ?_,rfl,q _ (I.hok.fresh (uu _))⟩
 exact⟨uW (J0 xs lo hi) hz,_,0,(r.drop (HT.sIx xs.length 0 lo)).take (HT.sIx xs.length xs.length hi - HT.sIx xs.length 0 lo),Heap.get?_push_size _ rfl⟩
noncomputable def zH:V->Bool
 | .non=>true
 | .bl _=>true
 | .int _=>true
 | .str _=>true
 | _=>false
noncomputable def eqV:V->V->Bool
 | .non,.non=>true
 | .bl a,.bl b=>a == b
 | .bl a,.int b=>(if a then 1 else 0) == b
 | .int a,.bl b=>a == (if b then 1 else 0)
 | .int a,.int b=>a == b
 | .str a,.str b=>a == b
 | _,_=>false
theorem YY {A:Around}{s:Shared}{y x:V}{u v:Value}(ry:RelV y u)(rx:RelV x v)(fy:zH y=true)(fx:zH x=true):SeqAt.EqAt A s u v (eqV y x):=by
 cases y with
 | non=>
  cases ry
  cases x with
  | non=>cases rx;exact SeqAt.EqAt.same _
  | bl b=>cases rx;exact SeqAt.EqAt.none_bool b
  | int b=>obtain⟨t,rfl⟩:=rx;exact SeqAt.EqAt.none_int b t
  | str b=>obtain⟨t,rfl⟩:=rx;exact SeqAt.EqAt.none_str b t
  | _=>exact absurd (show false=true from fx) uG
 | bl a=>
  cases ry
  cases x with
  | non=>cases rx;exact SeqAt.EqAt.bool_none a
  | bl b=>cases rx;exact SeqAt.EqAt.bool_bool a b
  | int b=>obtain⟨t,rfl⟩:=rx;exact SeqAt.EqAt.bool_int a b t
  | str b=>obtain⟨t,rfl⟩:=rx;exact SeqAt.EqAt.bool_str a b t
  | _=>exact absurd (show false=true from fx) uG
 | int a=>
  obtain⟨t',rfl⟩:=ry
  cases x with
  | non=>cases rx;exact SeqAt.EqAt.int_none a t'
  | bl b=>cases rx;exact SeqAt.EqAt.int_bool a t' b
  | int b=>obtain⟨t,rfl⟩:=rx;exact SeqAt.EqAt.int_int a t' b t
  | str b=>obtain⟨t,rfl⟩:=rx;exact SeqAt.EqAt.int_str a t' b t
  | _=>exact absurd (show false=true from fx) uG
 | str a=>
  obtain⟨t',rfl⟩:=ry
  cases x with
  | non=>cases rx;exact SeqAt.EqAt.str_none a t'
  | bl b=>cases rx;exact SeqAt.EqAt.str_bool a t' b
  | int b=>obtain⟨t,rfl⟩:=rx;exact SeqAt.EqAt.str_int a t' b t
  | str b=>obtain⟨t,rfl⟩:=rx;exact SeqAt.EqAt.str_str a t' b t
  | _=>exact absurd (show false=true from fx) uG
 | _=>exact absurd (show false=true from fy) uG
noncomputable def eqU (x:V)(u:Value):Bool:=match u with
 | .none=>eqV .non x
 | .bool b=>eqV (.bl b) x
 | .int i _=>eqV (.int i) x
 | .str z _=>eqV (.str z) x
 | _=>false
theorem YZ {x y:V}{u:Value}(r:RelV y u)(f:zH y=true):eqU x u=eqV y x:=by
 cases y with
 | non=>cases r;rfl
 | bl b=>cases r;rfl
 | int i=>obtain⟨t,rfl⟩:=r;rfl
 | str z=>obtain⟨t,rfl⟩:=r;rfl
 | _=>exact absurd (show false=true from f) uG
theorem yJ {x:V}:∀ {xs:List V} {us:Lf},Vals xs us->xs.all zH=true->us.any (eqU x)=xs.any fun y=>eqV y x
 | _,_,.nil,_=>rfl
 | y::xs,u::us,.cons r t,f=>by
  rw [Up,ub] at f
  rw [Ui,Ui,YZ r f.1,yJ t f.2]
theorem xW {A:Around}{s:Shared}{x:V}{v:Value}(rx:RelV x v)(fx:zH x=true):∀ {xs:List V} {us:Lf},Vals xs us->xs.all zH=true->∀ u∈us,SeqAt.EqAt A s u v (eqU x u)
 | _,_,.nil,_=>fun u hu=>by cases hu
 | y::xs,u::us,.cons r t,f=>fun u' hu=>by
  rw [Up,ub] at f
  rcases um.mp hu with rfl | hu
  ·rw [YZ r f.1];exact YY r rx f.1 fx
  ·exact xW rx fx t f.2 u' hu
noncomputable def inV (x:V)(xs:List V):Bool:=xs.any fun y=>eqV y x
def rIn (K:Le)(neg:Bool):R2:=fun x y H Q=>∃ p xs,y=.ref p/\(SqL K H p xs\/SqT K H p xs)/\zH x=true/\xs.all zH=true/\Q (.bl (if neg then !inV x xs else inV x xs)) H
theorem V7:OpR X (compareOp .In) (rIn X.K false):=by
 intro pins s σ H x y v u Q I rx ry h
 obtain⟨p,xs,rfl,hq,fx,fs,q⟩:=h
 cases ry
 rcases hq with hq | hq
 ·obtain⟨its,r,pl,hz⟩:=I.list hq
  refine SeqAt.in_listAt (eqU x) pl.isList (fun w hw=>xW rx fx r fs w (by simpa using hw)) ⟨.bl _,H,I,rfl,?_⟩
  rw [show its.toArray.any (eqU x)=its.any (eqU x) by simp,yJ r fs]
  exact q
 ·obtain⟨its,r,pl,hz⟩:=I.tuple hq
  refine SeqAt.in_tupleAt (eqU x) pl (fun w hw=>xW rx fx r fs w (by simpa using hw)) ⟨.bl _,H,I,rfl,?_⟩
  rw [show its.toArray.any (eqU x)=its.any (eqU x) by simp,yJ r fs]
  exact q
theorem Je:OpR X (compareOp .NotIn) (rIn X.K true):=by
 intro pins s σ H x y v u Q I rx ry h
 obtain⟨p,xs,rfl,hq,fx,fs,q⟩:=h
 cases ry
 rcases hq with hq | hq
 ·obtain⟨its,r,pl,hz⟩:=I.list hq
  refine SeqAt.notIn_listAt (eqU x) pl.isList (fun w hw=>xW rx fx r fs w (by simpa using hw)) ⟨.bl _,H,I,rfl,?_⟩
  rw [show its.toArray.any (eqU x)=its.any (eqU x) by simp,yJ r fs]
  exact q
 ·obtain⟨its,r,pl,hz⟩:=I.tuple hq
  refine SeqAt.notIn_tupleAt (eqU x) pl (fun w hw=>xW rx fx r fs w (by simpa using hw)) ⟨.bl _,H,I,rfl,?_⟩
  rw [show its.toArray.any (eqU x)=its.any (eqU x) by simp,yJ r fs]
  exact q
theorem Jf:jc X (.builtin "len") (fun xs H Q=>∃ p ys,xs=[.ref p]/\(SqL X.K H p ys\/SqT X.K H p ys)/\Q (.int ys.length) H):=by
 intro pins s σ H xs us Q I r h
 obtain⟨p,ys,rfl,hq,q⟩:=h
 obtain⟨u,rfl,rx⟩:=vals1 r
 cases rx
 have hn:=yj
 rcases hq with hq | hq
 ·obtain⟨its,r',pl,hz⟩:=I.list hq
  have hlen:=r'.length
  exact Calls.call_len_list pl.isList (by simp only [ur]<;>lia) ⟨.int ys.length,H,I.tok _,⟨s.toks+1,by rw [ur,hlen]⟩,q⟩
 ·obtain⟨its,r',pl,hz⟩:=I.tuple hq
  have hlen:=r'.length
  exact len_tuple pl (by simp only [ur]<;>lia) ⟨.int ys.length,H,I.tok _,⟨s.toks+1,by rw [ur,hlen]⟩,q⟩
theorem Jg:jc X (.builtin "len") (fun xs H Q=>∃ z,xs=[.str z]/\z.length<=sizeLine/\Q (.int z.length) H):=by
 intro pins s σ H xs us Q I r h
 obtain⟨z,rfl,hz,q⟩:=h
 obtain⟨u,rfl,t,rfl⟩:=vals1 r
 have hn:=yj
 exact len_str (by lia) ⟨.int z.length,H,I.tok _,⟨_,rfl⟩,q⟩
theorem jc.or {f:Value}{r r':List V->Hp->VK->Prop}(h:jc X f r)(h':jc X f r'):jc X f (fun xs H Q=>r xs H Q\/r' xs H Q):=by
 intro pins s σ H xs us Q I rs q
 rcases q with q | q
 ·exact h pins s σ H xs us Q I rs q
 ·exact h' pins s σ H xs us Q I rs q
theorem Qo:jc X (.type "tuple") (fun xs H Q=>∃ p ys,xs=[.ref p]/\((SqL X.K H p ys/\∀ l,H l=none->Q (.ref l) (upd H l (.tup ys)))\/(SqT X.K H p ys/\Q (.ref p) H))):=by
 intro pins s σ H xs us Q I r h
 obtain⟨p,ys,rfl,h⟩:=h
 obtain⟨u,rfl,rx⟩:=vals1 r
 cases rx
 rcases h with⟨hq,q⟩ | ⟨hq,q⟩
 ·obtain⟨its,r',pl,hz⟩:=I.list hq
  have hlen:=r'.length
  refine call_tuple_list pl.isList (fun h' kp=>?_) (by simp only [ur]<;>lia)
  have I1:Inv X pins σ H { s with heap:=h' }:=I.kept (t':=s.toks) kp
  have I2:Inv X pins σ (upd H h'.objs.size (.tup ys)) { s with heap:=h'.push { cls:=.type "tuple",data:=.seq its.toArray } }:=
   I1.laid (t':=s.toks) (fun b o e=>Heap.get?_push_of_some _ e) (uu _) (show qw X.prog X.w _ _ _ (.tup ys) from⟨hz,its,r',IsTup.new _ _⟩)
  exact⟨.ref h'.objs.size,_,I2,rfl,q _ (I1.hok.fresh (uu _))⟩
 ·obtain⟨its,r',pl,hz⟩:=I.tuple hq
  exact call_tuple_same pl ⟨.ref p,H,I,rfl,q⟩
def tyV (K:Le)(T:String)(x:V)(H:Hp):Prop:=match x with
 | .str _=>T="str"
 | .int _=>T="int"
 | .ref p=>(T="list"/\∃ xs,SqL K H p xs)\/(T="tuple"/\∃ o,K.lookup p=some o/\o.cls=.type "tuple"/\o.dict=none) \/
   (T="dict"/\((∃ kvs,H p=some (.dK kvs))\/∃ kvs,H p=some (.dT kvs)))\/(T="set"/\∃ S n,H p=some (.set S n))
 | _=>False
theorem Y0 {pins:List (Addr×Obj)}{σ:St}{H:Hp}{s:Shared}{T:String}{x:V}{v:Value}(I:Inv X pins σ H s)(r:RelV x v)(ty:tyV X.K T x H) :
  s.TypeIs v T/\∀ a,v=.ref a->∃ ob,s.heap.get? a=some ob/\ob.dict=none:=by
 cases x with
 | str z=>
  obtain⟨t,rfl⟩:=r
  cases (show T="str" from ty)
  exact⟨typeIs_str s z t,fun _ e=>nomatch e⟩
 | int i=>
  obtain⟨t,rfl⟩:=r
  cases (show T="int" from ty)
  exact⟨typeIs_int s i t,fun _ e=>nomatch e⟩
 | ref p=>
  cases r
  rcases ty with⟨rfl,xs,hq⟩ | ⟨rfl,o,hk,hc,hd⟩ | ⟨rfl,hk⟩ | ⟨rfl,S,n,hk⟩
  ·obtain⟨its,_,pl,_⟩:=I.list hq
   refine⟨pl.isList.typeIs,fun a e=>?_⟩
   cases e
   obtain⟨o,n,e,c,hd,_⟩:=pl
   exact⟨o,e,hd⟩
  ·refine⟨⟨o,I.kIn p o hk,hc⟩,fun a e=>?_⟩
   cases e
   exact⟨o,I.kIn _ o hk,hd⟩
  ·have z:∃ o,s.heap.get? p=some o/\o.ExactDict:=by
    rcases hk with⟨kvs,hk⟩ | ⟨kvs,hk⟩
    ·obtain⟨_,_,_,_,o,_,_,e,ex,_⟩:=I.hok p _ hk
     exact⟨o,e,ex⟩
    ·obtain⟨_,_,_,_,o,_,_,e,ex,_⟩:=I.hok p _ hk
     exact⟨o,e,ex⟩
   obtain⟨o,e,ex⟩:=z
   refine⟨⟨o,e,ex.1⟩,fun a e2=>?_⟩
   cases e2
   exact⟨o,e,ex.2.1⟩
  ·obtain⟨o,_,_,_,e,ex,_⟩:=I.hok p _ hk
   refine⟨⟨o,e,ex.1⟩,fun a e2=>?_⟩
   cases e2
   exact⟨o,e,ex.2.1⟩
 | _=>exact False.elim ty
def tBM0 (K:Le)(T:String)(r:V->List V->Hp->VK->Prop)(to:TE):TE:=fun σ H Q=>to σ H fun x H1=>tyV K T x H1/\r x [] H1 Q
def tBM (K:Le)(T:String)(r:V->List V->Hp->VK->Prop)(to:TE)(t:TA):TE:=fun σ H Q=>to σ H fun x H1=>tyV K T x H1/\t σ H1 fun xs H2=>r x xs H2 Q
variable {o e:Expr} {es:Lg} {to:TE} {t:TA} {name:Str} {apos cpos:Pos} {T id:String} {r:V->List V->Hp->VK->Prop}
theorem zdz (pa:PlainAttrs T)(slot:Slot T name id)(hty:typeOf (.builtin id)=pure (.type "method_descriptor"))(hm:MtR X id r)(ho:PE X o to)
  (hbase:attributeBase o name X.env (eval o X.env)=eval o X.env) (hline:(apos.endLine == cpos.line)=true):PE X (.Call (.Attribute o name apos) [] [] cpos) (tBM0 X.K T r to):=by
 intro pins s σ H Q I h
 refine wpAny_Call_method0_late hbase hline (thn (ho pins s σ H _ I h) fun v s1 ⟨x,H1,I1,r1,ty,q1⟩=>?_)
 obtain⟨h1,h2⟩:=Y0 I1 r1 ty
 exact⟨T,id,pa,slot,hty,h1,h2,Calls.callWith_builtin rfl (PySem.evalArgs_none (hm pins s1 σ H1 x [] v [] Q I1 r1 .nil q1))⟩
theorem zfo (pa:PlainAttrs T)(slot:Slot T name id)(hty:typeOf (.builtin id)=pure (.type "method_descriptor"))(hm:MtR X id r)(ho:PE X o to)(ha:PA X (e::es) t)
  (hbase:attributeBase o name X.env (eval o X.env)=eval o X.env)
  (hfew:((backTo cpos (starEach (e::es) X.env)).all (fun x=>!x.1)&&(backToKw cpos (keywordEach [] X.env)).all (fun x=>x.1.isSome)
   && decide ((e::es).length+([]:List Keyword).length+(if ([]:List Keyword).isEmpty then 0 else 1)<30))=true)
  (hline:(apos.endLine == cpos.line)=true) (hs:starEach (e::es) X.env=(false,eval e X.env)::starEach es X.env) (hplain:(backTo cpos (starEach es X.env)).any (·.1)=false) :
  PE X (.Call (.Attribute o name apos) (e::es) [] cpos) (tBM X.K T r to t):=by
 intro pins s σ H Q I h
 refine wpAny_Call_method_late hbase hfew hline rfl (thn (ho pins s σ H _ I h) fun v s1 ⟨x,H1,I1,r1,ty,q1⟩=>?_)
 obtain⟨h1,h2⟩:=Y0 I1 r1 ty
 refine⟨T,id,pa,slot,hty,h1,h2,?_⟩
 have hA:=ha cpos pins s1 σ H1 _ I1 q1
 rw [hs] at hA ⊢
 refine Calls.callWith_builtin (by show(false||(backTo cpos (starEach es X.env)).any (·.1))=false;rw [hplain]<;>rfl) (Calls.evalArgs_plain ?_)
 exact thn hA fun us s2 ⟨vs,H2,I2,r2,q2⟩=>hm pins s2 σ H2 x vs v us Q I2 r1 r2 q2
end
def MtM (X:Cx)(id:String)(r:V->List V->Hp->VK->Prop):Prop:=
 ∀ (pins:List (Addr×Obj)) (s:Shared) (σ:St) (H:Hp) (x:V) (xs:List V) (v:Value) (us:Lf) (Q:VK),Inv X pins σ H s->RelV x v->Vals xs us->r x xs H Q ->
  wpAny (model X.prog X.w) X.A (call (.builtin id) (v::us)) (EP X pins σ Q) X.xe s
theorem Vals.one:∀ {x:V} {us:Lf},Vals [x] us->∃ u,us=[u]/\RelV x u
 | _,_,.cons r .nil=>⟨_,rfl,r⟩
theorem Vals.two:∀ {x y:V} {us:Lf},Vals [x,y] us->∃ u v,us=[u,v]/\RelV x u/\RelV y v
 | _,_,_,.cons r (.cons q .nil)=>⟨_,_,rfl,r,q⟩
theorem Vals.zero:∀ {us:Lf},Vals [] us->us=[]
 | _,.nil=>rfl
theorem Vals.dropLast {xs:List V}{us:Lf}(h:Vals xs us):Vals xs.dropLast us.dropLast:=by
 induction h with
 | nil=>exact .nil
 | cons r t ih=>
  cases t with
  | nil=>exact .nil
  | cons q t'=>exact .cons r ih
theorem Vals.eraseIdx:∀ {xs:List V} {us:Lf} (i:Nat),Vals xs us->Vals (xs.eraseIdx i) (us.eraseIdx i)
 | _,_,_,.nil=>.nil
 | _,_,0,.cons _ t=>t
 | _,_,i+1,.cons r t=>.cons r (Vals.eraseIdx i t)
theorem Xm {α:Type}(l:List α):l.eraseIdx (l.length - 1)=l.dropLast:=by
 induction l with
 | nil=>rfl
 | cons a r ih=>
  cases r with
  | nil=>rfl
  | cons b r=>
   have e:(a::b::r).length - 1=((b::r).length - 1)+1:=by
    have h1:(a::b::r).length=r.length+2:=rfl
    have h2:(b::r).length=r.length+1:=rfl
    lia
   rw [e,List.eraseIdx_cons_succ,ih]
   all_goals rfl
theorem QN {α:Type}:∀ (l:List α) (i:Nat),(l.eraseIdx i).length<=l.length
 | [],_=>uu _
 | _::_,0=>UO _
 | _::r,i+1=>Nat.succ_le_succ (QN r i)
section
variable {X:Cx} {pins:List (Addr×Obj)} {σ:St} {H:Hp} {s:Shared} {l b:Addr} {xs ys zs:List V}
theorem Inv.lset {its its':Lf}{n:Nat}{f:Array Value->Array Value}{t':Nat}(I:Inv X pins σ H s)(hH:H l=some (.lst xs))
  (e:s.heap.get? l=some { cls:=.type "list",data:=.seq its.toArray n }) (hf:f its.toArray=its'.toArray) (hv:Vals ys its') (hz:ys.length<=sizeLine) :
  Inv X pins σ (upd H l (.lst ys)) { s with heap:=s.heap.update l (Obj.mapSeq f),toks:=t' }:=by
 have q:=PySem.IsL.update e f
 rw [hf] at q
 refine I.write (x:=l) (e:=l) (by rw [hH];exact trivial) (.inl rfl) (fun b' u hb hu=>(Heap.get?_update_other s.heap (Obj.mapSeq f) (Ne.symm hb)).trans hu) ⟨_,q⟩ ?_
 exact⟨hz,its',_,hv,q⟩
theorem Inv.lnew {its:Lf}{t':Nat}(I:Inv X pins σ H s)(hv:Vals ys its)(hz:ys.length<=sizeLine) :
  Inv X pins σ (upd H s.heap.objs.size (.lst ys)) { s with heap:=s.heap.push { cls:=.type "list",data:=.seq its.toArray },toks:=t' }:=
 I.laid (fun _ _ q=>Heap.get?_push_of_some _ q) (uu _) ⟨hz,its,0,hv,Heap.get?_push_size _ rfl⟩
theorem Inv.fresh (I:Inv X pins σ H s):H s.heap.objs.size=none:=I.hok.fresh (uu _)
theorem Inv.lstM (I:Inv X pins σ H s)(hH:H l=some (.lst xs)):xs.length<=sizeLine/\∃ (its:Lf) (n:Nat),Vals xs its/\xs.length=its.length/\s.heap.get? l=some { cls:=.type "list",data:=.seq its.toArray n }:=by
 obtain⟨z,its,n,r,e⟩:=I.hok l _ hH
 exact⟨z,its,n,r,r.length,e⟩
theorem Y1 {n:Nat}(h:n<=sizeLine):Builtin.List.listTooLong n=false:=by
 unfold Builtin.List.listTooLong
 exact uV (by lia)
end
section
variable {X:Cx}
def Va:V->List V->Hp->VK->Prop:=fun x vs H Q=>∃ l xs y,x=.ref l/\vs=[y]/\H l=some (.lst xs)/\xs.length<sizeLine/\Q .non (upd H l (.lst (xs++[y])))
theorem QO:MtM X "list.append" Va:=by
 intro pins s σ H x vs v us Q I rx rv h
 obtain⟨l,xs,y,rfl,rfl,hH,hz,q⟩:=h
 cases rx
 obtain⟨u,rfl,ru⟩:=rv.one
 obtain⟨z,its,n,r,hl,e⟩:=I.lstM hH
 refine call_meets F.slot_list_append ⟨_,e,rfl⟩ F.entry_list_append (F.args_list_append_2 _ _) (PySem.list_append l its.toArray n u (by rw [ur];lia)) ⟨e,?_⟩
 refine⟨.non,_,I.lset (its':=its++[u]) hH e (by simp) (r.append (.cons ru .nil)) ?_,rfl,q⟩
 rw [uf,List.length_singleton]
 lia
def zbq:V->List V->Hp->VK->Prop:=fun x vs H Q=>∃ l b xs zs,x=.ref l/\vs=[.ref b]/\H l=some (.lst xs)/\H b=some (.lst zs)/\xs.length+zs.length<=sizeLine/\Q .non (upd H l (.lst (xs++zs)))
theorem ze1:MtM X "list.extend" zbq:=by
 intro pins s σ H x vs v us Q I rx rv h
 obtain⟨l,b,xs,zs,rfl,rfl,hH,hB,hz,q⟩:=h
 cases rx
 obtain⟨u,rfl,ru⟩:=rv.one
 cases ru
 obtain⟨z,its,n,r,hl,e⟩:=I.lstM hH
 obtain⟨z2,its2,n2,r2,hl2,e2⟩:=I.lstM hB
 have hsz:its.toArray.size+its2.toArray.size<=sizeLine:=by rw [ur,ur];lia
 have hlong:¬ (!its.toArray.isEmpty&&Builtin.List.listTooLong (its.toArray.size+its2.toArray.size))=true:=by
  rw [Y1 hsz,UX]
  exact uG
 refine call_meets F.slot_list_extend ⟨_,e,rfl⟩ F.entry_list_extend (F.args_list_extend_2 _ _)
  (AutoSeq1.list_extend_list_list_0 l its.toArray n b its2.toArray n2 hlong (by rw [ur];lia) (by lia)) ⟨e,e2,?_⟩
 refine⟨.non,_,I.lset (its':=its++its2) hH e (by simp) (r.append r2) ?_,rfl,q⟩
 rw [uf]
 lia
def rPop:V->List V->Hp->VK->Prop:=fun x vs H Q=>∃ l xs y,x=.ref l/\vs=[]/\H l=some (.lst xs)/\xs[xs.length - 1]? = some y/\Q y (upd H l (.lst xs.dropLast))
theorem zdA:MtM X "list.pop" rPop:=by
 intro pins s σ H x vs v us Q I rx rv h
 obtain⟨l,xs,y,rfl,rfl,hH,hy,q⟩:=h
 cases rx
 have hus:=rv.zero
 subst hus
 obtain⟨z,its,n,r,hl,e⟩:=I.lstM hH
 obtain⟨u,hu,ru⟩:=r.get hy
 have hy':its.toArray[its.toArray.size - 1]? = some u:=by
  show its.toArray[its.length - 1]? = some u
  rw [← Array.getElem?_toList,← hl]
  exact hu
 refine call_meets F.slot_list_pop ⟨_,e,rfl⟩ F.entry_list_pop (F.args_list_pop_1 _) (MeetsSeq.list_pop_last l its.toArray n u hy' (by rw [ur];lia)) ⟨e,?_⟩
 refine⟨y,_,I.lset (its':=its.dropLast) hH e ?_ r.dropLast ?_,ru,q⟩
 ·show its.toArray.eraseIdxIfInBounds (its.toArray.size - 1)=its.dropLast.toArray
  rw [ur,gG,Xm]
 ·rw [List.length_dropLast]
  lia
def Y2:V->List V->Hp->VK->Prop:=fun x vs H Q=>∃ l xs i k y,x=.ref l/\vs=[.int i]/\H l=some (.lst xs)/\-(2 ^ 63)<=i/\i<2 ^ 63/\seqIndex? i xs.length=some k/\xs[k]? = some y/\Q y (upd H l (.lst (xs.eraseIdx k)))
theorem Y3:MtM X "list.pop" Y2:=by
 intro pins s σ H x vs v us Q I rx rv h
 obtain⟨l,xs,i,k,y,rfl,rfl,hH,h1,h2,hk,hy,q⟩:=h
 cases rx
 obtain⟨u,rfl,ru⟩:=rv.one
 obtain⟨t,rfl⟩:=ru
 obtain⟨z,its,n,r,hl,e⟩:=I.lstM hH
 obtain⟨w,hw,rw'⟩:=r.get hy
 refine call_meets F.slot_list_pop ⟨_,e,rfl⟩ F.entry_list_pop (F.args_list_pop_2 _ _)
  (MeetsSeq.list_pop_at l its.toArray n i t k w (fitsIndex_both h1 h2) (by rw [ur,← hl];exact hk) (by rw [← Array.getElem?_toList];exact hw) (by rw [ur];lia)) ⟨e,?_⟩
 refine⟨y,_,I.lset (its':=its.eraseIdx k) hH e ?_ (r.eraseIdx k) ?_,rw',q⟩
 ·show its.toArray.eraseIdxIfInBounds k=(its.eraseIdx k).toArray
  rw [gG]
 ·have:=QN xs k
  lia
def rCat:R2:=fun x y H Q=>∃ l b xs zs,x=.ref l/\y=.ref b/\H l=some (.lst xs)/\H b=some (.lst zs)/\xs.length+zs.length<=sizeLine/\∀ p,H p=none->Q (.ref p) (upd H p (.lst (xs++zs)))
theorem zdB:OpR X (binaryOp .Add) rCat:=by
 intro pins s σ H x y v u Q I rx ry h
 obtain⟨l,b,xs,zs,rfl,rfl,hH,hB,hz,q⟩:=h
 cases rx
 cases ry
 obtain⟨z,its,n,r,hl,e⟩:=I.lstM hH
 obtain⟨z2,its2,n2,r2,hl2,e2⟩:=I.lstM hB
 refine PySem.P.add_list e e2 ?_ (by rw [ur,ur];lia)
 have ea:its.toArray++its2.toArray=(its++its2).toArray:=by simp
 rw [ea]
 exact⟨.ref _,_,I.lnew (t':=s.toks) (r.append r2) (by rw [uf];lia),rfl,q _ I.fresh⟩
end
section
variable {prog:Program} {w:World} {A:Around} {E:Value->Shared->Prop} {s:Shared}
set_option maxRecDepth 100000 in
end
section
variable {X:Cx}
end
end L2
namespace Att
open PySem PySem.W PySem.Calls PyProof.Rows
theorem k7 {P:Params}{h:Heap}:∀ (ns:List Int) (vs:Lf),WellAll P h vs (ns.map WData.int)->IntsAre vs ns:=by
 intro ns
 induction ns with
 | nil=>
  intro vs w
  rw [gm] at w
  cases w
  exact .nil
 | cons n ns ih=>
  intro vs w
  rw [uA] at w
  cases w with
  | cons a b=>
   cases a
   exact .cons _ _ (ih _ b)
theorem V8 {l:OpenLaw}{n:Nat}(hn:l.most=some n){P:Params}{h:Heap}{args:List WData}{vals:Lf}
  (hpre:l.row.toRowW.claim.pre args=true) (hwl:WellAll P h vals args) :
  ∃ a vs ns,vals=[Value.ref a]/\args=[WData.list (ns.map WData.int)]/\h.get? a=some { cls:=.type "list",data:=.seq vs.toArray }/\IntsAre vs ns/\ns.length<=n:=by
 have hsh:WShape.hasAll [] args [.list .int]=true:=(pre_splitW hpre).1
 have hc:l.pre.holds [] { args:=args }=true:=(pre_splitW hpre).2
 obtain⟨d,r,rfl,h1,h2⟩:=hasAllW_cons hsh
 obtain rfl:=hasAllW_nil h2
 obtain⟨xs,rfl,h3⟩:=hasW_list h1
 obtain⟨ns,rfl⟩:=items_int h3
 have hlen:ns.length<=n:=by
  unfold OpenLaw.pre at hc
  have h4:(WTm.not (.lt (.lit (.int (n:Int))) (.len (.arg 0)))).holds [] { args:=[.list (ns.map .int)] }=true:=by
   have h4:=(holds_andW hc).1
   rw [hn] at h4
   exact h4
  have h5:=condW_of h4 (w_not (w_lt w_lit (w_len_list (w_arg rfl))))
  rw [uh] at h5
  refine Nat.le_of_not_lt fun q=>?_
  have q':(n:Int)<((ns.length:Nat):Int):=by lia
  first
   | (rw [UG q'] at h5;exact absurd h5 (by decide))
   | (simp at h5;omega)
 cases hwl with
 | cons w1 w2=>
  cases w2
  cases w1 with
  | list ho hall=>exact⟨_,_,ns,rfl,rfl,ho,k7 ns _ hall,hlen⟩
theorem V9 (l:OpenLaw)(args:List WData):l.row.toRowW.claim.post args (.bool true) args=true:=
 postW_of (r:=l.row.toRowW) (X:=(true == true))
  (show WShape.has [] (.bool true) .bool=true by first | rfl | decide | simp [WShape.has,WShape.arms,WShape.armsAll])
  (show(WTm.eq .res (.lit (.bool true))).value [] { args:=args,res:=some (.bool true),after:=args }=some (.bool (true == true)) from w_eq_bool (w_res rfl) w_lit) rfl
theorem attach_call {l:OpenLaw}{n:Nat}{q:Program}{loose:Lh}{XP:(La)->Heap->Prop}{YP:World->Heap->Prop}{d:DefRec}
  (hn:l.most=some n) (hdf:d.params.defaults=[])
  (call:∀ (w:World) (s₀ s₁:Shared) (mg mb:La) (fa:Addr) (o:Obj) (pm cd doc:Value) (a:Addr) (vs:Lf) (ns:List Int),
   Ground q loose [] XP w s₀ mg mb s₁.heap->YP w s₁.heap ->
   s₁.heap.get? fa=some o->o.data=.func (docDef d.name d.params d.body d.scope pm cd doc)->s₁.heap.CodeRec cd d.name->mg d.name=some (.ref fa) ->
   s₁.heap.get? a=some { cls:=.type "list",data:=.seq vs.toArray }->IntsAre vs ns->ns.length<=n->s₁.gens = #[] ->
   codeAny (model l.prog w) callerA (.call (.ref fa) ⟨[.ref a],[]⟩) (fun r s'=>r=.ok (.ret (.bool true))/\OldK s₁.heap s'.heap/\s'.os=s₁.os/\AllBare s'.gens) s₁) :
  WalkO q loose XP YP l.row.toRowW d [] (fun f vs=>PySem.call f vs):=by
 intro w s₀ s₁ mg mb G Y fa o pm cd doc dV kV ho hd hcd hD hmg hg args vals as hpre hlay hrd hwl hlo
 obtain rfl:dV=.none:=Dflts.none hD hdf
 obtain rfl:kV=.none:=Dflts.noKw hD
 obtain⟨a,vs,ns,rfl,rfl,hobj,hints,hlen⟩:=V8 hn hpre hwl
 refine enter_call (codeAny_mono (call w s₀ s₁ mg mb fa o pm cd doc a vs ns G Y ho (fd_plain hd) hcd hmg hobj hints hlen hg) fun r s' hq=>?_)
 obtain⟨rfl,h2,h3,h4⟩:=hq
 exact⟨.inl ⟨.bool true,.bool true,[],rfl,fun _=>rfl,.bool true,V9 l _,fun _=>⟨List.Pairwise.nil,fun _ hm=>(nomatch hm)⟩⟩,h2,h3,h4⟩
section
variable {prog:Program} {w:World} {A:Around} {E:Value->Shared->Prop} {s:Shared} {K:Frag}
end
end Att
namespace L2
open PySem PySem.Spec PyProof.Rows
theorem QQ:∀ {vs:Lf} {ns:List Int},IntsAre vs ns->Vals (ns.map V.int) vs
 | _,_,.nil=>.nil
 | _,_,.cons n t h=>.cons ⟨t,rfl⟩ (QQ h)
def Only (H:Hp):Prop:=∀ b,H b=none\/∃ o xs,H b=some (.frz o (.lst xs))
theorem Y4 {P:Program}{w:World}{K:Le}{mg mb:La}{CX:CXT}{k:Nat}{fa a:Addr}{fd:FuncData}{x:Str}{sp:Sp}{s₁:Shared}{vs:Lf}{ns:List Int}
  (KX:K.In s₁.heap) (hns:s₁.heap.Ns mainGlobals mg) (hb:s₁.heap.Ns builtinsNs mb) (hbb:∀ x:Str,x≠"__name__"->mb x=bootBuiltins x) (hlim:s₁.heap.NoLimit) (hg:s₁.gens = #[])
  (ha:s₁.heap.get? a=some { cls:=.type "list",data:=.seq vs.toArray }) (hi:IntsAre vs ns) (hl:ns.length<=sizeLine) (hr:Room k callerA)
  (F:∀ base:Heap,K.In base->base.Ns mainGlobals mg->FnOk P w K mg base CX k fa fd [x] sp) (hbind:∀ (s:Shared) (u:Value),BindsTo s fd ⟨[u],[]⟩ [(x,u)])
  (hsp:∀ H:Hp,Only H->SqL K H a (ns.map V.int)->sp [.ref a] H (fun v _=>v=.bl true) fun _ _ _=>False)
  (hCX:∀ H e s',CX [] H s₁ (fun _ _ _=>False) e s'->False) :
  codeAny (model P w) callerA (.call (.ref fa) ⟨[.ref a],[]⟩) (fun r s'=>r=.ok (.ret (.bool true))/\OldK s₁.heap s'.heap/\s'.os=s₁.os/\AllBare s'.gens) s₁:=by
 have rv:=QQ hi
 have lenV:=hi.length
 have core:∀ H:Hp,Only H->SqL K H a (ns.map V.int)->HOk P w H s₁.heap->(∀ b,H b≠none->b=a)->(H a≠none->K.lookup a=none) ->
   codeAny (model P w) callerA (.call (.ref fa) ⟨[.ref a],[]⟩) (fun r s'=>r=.ok (.ret (.bool true))/\OldK s₁.heap s'.heap/\s'.os=s₁.os/\AllBare s'.gens) s₁:=by
  intro H hO hS hok hA hK
  have base_of:∀ {b:Addr} {o:Obj},s₁.heap.get? b=some o->H b=none->(hidT s₁.heap H).get? b=some o:=fun e n=>YC e n
  have noA:∀ {b:Addr} {o:Obj} {es:Array DictEntry} {ep:Nat},s₁.heap.get? b=some o->o.data=.dict es ep->H b=none:=fun {b o es ep} e d=>by
   cases q:H b with
   | none=>rfl
   | some u=>
    have e':b=a:=hA b (by rw [q];simp)
    subst e'
    rw [ha] at e;cases e
    have d':Data.seq vs.toArray _=Data.dict es ep:=d
    cases d'
  have nsK:∀ {b:Addr} {m:La},s₁.heap.Ns b m->(hidT s₁.heap H).Ns b m:=fun {b m} ⟨o,es,ep,e,d,r⟩=>⟨o,es,ep,base_of e (noA e d),d,r⟩
  have hKb:K.In (hidT s₁.heap H):=fun b o e=>base_of (KX b o e) (by
   cases q:H b with
   | none=>rfl
   | some u=>
    have e':b=a:=hA b (by rw [q];simp)
    subst e'
    rw [hK (by rw [q];simp)] at e;cases e)
  have hM:Mod K mg (hidT s₁.heap H):=⟨hKb,nsK hns,⟨mb,nsK hb,hbb⟩,let ⟨mc,h1,h2⟩:=hlim;⟨mc,nsK h1,h2⟩⟩
  have e0:Env0 P w K mg (hidT s₁.heap H) callerA [] s₁ H:=⟨rfl,hM,fun b o e=>za7 e,gj (VX _ _),trivial,fun b hb=>absurd (show b∈([]:Ld) from hb) (by simp),hok,.of_eq hg⟩
  refine codeAny_mono ((F _ hKb (nsK hns)).run callerA [] s₁ H ⟨[.ref a],[]⟩ [.ref a] [.ref a] _ _ hr e0 (hbind s₁ (.ref a)) (.cons rfl .nil) (hsp H hO hS)) fun r s' h=>?_
  cases r with
  | error e=>exact(hCX H e s' h).elim
  | ok fl=>
   cases fl with
   | next=>exact False.elim h
   | brk=>exact False.elim h
   | cont=>exact False.elim h
   | ret u=>
    obtain⟨v,H',os,bare,un,hok',r',q⟩:=h
    have q':v=.bl true:=q
    subst q'
    obtain rfl:u=Value.bool true:=r'
    refine⟨rfl,OldK.of_keep fun b o e=>?_,os,bare⟩
    cases q:H b with
    | none=>exact un.keep b o e q (by intro z;exact absurd (show b∈([]:Ld) from z) (by simp)) (by simp)
    | some u=>
     rcases hO b with z | ⟨ob,xs,z⟩
     ·rw [q] at z;cases z
     ·have z2:=un.frzs b ob _ z
      obtain⟨e1,_⟩:=hok b _ z
      obtain⟨e2,_⟩:=hok' b _ z2
      rw [e] at e1;cases e1
      exact e2
 cases hk:K.lookup a with
 | some o=>
  have e:=KX a o hk
  rw [ha] at e
  cases e
  refine core (fun _=>none) (fun _=>.inl rfl) (.inr ⟨_,vs.toArray,_,hk,rfl,rfl,rfl,by rw [ur,lenV];exact hl,by simpa using rv⟩) (fun b u z=>by have z':(none:Option HO)=some u:=z;cases z') (fun b z=>absurd rfl z) fun z=>absurd rfl z
 | none=>
  refine core (fun b=>if b=a then some (.frz { cls:=.type "list",data:=.seq vs.toArray } (.lst (ns.map V.int))) else none) (fun b=>?_) (.inl (.inr ⟨{ cls:=.type "list",data:=.seq vs.toArray },uz rfl⟩)) (fun b u z=>?_) (fun b z=>?_) fun _=>hk
  ·by_cases hb:b=a
   ·exact .inr ⟨_,_,uz hb⟩
   ·exact .inl (uy hb)
  ·by_cases hb:b=a
   ·have z':=(uz hb).symm.trans z
    cases z'
    subst hb
    exact⟨ha,by rw [uh];exact hl,vs,_,rv,ha⟩
   ·have z':=(uy hb).symm.trans z
    cases z'
  ·by_cases hb:b=a
   ·exact hb
   ·exact absurd (uy hb) z
theorem zbr {l:PySem.W.OpenLaw}{n k:Nat}{q:Program}{loose:Lh}{XP:(La)->Heap->Prop}{YP:World->Heap->Prop}{d:DefRec}{K:Params->Le}{CX:World->CXT}{sp:World->Sp}{x:Str}
  (hn:l.most=some n) (hn2:n<=sizeLine) (hdf:d.params.defaults=[]) (hr:Room k callerA)
  (hY:∀ (w:World) (h:Heap),YP w h->(K w.params).In h)
  (F:∀ (w:World) (mg:La) (fa:Addr) (h:Heap),(K w.params).In h->h.Ns mainGlobals mg->mg d.name=some (.ref fa) ->
   ∃ fd:FuncData,(∀ (s:Shared) (u:Value),BindsTo s fd ⟨[u],[]⟩ [(x,u)]) /\
    ∀ base:Heap,(K w.params).In base->base.Ns mainGlobals mg->FnOk l.prog w (K w.params) mg base (CX w) k fa fd [x] (sp w))
  (hsp:∀ (w:World) (H:Hp) (a:Addr) (ns:List Int),ns.length<=n->Only H->SqL (K w.params) H a (ns.map V.int)->sp w [.ref a] H (fun v _=>v=.bl true) fun _ _ _=>False)
  (hCX:∀ (w:World) (H:Hp) (s:Shared) (e:Value) (s':Shared),CX w [] H s (fun _ _ _=>False) e s'->False) :
  PySem.W.WalkO q loose XP YP l.row.toRowW d [] (fun f vs=>PySem.call f vs):=by
 refine Att.attach_call hn hdf fun w s₀ s₁ mg mb fa o pm cd doc a vs ns G Y ho hd hcd hmg hobj hints hlen hg=>?_
 have KX:=hY w _ Y
 obtain⟨fd,hb,hF⟩:=F w mg fa _ KX G.T.g hmg
 exact Y4 KX G.T.g G.T.b G.T.builtins G.T.nolimit hg hobj hints (uW hlen hn2) hr hF hb (fun H hO hS=>hsp w H a ns hlen hO hS) fun H e s'=>hCX w H s₁ e s'
noncomputable def qK (s:Stmt):Arguments:=match s with
 | .FunctionDef _ a _ _ _ _ _ _ _ _=>a
 | _=>{ posonlyargs:=[],args:=[],vararg:=none,kwonlyargs:=[],kw_defaults:=[],kwarg:=none,defaults:=[] }
noncomputable def zD (s:Stmt):List Stmt:=match s with
 | .FunctionDef _ _ b _ _ _ _ _ _ _=>b
 | _=>[]
noncomputable def za (s:Stmt):Scope:=match s with
 | .FunctionDef _ _ _ _ _ _ sc _ _ _=>sc
 | _=>{ kind:=.function,names:=[],isGenerator:=false,isCoroutine:=false }
abbrev CX0:CXT:=fun _ _ _ _ _ _=>False
abbrev E0:XK:=fun _ _ _=>False
structure Fun (K:Le)(x qual:Str)(st:Stmt)(f:Addr)(fd:FuncData):Prop where
 ex:∃ (oc:Value) (od:Option Addr) (kV doc pm:Value) (an:Option Addr) (cdv ct:Value) (osl:Array (Option Value)),
  fd=PySem.W.fnOf x qual (qK st) (zD st) (za st) .none kV doc pm an cdv ct/\K.lookup f=some ⟨oc,od,.func fd,osl⟩/\PySem.W.codeIn K cdv qual=true
 kp:PySem.W.keepIn K (.ref f)=true
section
variable {P:Program} {w:World} {K:Le} {mg:La} {base:Heap}
theorem Fun.ok {x qual:Str}{st:Stmt}{f:Addr}{fd:FuncData}{N ps:Lh}{k:Nat}{sp:Sp}(F:Fun K x qual st f fd)(S:zg N ps (za st))(len:∀ vs H Q E,sp vs H Q E->vs.length=ps.length)
  (hbody:∀ (cdv:Value) (A:Around) (outer:List Env) (s:Shared) (H:Hp) (vs:List V) (Q:VK) (E:XK),Room k (A.deeper (envOfC qual (za st) s.heap.objs.size f cdv))->sp vs H Q E ->
   ∃ t,PSs (cxOf CX0 P w K mg base N qual (za st) f cdv A outer s H E).nox (zD st) t/\t { nx:=fun _ H'=>Q .non H',rt:=Q } (start N vs) H):FnOk P w K mg base CX0 (k+1) f fd ps sp:=by
 obtain⟨oc,od,kV,doc,pm,an,cdv,ct,osl,rfl,lk,hcd⟩:=F.ex
 refine YU lk hcd S len fun A outer s H vs Q E hr hsp=>?_
 obtain⟨t,h,q⟩:=hbody cdv A outer s H vs Q E hr hsp
 exact⟨t,h.nox,q⟩
theorem Fun.binds {x qual:Str}{st:Stmt}{f:Addr}{fd:FuncData}{ps:Lh}(F:Fun K x qual st f fd)
  (h:∀ (kV doc pm:Value) (an:Option Addr) (cdv ct:Value) (us:Lf),us.length=ps.length->bindArgs (PySem.W.fnOf x qual (qK st) (zD st) (za st) .none kV doc pm an cdv ct) ⟨us,[]⟩=pure (ps.zip us)):Binds K fd ps []:=by
 obtain⟨oc,od,kV,doc,pm,an,cdv,ct,osl,rfl,lk,hcd⟩:=F.ex
 exact .all (h kV doc pm an cdv ct)
theorem kx {x qual:Str}{st:Stmt}{f:Addr}{oc:Value}{od an:Option Addr}{osl:Array (Option Value)}{kV doc pm cdv ct:Value}(l:K.lookup f=some ⟨oc,od,.func (PySem.W.fnOf x qual (qK st) (zD st) (za st) .none kV doc pm an cdv ct),osl⟩)
  (c:PySem.W.codeIn K cdv qual=true) (k:PySem.W.keepIn K (.ref f)=true):Fun K x qual st f (PySem.W.fnOf x qual (qK st) (zD st) (za st) .none kV doc pm an cdv ct):=⟨⟨oc,od,kV,doc,pm,an,cdv,ct,osl,rfl,l,c⟩,k⟩
end
section
variable {X:Cx}
theorem pv (i:Nat){x:Str}{pos:Pos}(hN:X.N[i]? = some x) (hv:Vis X.env.scope x:=by first | exact Or.inl rfl | exact Or.inr (Or.inl rfl) | exact Or.inr (Or.inr rfl)) (hd:(x == ("__debug__":Str))=false)
  (hcd:(x == ("__classdict__":Str))=false):PE X (.Name x pos) (tVar i):=zc8 hN hv hd hcd
end
def Same (H H':Hp):Prop:=∀ b o,H b=some o->H' b=some o
theorem Same.trans {H H1 H2:Hp}(a:Same H H1)(b:Same H1 H2):Same H H2:=fun c o h=>b c o (a c o h)
noncomputable def Its (x:Str):It:=⟨fun i _=>i<x.cps.size,fun i H v H'=>H' = H/\∃ c,x.cps[i]? = some c/\v=.str ⟨#[c]⟩,fun i _=>x.cps.size<=i⟩
section
variable {X:Cx} {tg:Expr}
theorem kW {P:Program}{w:World}{K:Le}{tg:Expr}{x:Str}{t:Tok}{ty:String}{it:Addr}
  (hty:["enumerate","zip","dict_itemiterator","dict_reverseitemiterator","odict_iterator","itertools.zip_longest","itertools.pairwise"].contains ty=false)
  (W:∀ A':Around,A'.handled=none->Walks P w A' it [it] [it] x.cps.size (SignAt x) (fun i h=>h.IsStrIter it ty x t i))
  (hend:∀ (A':Around) (s:Shared) (i:Nat) (E:Value->Shared->Prop) (Q:Option Value->Shared->Prop),A'.handled=none->s.heap.IsStrIter it ty x t i->x.cps[i]? = none ->
   (∀ h',(∀ b o,b≠it->s.heap.get? b=some o->h'.get? b=some o)->Q none { s with heap:=h' })->wpAny (model P w) A' (pyNext (.ref it)) Q E s)
  (hself:∀ (A':Around) (s:Shared) (i:Nat) (E:Value->Shared->Prop) (Q:Value->Shared->Prop),s.heap.IsStrIter it ty x t i->Q (.ref it) s->wpAny (model P w) A' (pyIter (.ref it)) Q E s) :
  Turn P w K tg (Its x) [it] it (fun i h=>h.IsStrIter it ty x t i) where
 mem:=by simp
 obj:=fun i h st b hb=>by
  have e:b=it:=by simpa using hb
  subst e
  obtain⟨o,e,c,d⟩:=st
  exact⟨o,e,fun v z=>by rw [d] at z;cases z⟩
 keep:=fun i h h' st k=>let ⟨o,ho,r⟩:=st;⟨o,k it (by simp) o ho,r⟩
 item:=by
  intro X hP hw hK hc i pins s σ H E I hf st hg
  subst hP hw hK
  obtain⟨f0,f1,f2,f3,f4,f5⟩:=hf it (by simp)
  refine(W X.A (I.ok.hd hc)).item i s _ _ hg st fun v h' tk hv st' kk=>?_
  obtain⟨c,u,hcu,rfl⟩:=hv
  have I1:Inv X pins σ H { s with heap:=h',toks:=tk }:=I.turned (fun b o hb e=>kk b o (by simpa using hb) e) f0 f1 f3 f4 f5
  obtain⟨o,e,hcl,d⟩:=id st'
  exact⟨_,rfl,X2 (s:={ s with heap:=h',toks:=tk }) e hcl d hty ⟨.str ⟨#[c]⟩,H,I1,⟨u,rfl⟩,⟨rfl,c,hcu,rfl⟩,st',fun b hb=>(hf b hb).1⟩⟩
 done:=by
  intro X hP hw hK hc i pins s σ H E I hf st hg
  subst hP hw hK
  obtain⟨f0,f1,f2,f3,f4,f5⟩:=hf it (by simp)
  have hg':x.cps.size<=i:=hg
  exact hend X.A s i E _ (I.ok.hd hc) st (by simp [hg']) fun h' eb=>⟨rfl,I.turned (t':=s.toks) (fun b o hb e=>eb b o hb e) f0 f1 f3 f4 f5⟩
 self:=fun A i s Q E st h=>hself A s i E Q st h
end
theorem wa {env:Env}(y:Str):∀ (names:List (Str×NameKind)),
  (names.map fun(n,k)=>if (k == NameKind.free&&env.scope.kind == .function&&env.kindOf n == some .cell) then(n,NameKind.cell) else(n,k)).lookup y =
   (names.lookup y).map fun k=>if (k == NameKind.free&&env.scope.kind == .function&&env.kindOf y == some .cell) then NameKind.cell else k
 | []=>rfl
 | (n,k)::r=>by
  have ih:=wa y r (env:=env)
  rw [uA]
  by_cases hy:y=n
  ·subst hy
   show List.lookup y ((if (k == NameKind.free&&env.scope.kind == .function&&env.kindOf y == some .cell)=true then(y,NameKind.cell) else(y,k))::_)=_
   by_cases hc:(k == NameKind.free&&env.scope.kind == .function&&env.kindOf y == some .cell)=true
   ·rw [uz hc]
    simp only [uY,Ut,uT,hc,Ul]
   ·rw [uy hc]
    simp only [uY,Ut,uT,hc,U8]
    rfl
  ·have hb:(y == n)=false:=by simpa using hy
   show List.lookup y ((if (k == NameKind.free&&env.scope.kind == .function&&env.kindOf n == some .cell)=true then(n,NameKind.cell) else(n,k))::_)=_
   by_cases hc:(k == NameKind.free&&env.scope.kind == .function&&env.kindOf n == some .cell)=true
   ·rw [uz hc]
    simp only [uY,hb]
    exact ih
   ·rw [uy hc]
    simp only [uY,hb]
    exact ih
theorem yl {env:Env}:∀ (names:List (Str×NameKind)) (cs:List (Str×Addr)),(∀ y∈names,y.2=.free->∃ c,env.cells.lookup y.1=some c)->(∀ y c,cs.lookup y=some c->env.cells.lookup y=some c) ->
  ∃ cl,(forIn (m:=Sem) names cs fun(x:Str×NameKind) (r:List (Str×Addr))=>(if (x.2 == .free)=true then(do let c ← cellOf env x.1;pure (ForInStep.yield ((x.1,c)::r))) else pure (ForInStep.yield r)))=pure cl /\
   (∀ y c,cl.lookup y=some c->env.cells.lookup y=some c)/\(∀ y∈names,y.2=.free->∃ c,cl.lookup y.1=some c)/\∀ y,(∃ c,cs.lookup y=some c)->∃ c,cl.lookup y=some c
 | [],cs,_,hcs=>⟨cs,rfl,hcs,(fun _ h=>nomatch h),(fun _ h=>h)⟩
 | (n,k)::r,cs,h,hcs=>by
  by_cases hk:k=.free
  ·subst hk
   obtain⟨c,hc⟩:=h (n,.free) ue rfl
   have hc:env.cells.lookup n=some c:=hc
   have hcs':∀ y c',((n,c)::cs).lookup y=some c'->env.cells.lookup y=some c':=fun y c' e=>by
    by_cases hy:y=n
    ·subst hy
     simp only [uY,Ut] at e
     cases e
     exact hc
    ·have hb:(y == n)=false:=by simpa using hy
     simp only [uY,hb] at e
     exact hcs y c' e
   obtain⟨cl,e1,e2,e3,e4⟩:=yl r ((n,c)::cs) (fun y hy=>h y (ug _ hy)) hcs'
   refine⟨cl,?_,e2,fun y hy hf=>?_,fun y hy=>e4 y ?_⟩
   ·rw [List.forIn_cons]
    simp only [Ut,Ul,cellOf,hc]
    exact e1
   ·rcases um.mp hy with rfl | hy
    ·exact e4 n ⟨c,by simp only [uY,Ut]⟩
    ·exact e3 y hy hf
   ·obtain⟨c',hc'⟩:=hy
    by_cases hy:y=n
    ·subst hy
     exact⟨c,by simp only [uY,Ut]⟩
    ·have hb:(y == n)=false:=by simpa using hy
     exact⟨c',by simp only [uY,hb];exact hc'⟩
  ·obtain⟨cl,e1,e2,e3,e4⟩:=yl r cs (fun y hy=>h y (ug _ hy)) hcs
   refine⟨cl,?_,e2,fun y hy hf=>?_,e4⟩
   ·have hb:(k == NameKind.free)=false:=by simpa using hk
    rw [List.forIn_cons]
    simp only [hb,Uw,U8]
    exact e1
   ·rcases um.mp hy with rfl | hy
    ·exact absurd hf hk
    ·exact e3 y hy hf
theorem Xn {env:Env}{scope:Scope}(h:∀ y∈scope.names,y.2=.free->∃ c,env.cells.lookup y.1=some c) :
  ∃ cl,closureFor scope env=pure cl/\(∀ y c,cl.lookup y=some c->env.cells.lookup y=some c)/\(∀ y∈scope.names,y.2=.free->∃ c,cl.lookup y.1=some c):=by
 obtain⟨cl,e1,e2,e3,_⟩:=yl scope.names [] h (fun y c e=>by simp at e)
 refine⟨cl,?_,e2,e3⟩
 have e:closureFor scope env=(forIn (m:=Sem) scope.names [] fun(x:Str×NameKind) (r:List (Str×Addr))=>(if (x.2 == .free)=true then(do let c ← cellOf env x.1;pure (ForInStep.yield ((x.1,c)::r))) else pure (ForInStep.yield r))) >>= fun cs=>pure cs:=rfl
 rw [e,e1]
 rfl
theorem J1 {prog:Program}{w:World}{A:Around}{R:Result->Shared->Prop}{s:Shared}{elt target iter:Expr}{ifs:Lg}{scope:Scope}{pos:Pos}{it acc:Value}{env:Env}(I:Nat->Shared->Prop)
  (turn:∀ n s,I n s->wpAny (model prog w) A (pyNext it) (fun r s₁=>match r with
   | none=>R (.ok .next) s₁
   | some v=>wpAny (model prog w) A (letOwnedTupleGo target it v) (fun _ s₁=>wpAny (model prog w) A (assign target env v) (fun _ s₂=>
     wpAny (model prog w) A (forIn ifs true fun c r=>if r=true then do let ok ← isTrue c env (eval c env);pure (ForInStep.yield ok) else pure (ForInStep.yield r)) (fun ok s₃=>
      if ok=true then wpAny (model prog w) A (eval elt env) (fun x s₄=>
       wpAny (model prog w) A (call (.builtin "list.append") [acc,x]) (fun _ s₅=>∃ m,m<n/\I m s₅) (fun _ _=>False) s₄) (fun _ _=>False) s₃
      else ∃ m,m<n/\I m s₃) (fun _ _=>False) s₂) (fun _ _=>False) s₁) (fun _ _=>False) s₁) (fun _ _=>False) s)
  (n:Nat) (h:I n s) :
  codeAny (model prog w) A (.compLoop (.ListComp elt [⟨target,iter,ifs,0⟩] scope pos) 0 it acc env) R s:=by
 refine codeAny_loop rfl I (fun n s hI=>?_) n h
 show wpAny _ A ((compTurn (.ListComp elt [⟨target,iter,ifs,0⟩] scope pos) 0 it acc env).onRaise (fun x=>do noteFrame x env;theTreesLotGoes x)) _ _ s
 refine wpAny_noted ?_
 rw [compTurn_list]
 refine wpAny_bind (wpAny_standAt (wpAny_bind (wpAny_mono (turn n s hI) (fun r s₁ h₁=>?_) fun _ _ h'=>h'.elim)))
 cases r with
 | none=>exact wpAny_pure h₁
 | some v=>
  refine wpAny_bind (wpAny_mono h₁ (fun _ s₁ h₁=>?_) fun _ _ h'=>h'.elim)
  refine wpAny_bind (wpAny_mono h₁ (fun _ s₂ h₂=>wpAny_bind (wpAny_mono h₂ (fun ok s₃ h₃=>?_) fun _ _ h'=>h'.elim)) fun _ _ h'=>h'.elim)
  cases ok with
  | false=>exact wpAny_pure ⟨rfl,h₃⟩
  | true=>
   exact wpAny_bind (wpAny_bind (wpAny_mono h₃ (fun x s₄ h₄=>wpAny_bind (wpAny_mono h₄ (fun _ s₅ h₅=>wpAny_pure (wpAny_pure ⟨rfl,h₅⟩)) fun _ _ h'=>h'.elim)) fun _ _ h'=>h'.elim))
def PTs (X:Cx)(ifs:Lg)(t:TT):Prop:=
 ∀ (pins:List (Addr×Obj)) (s:Shared) (σ:St) (H:Hp) (Q:Bool->Hp->Prop),Inv X pins σ H s->t σ H Q ->
  wpAny (model X.prog X.w) X.A (forIn ifs true fun c r=>if r=true then do let ok ← isTrue c X.env (eval c X.env);pure (ForInStep.yield ok) else pure (ForInStep.yield r)) (TP X pins σ Q) X.xe s
def zfp:TT:=fun _ H Q=>Q true H
theorem zbs {X:Cx}:PTs X [] zfp:=fun _ _ _ H _ I h=>wpAny_tests_nil ⟨H,I,h⟩
theorem zbt {X:Cx}{c:Expr}{t:TT}(h:PT X c t):PTs X [c] t:=fun pins s σ H Q I hw=>wpAny_tests_one (h pins s σ H Q I hw)
section
variable {X:Cx} {elt iter:Expr} {x:Str} {px pos:Pos} {ifs:Lg} {scope:Scope} {wi:TI} {tt:TT} {te:TE}
end
def S (l:Lc):Str:=⟨l.toArray⟩
theorem jw (l:Lc):(S l).length=l.length:=by simp [S,Str.length]
theorem S_of (x:Str):S x.cps.toList=x:=by simp [S]
theorem kX {a b:Lc}:S a=S b↔a=b:=⟨fun h=>by have:=congrArg (fun x=>x.cps.toList) h;simpa [S] using this,fun h=>by rw [h]⟩
theorem S_app (a b:Lc):S a++S b=S (a++b):=by
 show Str.append (S a) (S b)=_
 simp [S,Str.append]
section
variable {X:Cx} {a b e:Expr} {ta tb te:TE} {pos:Pos}
theorem pe_S {x:Str}{l:Lc}{j pos}(h:x=S l):PE X (.Constant (.str x) j pos) (tC (.str (S l))):=by
 subst h;exact zdb
theorem zbu:OpR X (binaryOp .Add) (fun x y H Q=>∃ i j,x=.str (S i)/\y=.str (S j)/\i.length+j.length<=sizeLine/\Q (.str (S (i++j))) H):=by
 intro pins s σ H x y v u Q I rx ry h
 obtain⟨i,j,rfl,rfl,hz,q⟩:=h
 exact Xf pins s σ H _ _ v u Q I rx ry ⟨S i,S j,rfl,rfl,by rw [jw,jw];exact hz,by rw [S_app];exact q⟩
theorem zbv:OpR X (binaryOp .Mult) (rI IntMulOk fun i j=>.int (i * j)):=opI fun _ _ _ _ _ _ _ hc q=>mul_int q hc
def zcr:R2:=fun x y H Q=>∃ l i c,x=.str (S l)/\y=.int i/\l.length<=sizeLine/\atI l i=some c/\Q (.str (S [c])) H
theorem ix_S:IxR X zcr:=by
 intro value slice pins s σ H x y v u Q I rx ry h hs
 obtain⟨l,i,c,rfl,rfl,hz,he,q⟩:=h
 exact YX value slice pins s σ H _ _ v u Q I rx ry ⟨S l,i,c,rfl,rfl,by rw [jw];exact hz,he,q⟩ hs
theorem Yb:jc X (.builtin "len") (fun xs H Q=>∃ l,xs=[.str (S l)]/\l.length<=sizeLine/\Q (.int l.length) H):=by
 intro pins s σ H xs us Q I r h
 obtain⟨l,rfl,hz,q⟩:=h
 exact Jg pins s σ H _ us Q I r ⟨S l,rfl,by rw [jw];exact hz,by rw [jw];exact q⟩
noncomputable def cutN (xs:Lc)(lo hi:Option Int):Lc:=(xs.drop (HT.sIx xs.length 0 lo)).take (HT.sIx xs.length xs.length hi - HT.sIx xs.length 0 lo)
end
section
variable {X:Cx} {a b e:Expr} {ta tb te:TE} {pos:Pos}
theorem Y5 (lo hi:Option Int)(n:Nat):Builtin.Str.strSliceIndices lo hi 1 n=(List.range (HT.sIx n n hi - HT.sIx n 0 lo)).map (HT.sIx n 0 lo + ·):=by
 have h1:(match lo with | none=>(0:Int) | some i=>max 0 (min (if i<0 then i+(n:Int) else i) (n:Int)))=((HT.sIx n 0 lo:Nat):Int):=by
  cases lo with
  | none=>simp [HT.sIx]
  | some i=>
   simp only [HT.sIx]
   by_cases h:i<0
   ·simp only [h,Ul];lia
   ·simp only [h,U8];lia
 have h2:(match hi with | none=>(n:Int) | some i=>max 0 (min (if i<0 then i+(n:Int) else i) (n:Int)))=((HT.sIx n n hi:Nat):Int):=by
  cases hi with
  | none=>simp [HT.sIx]
  | some i=>
   simp only [HT.sIx]
   by_cases h:i<0
   ·simp only [h,Ul];lia
   ·simp only [h,U8];lia
 rw [← sliceRange_one,← h1,← h2]
 cases lo<;>cases hi<;>rfl
theorem Yc (n:Nat)(hi:Option Int):HT.sIx n n hi<=n:=HT.sIx_le n n (uu _) hi
theorem sl_S:SlR X (fun x lo hi H Q=>∃ l,x=.str (S l)/\l.length<=sizeLine/\Q (.str (S (cutN l lo hi))) H):=by
 intro pins s σ H x v vl vu lo hi sl Q I rx hs pl pu h
 obtain⟨l,rfl,hz,q⟩:=h
 obtain⟨t,rfl⟩:=rx
 refine⟨"str",_,F.slot_str_getitem.lookup,typeIs_str s _ t,?_⟩
 obtain⟨pl',el⟩:∃ p,vl=partValue p/\p.map (·.1)=lo:=by
  cases pl with
  | none=>exact⟨none,rfl,rfl⟩
  | int i t=>exact⟨some (i,t),rfl,rfl⟩
 obtain⟨pu',eu⟩:∃ p,vu=partValue p/\p.map (·.1)=hi:=by
  cases pu with
  | none=>exact⟨none,rfl,rfl⟩
  | int i t=>exact⟨some (i,t),rfl,rfl⟩
 have hsl:s.heap.IsSlice sl pl' pu' none:=by
  obtain⟨o,h1,h2,h3⟩:=hs
  exact⟨o,h1,h2,by rw [h3,el.1,eu.1];rfl⟩
 refine wpAny_getItem_str_slice hsl rfl ?_
 unfold sliceMade slicePicked
 refine post_val_or_made (fun _=>?_) fun t' k=>?_
 ·rw [el.2,eu.2,Option.map_none,U7,Y5,jw]
  have e:((List.range (HT.sIx l.length l.length hi - HT.sIx l.length 0 lo)).map (HT.sIx l.length 0 lo + ·)).filterMap ((S l).cps[·]?)=cutN l lo hi:=by
   rw [pick_run];rfl
  rw [e]
  show(S (cutN l lo hi)).length<=sizeLine
  rw [jw]
  unfold cutN
  rw [Us,Uh]
  lia
 ·refine⟨.str _,H,I.tok _,⟨_,rfl⟩,?_⟩
  rw [el.2,eu.2,Option.map_none,U7,Y5,jw]
  have e:((List.range (HT.sIx l.length l.length hi - HT.sIx l.length 0 lo)).map (HT.sIx l.length 0 lo + ·)).filterMap ((S l).cps[·]?)=cutN l lo hi:=by
   rw [pick_run];rfl
  rw [e]
  split
  ·rename_i hc
   have hc':HT.sIx l.length l.length hi - HT.sIx l.length 0 lo=l.length:=by
    simpa using hc
   have h2:=Yc l.length hi
   have e2:cutN l lo hi=l:=by
    unfold cutN
    have h3:HT.sIx l.length 0 lo=0:=by
     by_cases hl:l.length=0
     ·have:=HT.sIx_le l.length 0 (uS _) lo;lia
     ·lia
    rw [hc',h3,gO,gH]
   rw [e2] at q
   exact q
  ·exact q
theorem Zx:∀ {ts:Lh} {us:Lf},Vals (ts.map V.str) us->StrsAre us ts
 | [],_,r=>by rw [gm] at r;cases r;exact .nil
 | t::ts,_,r=>by
  rw [uA] at r
  cases r with
  | cons r1 r2=>
   obtain⟨k,e⟩:=r1
   subst e
   exact .cons t k (Zx r2)
theorem Y6:∀ ls:List (Lc),Str.join (S []) (ls.map S)=S ls.flatten
 | []=>rfl
 | [x]=>by simp [Str.join]
 | x::y::r=>by
  show S x++S []++Str.join (S []) ((y::r).map S)=_
  rw [Y6 (y::r),S_app,S_app,ux]
  rfl
def rJoin (K:Le):V->List V->Hp->VK->Prop:=fun x vs H Q=>∃ (D:Addr) (ls:List (Lc)),x=.str (S [])/\vs=[.ref D]/\SqL K H D (ls.map fun l=>V.str (S l))/\ls.flatten.length<=16777216/\Q (.str (S ls.flatten)) H
theorem Y7:MtR X "str.join" (rJoin X.K):=by
 intro pins s σ H x xs v us Q I rx rs h
 obtain⟨D,ls,rfl,rfl,hq,hz,q⟩:=h
 obtain⟨t,rfl⟩:=rx
 obtain⟨u,rfl,ru⟩:=vals1 rs
 cases ru
 obtain⟨its,rv,p,_⟩:=I.list hq
 have rv':Vals ((ls.map S).map V.str) its:=by rw [Ux];exact rv
 refine join_list p.isList (by simpa using Zx rv') ?_ fun t' k=>⟨.str (S ls.flatten),H,I.tok _,⟨t',?_⟩,q⟩
 ·have e:((ls.map S).map (·.length)).sum=ls.flatten.length:=by
   rw [Ux,List.length_flatten]
   congr 1
   try (apply UR;intro l _;exact jw l)
  have e2:(S []).length=0:=rfl
  rw [e,e2]
  lia
 ·show Value.str (Builtin.Str.glued (S []) (ls.map S)) t' = _
  rw [StrLaws.glued_eq_join,Y6]
end
structure OkF (P:Program)(w:World)(K:Le)(mg:La)(base:Heap)(k:Nat)(x:Str)(ps:Lh)(sp:Sp):Prop where
 ex:∃ (f:Addr) (fd:FuncData),PySem.W.keepIn K (.ref f)=true/\Binds K fd ps []/\(mg x=some (.ref f)/\∃ oc od osl,K.lookup f=some ⟨oc,od,.func fd,osl⟩)/\FnOk P w K mg base CX0 k f fd ps sp
structure Df (K:Le)(mg:La)(x:Str)(st:Stmt)(ps:Lh):Prop where
 ex:∃ (f:Addr) (fd:FuncData),Fun K x x st f fd/\Binds K fd ps []/\mg x=some (.ref f)
section
variable {P:Program} {w:World} {K:Le} {mg:La} {base:Heap}
theorem Df.ok {x:Str}{st:Stmt}{ps N:Lh}{k:Nat}{sp:Sp}(D:Df K mg x st ps)(Sc:zg N ps (za st))(len:∀ vs H Q E,sp vs H Q E->vs.length=ps.length)
  (hbody:∀ (f:Addr) (cdv:Value) (A:Around) (outer:List Env) (s:Shared) (H:Hp) (vs:List V) (Q:VK) (E:XK),Room k (A.deeper (envOfC x (za st) s.heap.objs.size f cdv))->sp vs H Q E ->
   ∃ t,PSs (cxOf CX0 P w K mg base N x (za st) f cdv A outer s H E).nox (zD st) t/\t { nx:=fun _ H'=>Q .non H',rt:=Q } (start N vs) H):OkF P w K mg base (k+1) x ps sp:=by
 obtain⟨f,fd,F,b,m⟩:=D.ex
 refine⟨f,fd,F.kp,b,⟨m,?_⟩,F.ok Sc len (fun cdv A outer s H vs Q E hr h=>hbody f cdv A outer s H vs Q E hr h)⟩
 obtain⟨oc,od,kV,doc,pm,an,cdv,ct,osl,rfl,lk,hcd⟩:=F.ex
 exact⟨oc,od,osl,lk⟩
end
section
variable {P:Program} {w:World} {K:Le} {mg:La} {base:Heap}
theorem zfq {h:Heap}{x:Str}{st:Stmt}{ps:Lh}{f:Addr}{oc:Value}{od an:Option Addr}{osl:Array (Option Value)}{kV doc pm cdv ct:Value}(X:K.In h)(G:h.Ns mainGlobals mg)
  (b:∀ (kV doc pm:Value) (an:Option Addr) (cdv ct:Value) (us:Lf),us.length=ps.length->bindArgs (PySem.W.fnOf x x (qK st) (zD st) (za st) .none kV doc pm an cdv ct) ⟨us,[]⟩=pure (ps.zip us))
  (a:PySem.W.nsIn K mainGlobals x=some (some (.ref f))) (l:K.lookup f=some ⟨oc,od,.func (PySem.W.fnOf x x (qK st) (zD st) (za st) .none kV doc pm an cdv ct),osl⟩)
  (c:PySem.W.codeIn K cdv x=true) (k:PySem.W.keepIn K (.ref f)=true):Df K mg x st ps:=
 ⟨f,_,kx l c k,(kx l c k).binds b,Uj X G a⟩
theorem zdC {st:Stmt}{x:Str}{k:Nat}{fa:Addr}{sp:Sp}(D:Df K mg "law" st [x])(hfa:mg "law" = some (.ref fa))
  (hb:∀ (kV doc pm:Value) (an:Option Addr) (cdv ct:Value) (s:Shared) (u:Value),BindsTo s (PySem.W.fnOf "law" "law" (qK st) (zD st) (za st) .none kV doc pm an cdv ct) ⟨[u],[]⟩ [(x,u)])
  (F:∀ base:Heap,OkF P w K mg base k "law" [x] sp) :
  ∃ fd:FuncData,(∀ (s:Shared) (v:Value),BindsTo s fd ⟨[v],[]⟩ [(x,v)])/\∀ base:Heap,K.In base->base.Ns mainGlobals mg->FnOk P w K mg base CX0 k fa fd [x] sp:=by
 obtain⟨f,fd,G,b,m⟩:=D.ex
 have e:f=fa:=by rw [hfa] at m;cases m;rfl
 subst e
 obtain⟨oc,od,kV,doc,pm,an,cdv,ct,osl,rfl,lk,hcd⟩:=G.ex
 refine⟨_,fun s v=>hb kV doc pm an cdv ct s v,fun base _ _=>?_⟩
 obtain⟨f',fd',_,_,⟨m',oc',od',osl',lk'⟩,ok⟩:=(F base).ex
 have e:f' = f:=by rw [hfa] at m';cases m';rfl
 subst e
 rw [lk] at lk'
 cases lk'
 exact ok
end
section
variable {X:Cx} {k j:Nat} {x:Str} {ps:Lh} {sp:Sp} {p pos:Pos} {e:Expr} {es:Lg} {t:TA}
theorem zcs {v:V}{pos:Pos}(h:∃ u,X.mg x=some u/\RelV v u)(hg:Gl X x) (hd:(x == ("__debug__":Str))=false):PE X (.Name x pos) (tC v):=by
 obtain⟨u,m,r⟩:=h
 exact za9 hg m r hd
theorem ky {v:V}{u:Value}{pos:Pos}(hm:X.mg x=none)(hv:bootBuiltins x=some u)(r:RelV v u)(hg:Gl X x) (hn:x≠"__name__") (hd:(x == ("__debug__":Str))=false):PE X (.Name x pos) (tC v):=
 zba hg hm hv r hn hd
theorem J2:jc X (.builtin "isinstance") (fun xs H Q=>∃ x n t b,xs=[x,.ty n]/\TyOf X.K H x t/\PySem.W.kitOne X.K t (.type n)=some b/\Q (.bl b) H):=by
 intro pins s σ H xs us Q I r h
 obtain⟨x,n,t,b,rfl,ty,e,q⟩:=h
 obtain⟨u,w',rfl,rx,ry⟩:=vals2 r
 cases ry
 exact QF I rx ty e fun tk=>⟨.bl b,H,I.tok _,rfl,q⟩
section
variable {K:Le} {o:Expr} {to:TE} {name:Str} {apos cpos:Pos} {T id:String} {r:V->List V->Hp->VK->Prop}
theorem Zy (hK:X.K=K)(pa:PlainAttrs T)(slot:Slot T name id)(hty:typeOf (.builtin id)=pure (.type "method_descriptor"))(hm:MtR X id r)(ho:PE X o to)(ha:PA X (e::es) t)
  (hbase:attributeBase o name X.env (eval o X.env)=eval o X.env)
  (hfew:((backTo cpos (starEach (e::es) X.env)).all (fun x=>!x.1)&&(backToKw cpos (keywordEach [] X.env)).all (fun x=>x.1.isSome)
   && decide ((e::es).length+([]:List Keyword).length+(if ([]:List Keyword).isEmpty then 0 else 1)<30))=true)
  (hline:(apos.endLine == cpos.line)=true) (hs:starEach (e::es) X.env=(false,eval e X.env)::starEach es X.env) (hplain:(backTo cpos (starEach es X.env)).any (·.1)=false) :
  PE X (.Call (.Attribute o name apos) (e::es) [] cpos) (tBM K T r to t):=by
 subst hK
 exact zfo pa slot hty hm ho ha hbase hfew hline hs hplain
theorem Yd (hK:X.K=K):MtR X "str.join" (rJoin K):=by subst hK;exact Y7
theorem Y8 (hK:X.K=K):IxR X (rIxL K):=by subst hK;exact X9
theorem zbw (hK:X.K=K):IxR X (rIxT K):=by subst hK;exact YW
def zct (K:Le):List V->Hp->VK->Prop:=fun xs H Q=>∃ p ys,xs=[.ref p]/\(SqL K H p ys\/SqT K H p ys)/\Q (.int ys.length) H
theorem Xo (hK:X.K=K):jc X (.builtin "len") (zct K):=by subst hK;exact Jf
theorem Y9 (hK:X.K=K):SlR X (rSlL K):=by subst hK;exact zbp
end
end
theorem zdD:bootBuiltins "len" = some (.builtin "len"):=by decide +kernel
theorem zdE:bootBuiltins "str" = some (.type "str"):=by decide +kernel
theorem Ka:bootBuiltins "int" = some (.type "int"):=by decide +kernel
theorem zbx:bootBuiltins "bool" = some (.type "bool"):=by decide +kernel
theorem ya:bootBuiltins "isinstance" = some (.builtin "isinstance"):=by decide +kernel
noncomputable def sg:Lc:=[32,33,34,35,36,38,39,40,41,42,43,44,45,46,47,48,49,50,51,52,53,54,55,56,57,58,59,60,61,62,63,64,65,66,67,68,69,70,71,72,73,74,75,76,77,78,79,80,81,82,83,84,85,86,87,88,89,90,91,92,93,94,95,96,97,98,99,100,101,102,103,104,105,106,107,108,109,110,111,112,113,114,115,116,117,118,119,120,121,122,123,124,125,126]
def ix (c:Nat):Nat:=sg.idxOf c
theorem zfr {α:Type}(xs:List α)(i:Nat):atI xs (i:Int)=xs[i]?:=by
 cases h:xs[i]? with
 | some v=>exact atI_nat h
 | none=>
  have h1:xs.length<=i:=List.getElem?_eq_none_iff.mp h
  unfold atI ixN
  rw [uz (by lia),uy (by lia)]
  rfl
theorem Zz {H:Hp}{a:Addr}{o:HO}(h:H a=none):Same H (upd H a o):=fun b u e=>by rw [zt (jy e h)];exact e
theorem Jh {α:Type}{xs:List α}{i:Int}(h0:0<=i)(h1:i<xs.length):∃ v,atI xs i=some v/\xs[i.toNat]? = some v:=by
 obtain⟨n,rfl⟩:=Int.eq_ofNat_of_zero_le h0
 have hn:n<xs.length:=by lia
 refine⟨xs[n],?_,?_⟩
 ·rw [show((n:Nat):Int)=((n:Nat):Int) from rfl]
  rw [zfr,uq hn]
 ·rw [gD,uq hn]
theorem zby {i j:Int}(h:-(2 ^ 64)<i/\i<2 ^ 64):IntMulOk i j:=CMul.ok (.inl h)
theorem zbz {i j:Int}(h:-(2 ^ 64)<j/\j<2 ^ 64):IntMulOk i j:=CMul.ok (.inr h)
noncomputable def st1 (sh:Lc)(c:Nat):Lc:=if c=92\/c∈sh then [92,c] else [c]
noncomputable def ws:Lc:=[97,98,99,100,101,102,103,104,105,106,107,108,109,110,111,112,113,114,115,116,117,118,119,120,121,122,48,49,50,51,52,53,54,55,56,57,45]
def Fly (h:Heap)(e T:Addr)(cls:Value)(d:Option Addr)(fl:Value):Prop:=
 ∃ sl vs oT ts,h.get? e=some ⟨cls,d,.fields vs,sl⟩/\vs[1]? = some (.ref T)/\T≠e/\h.get? T=some oT/\oT.data=.fields ts/\ts[3]? = some fl
structure Kp (ch fs:Ld)(h h':Heap):Prop where
 keep:∀ b o,b∉ch->b∉fs->h.get? b=some o->h'.get? b=some o
 slot:∀ b o,b∉ch->h.get? b=some o->∃ sl,h'.get? b=some { o with slots:=sl }
section
variable {M:Model} {A:Around} {E:Value->Shared->Prop} {s:Shared}
theorem QR {base:Heap}{env:Env}{outer:List Env}{L e:Addr}{cls head:Value}{d:Option Addr}{vs:Array Value}{sl:Array (Option Value)}{nx:Bool}{Q:Unit->Shared->Prop}
  (hfr:A.frames=some (env::outer)) (hl:s.heap.FunFrames base (env::outer)) (hf:env.frame=some L) (he:s.heap.get? e=some ⟨cls,d,.fields vs,sl⟩) (hv:1<vs.size)
  (k:∀ h' T,s.heap.objs.size<=T->Fly h' e T cls d (rawInt L)->Kp [e] (frs (env::outer)) s.heap h'->Q () { s with heap:=h' }) :
  wpAny M A (do let a ← frameOf env;let pl ← entryPlaceOf L nx;let b ← EntryCells.newEntry head a .none (rawInt L) .none pl;setField (.ref e) 1 b) Q E s:=by
 have ne:e∉(env::outer).filterMap (·.frame):=fun hm=>by
  obtain⟨_,o,ho,hn⟩:=hl.mem hm
  rw [he] at ho
  cases ho
  exact hn vs rfl
 refine wpAny_bind (wpAny_frameOf_fun hfr hl hf fun g hg=>wpAny_bind (wpAny_entryPlaceOf fun pl hpl=>?_))
 have e1:g.get? e=some ⟨cls,d,.fields vs,sl⟩:=(hg.2.1 e ne).trans he
 unfold EntryCells.newEntry newFields
 refine wpAny_bind (wpAny_newObj_type ?_ (hpl.sizeOk5 _ _ _ _ _))
 generalize hT:({ cls:=.type "traceback",dict:=none,data:=.fields ([head,.ref L,.none,rawInt L,.none]++(if pl.isEmpty then List.replicate 6 Value.none else pl)).toArray }:Obj)=tb
 have e2:=Heap.get?_push_of_some (h:=g) tb e1
 have tn:g.objs.size≠e:=gC (Heap.lt_size e1)
 refine wpAny_setField e2 rfl hv (k _ g.objs.size ?_ ?_ ?_)
 ·rw [hg.1];exact uu _
 ·refine⟨sl,_,tb,([head,.ref L,.none,rawInt L,.none]++(if pl.isEmpty then List.replicate 6 Value.none else pl)).toArray,Heap.get?_update_self _ e2 (by rfl),by simp [hv],tn,?_,by rw [← hT],by simp⟩
  rw [Heap.get?_update_other _ _ (Ne.symm tn)]
  exact Heap.get?_push_size g (by rw [← hT];rfl)
 ·refine⟨fun b o hb hfs q=>?_,fun b o hb q=>?_⟩
  ·have hbe:b≠e:=fun z=>hb (by simp [z])
   rw [Heap.get?_update_other _ _ (Ne.symm hbe)]
   exact Heap.get?_push_of_some _ ((hg.2.1 b hfs).trans q)
  ·have hbe:b≠e:=fun z=>hb (by simp [z])
   obtain⟨sl',q'⟩:=hg.2.2 b o q
   refine⟨sl',?_⟩
   rw [Heap.get?_update_other _ _ (Ne.symm hbe)]
   exact Heap.get?_push_of_some _ q'
theorem Xq {base:Heap}{env:Env}{outer:List Env}{L e:Addr}{cls:Value}{d:Option Addr}{vs:Array Value}{sl:Array (Option Value)}{Q:Unit->Shared->Prop}
  (hfr:A.frames=some (env::outer)) (hl:s.heap.FunFrames base (env::outer)) (hf:env.frame=some L) (he:s.heap.get? e=some ⟨cls,d,.fields vs,sl⟩) (hv:vs[1]? = some .none)
  (k:∀ h' T,s.heap.objs.size<=T->Fly h' e T cls d (rawInt L)->Kp [e] (frs (env::outer)) s.heap h'->Q () { s with heap:=h' }):wpAny M A (noteFrame (.ref e) env) Q E s:=by
 unfold noteFrame
 simp only [hf]
 refine wpAny_bind (wpAny_field he rfl hv ?_)
 rw [uy (by decide)]
 exact QR hfr hl hf he (Uy.mp hv).1 k
theorem Ye {base:Heap}{env:Env}{outer:List Env}{L e T:Addr}{cls:Value}{d:Option Addr}{Q:Unit->Shared->Prop}
  (hfr:A.frames=some (env::outer)) (hl:s.heap.FunFrames base (env::outer)) (hf:env.frame=some L) (F:Fly s.heap e T cls d .none)
  (k:∀ h' T',s.heap.objs.size<=T'->Fly h' e T' cls d (rawInt L)->Kp [T,e] (frs (env::outer)) s.heap h'->Q () { s with heap:=h' }):wpAny M A (noteFrame (.ref e) env) Q E s:=by
 obtain⟨sl,vs,oT,ts,he,hv,tn,hT,hd,h3⟩:=F
 unfold noteFrame
 simp only [hf]
 refine wpAny_bind (wpAny_field he rfl hv ?_)
 rw [uz (show(Value.ref T != Value.none)=true by simp)]
 refine wpAny_bind (wpAny_field hT hd h3 ?_)
 rw [uy (show ¬ (Value.none == rawInt L)=true by simp [rawInt])]
 refine wpAny_bind (wpAny_setField hT hd (Uy.mp h3).1 ?_)
 have oth:∀ b,b≠T->(s.heap.update T (Obj.mapFields (·.setIfInBounds 3 Value.none))).get? b=s.heap.get? b:=fun b hb=>Heap.get?_update_other _ _ (Ne.symm hb)
 have nT:∀ b o,s.heap.get? b=some o->(∀ ws,o.data≠.fields ws)->b≠T:=fun b o q hn z=>by
  rw [z,hT] at q
  cases q
  exact hn ts hd
 have hsz:(s.heap.update T (Obj.mapFields (·.setIfInBounds 3 Value.none))).objs.size=s.heap.objs.size:=(Heap.SameBut.update s.heap T _).1
 refine QR (base:=base) hfr (hl.of_keeps fun b o q hn=>⟨o,(oth b (nT b o q hn)).trans q,rfl⟩) hf ((oth e (Ne.symm tn)).trans he) (Uy.mp hv).1 fun h' T' g1 g2 g3=>?_
 refine k h' T' (by rw [← hsz];exact g1) g2 ⟨fun b o hb hfs q=>?_,fun b o hb q=>?_⟩
 ·exact g3.keep b o (fun z=>hb (ug _ z)) hfs ((oth b fun z=>hb (by simp [z])).trans q)
 ·exact g3.slot b o (fun z=>hb (ug _ z)) ((oth b fun z=>hb (by simp [z])).trans q)
theorem ZA {e T:Addr}{cls fl:Value}{d:Option Addr}{Q:Unit->Shared->Prop}(F:Fly s.heap e T cls d fl)(k:∀ h',Fly h' e T cls d .none->Kp [T] [] s.heap h'->h'.objs.size=s.heap.objs.size->Q () { s with heap:=h' }):wpAny M A (setFlight (.ref e) none) Q E s:=by
 obtain⟨sl,vs,oT,ts,he,hv,tn,hT,hd,h3⟩:=F
 have h3':=(Uy.mp h3).1
 unfold setFlight
 refine wpAny_bind (wpAny_field he rfl hv ?_)
 rw [uz (show(Value.ref T != Value.none)=true by simp)]
 have oth:∀ b,b≠T->(s.heap.update T (Obj.mapFields (·.setIfInBounds 3 Value.none))).get? b=s.heap.get? b:=fun b hb=>Heap.get?_update_other _ _ (Ne.symm hb)
 refine wpAny_setField hT hd h3' (k _ ⟨sl,vs,_,_,(oth e (Ne.symm tn)).trans he,hv,tn,Heap.get?_update_self _ hT (Obj.isFreed_of_fields (Obj.data_mapFields hd _)),Obj.data_mapFields hd _,by simp [h3']⟩ ?_ (Heap.SameBut.update s.heap T _).1)
 exact⟨fun b o hb _ q=>(oth b fun z=>hb (by simp [z])).trans q,fun b o hb q=>⟨o.slots,(oth b fun z=>hb (by simp [z])).trans q⟩⟩
theorem J3 {base:Heap}{env:Env}{outer:List Env}{L e:Addr}{cls:Value}{d:Option Addr}{vs:Array Value}{sl:Array (Option Value)}{Q:Unit->Shared->Prop}
  (hfr:A.frames=some (env::outer)) (hl:s.heap.FunFrames base (env::outer)) (hf:env.frame=some L) (he:s.heap.get? e=some ⟨cls,d,.fields vs,sl⟩) (hv:vs[1]? = some .none)
  (k:∀ h' T,s.heap.objs.size<=T->Fly h' e T cls d .none->Kp [e] (frs (env::outer)) s.heap h'->Q () { s with heap:=h' }):wpAny M A (leaving env (.ref e)) Q E s:=by
 unfold leaving
 refine wpAny_bind (Xq hfr hl hf he hv fun h1 T g1 g2 g3=>ZA (s:={ s with heap:=h1 }) g2 fun h2 f1 f2 f3=>k h2 T g1 f1 ⟨fun b o hb hfs q=>?_,fun b o hb q=>?_⟩)
 all_goals
  have hbT:b≠T:=fun z=>absurd (Heap.lt_size q) (by rw [z];exact Nat.not_lt.mpr g1)
 ·exact f2.keep b o (by simpa using hbT) (by simp) (g3.keep b o hb hfs q)
 ·obtain⟨sl',q'⟩:=g3.slot b o hb q
  obtain⟨sl2,q2⟩:=f2.slot b _ (by simpa using hbT) q'
  exact⟨sl2,q2⟩
theorem Xr {base:Heap}{env:Env}{outer:List Env}{L e T:Addr}{cls:Value}{d:Option Addr}{Q:Unit->Shared->Prop}
  (hfr:A.frames=some (env::outer)) (hl:s.heap.FunFrames base (env::outer)) (hf:env.frame=some L) (F:Fly s.heap e T cls d .none)
  (k:∀ h' T',s.heap.objs.size<=T'->Fly h' e T' cls d .none->Kp [T,e] (frs (env::outer)) s.heap h'->Q () { s with heap:=h' }):wpAny M A (leaving env (.ref e)) Q E s:=by
 unfold leaving
 refine wpAny_bind (Ye hfr hl hf F fun h1 T' g1 g2 g3=>ZA (s:={ s with heap:=h1 }) g2 fun h2 f1 f2 f3=>k h2 T' g1 f1 ⟨fun b o hb hfs q=>?_,fun b o hb q=>?_⟩)
 all_goals
  have hbT:b≠T':=fun z=>absurd (Heap.lt_size q) (by rw [z];exact Nat.not_lt.mpr g1)
 ·exact f2.keep b o (by simpa using hbT) (by simp) (g3.keep b o hb hfs q)
 ·obtain⟨sl',q'⟩:=g3.slot b o hb q
  obtain⟨sl2,q2⟩:=f2.slot b _ (by simpa using hbT) q'
  exact⟨sl2,q2⟩
end
end L2
namespace L2
open PySem PySem.Spec PySem.Calls PyProof.Rows PySem.W
noncomputable abbrev vBM:Lf:=[.type "ValueError",.type "Exception",.type "BaseException",.type "object"]
noncomputable def zdF (K:Frag)(C:Addr):Bool:=match K.lookup C with
 | none=>false
 | some o=>o.cls == .type "type"&&match o.data with
  | .cls c=>(match c.mro,o.slots.toList with | .ref B::m,[_,_,_,_,some (.builtin n),_]=>B == C&&n == "ValueError.__new__"&&!c.hasDel&&tailIn K vBM m&&nsOkIn K c.ns | _,_=>false)
  | _=>false
section
variable {prog:Program} {w:World} {A:Around} {E:Value->Shared->Prop} {K:Frag} {C:Addr}
end
end L2
namespace L2
open PySem PySem.Spec PySem.Calls PyProof.Rows PySem.W Builtin Builtin.ObjectAttr
section
variable {prog:Program} {w:World} {A:Around} {E:Value->Shared->Prop} {K:Frag} {C x:Addr} {s:Shared}
end
structure XCl (K:Frag)(C:Addr):Prop where
 sh:zdF K C=true
 hd:hasDictIn K C=true
 ga:findIn K (.ref C) "__getattribute__" = some (some (.builtin "BaseException.__getattribute__"))
 gt:findIn K (.ref C) "__getattr__" = some none
 sa:findIn K (.ref C) "__setattr__" = some (some (.builtin "object.__setattr__"))
 ca:findIn K (.ref C) "__class__" = some (some (.builtin "object.__class__"))
 cg:specialIn K (.builtin "object.__class__") "__get__" = some (some (.builtin "getset_descriptor.__get__"))
 ct:takesIn K (.builtin "object.__class__")=some true
section
variable {prog:Program} {w:World} {A:Around} {E:Value->Shared->Prop} {K:Frag} {C x:Addr} {s:Shared} {ox:Obj} {od:Option Obj} {name:Str} {tk:Tok} {fill expr:Bool}
end
end L2
namespace L2
open PySem PySem.Spec PyProof.Rows
abbrev XS:=Value->Option Addr->St->Hp->Prop
def Nw (h:Heap)(e:Addr)(c:Value)(d:Option Addr):Prop:=∃ sl vs,h.get? e=some ⟨c,d,.fields vs,sl⟩/\vs[1]? = some .none
def Fl (X:Cx)(E:XS)(e:Value)(s':Shared):Prop:=∃ (ea:Addr) (c:Value) (d:Option Addr) (H':Hp) (pins:List (Addr×Obj)) (σ:St),e=.ref ea/\Inv X pins σ H' s'/\X.s₀.heap.objs.size<=ea/\H' ea=none/\(∀ q∈X.pn,q.1≠ea) /\
 (Nw s'.heap ea c d\/∃ T,Fly s'.heap ea T c d .none/\X.s₀.heap.objs.size<=T/\H' T=none/\∀ q∈X.pn,q.1≠T)/\E c d σ H'
def Thr (X:Cx)(E:XS):Prop:=∀ e s',Fl X E e s'->X.xe e s'
noncomputable def CXE (P:Program)(w:World):CXT:=fun outer H s E e s'=>∃ (ea T:Addr) (c:Value) (d:Option Addr) (H':Hp),e=.ref ea/\s.heap.objs.size<=ea/\s.heap.objs.size<=T/\Fly s'.heap ea T c d .none/\H' ea=none/\H' T=none /\
 s'.os=s.os/\AllBare s'.gens/\Un (frs outer) [] H H' s.heap s'.heap/\HOk P w H' s'.heap/\E c d H'
section
variable {X:Cx} {pins:List (Addr×Obj)} {σ:St} {H:Hp} {s s':Shared}
theorem Un.kp {fs fs' ch:Ld}{H H':Hp}{h h1 h2:Heap}(u:Un fs [] H H' h h1)(k:Kp ch fs' h1 h2)(hc:∀ b∈ch,h.objs.size<=b)(hf:∀ b∈fs',b∈fs\/h.objs.size<=b):Un fs [] H H' h h2:=by
 have nc:∀ b o,h.get? b=some o->b∉ch:=fun b o q z=>absurd (uK (Heap.lt_size q) (hc b z)) (u9 _)
 refine⟨fun b o q n hb _=>?_,fun b o q n hb _=>?_,u.free,fun b o q _=>?_,u.tups,u.frzs,u.tbls⟩
 ·refine k.keep b o (nc b o q) (fun z=>?_) (u.keep b o q n hb (by simp))
  rcases hf b z with z | z
  ·exact hb z
  ·exact absurd (uK (Heap.lt_size q) z) (u9 _)
 ·obtain⟨sl,e1⟩:=u.slot b o q n hb (by simp)
  obtain⟨sl',e2⟩:=k.slot b _ (nc b o q) e1
  exact⟨sl',e2⟩
 ·obtain⟨o',e1⟩:=u.there b o q (by simp)
  obtain⟨sl',e2⟩:=k.slot b _ (nc b o q) e1
  exact⟨_,e2⟩
theorem HOk.kp {P:Program}{w:World}{fs ch:Ld}{h1 h2:Heap}(x:HOk P w H h1)(k:Kp ch fs h1 h2)(hc:∀ b∈ch,H b=none)(hf:∀ b∈fs,H b=none):HOk P w H h2:=fun a o q=>
 (x a o q).stay (fun b u hb z=>by
  have t:∃ v,H b=some v:=by
   rcases hb with rfl | hb
   ·exact⟨o,q⟩
   ·exact⟨_,hb⟩
  obtain⟨v,t⟩:=t
  exact k.keep b u (fun y=>by rw [hc b y] at t;cases t) (fun y=>by rw [hf b y] at t;cases t) z) (fun _ z=>z) fun _ _ z=>z
theorem vT {P:Program}{w:World}{K:Le}{mg:La}{base:Heap}{N:Lh}{qual:Str}{scope:Scope}{f:Addr}{cd:Value}{A:Around}{outer:List Env}{s:Shared}{H:Hp}{E:XK} :
  Thr (cxOf (CXE P w) P w K mg base N qual scope f cd A outer s H E) (fun c d _ H'=>E c d H'):=by
 intro e s' hF
 obtain⟨ea,c,d,H',pins,σ,rfl,I,hea,hHe,_,hv,hE⟩:=hF
 have hst:(cxOf (CXE P w) P w K mg base N qual scope f cd A outer s H E).stack=(cxOf (CXE P w) P w K mg base N qual scope f cd A outer s H E).env::outer:=rfl
 have hfr:=I.ok.frames
 have hl:=I.stack
 have hsub:=I.stkSub
 have hfree:=I.stkFree
 rw [hst] at hfr hl hsub hfree
 have fin:∀ (h':Heap) (T:Addr) (ch:Ld),s'.heap.objs.size<=T->Fly h' ea T c d .none->Kp ch (frs ((cxOf (CXE P w) P w K mg base N qual scope f cd A outer s H E).env::outer)) s'.heap h'->(∀ b∈ch,s.heap.objs.size<=b/\H' b=none) ->
   CXE P w outer H s E (.ref ea) { s' with heap:=h' }:=fun h' T ch g1 g2 g3 g4=>by
  refine⟨ea,T,c,d,H',rfl,hea,uW I.sz g1,g2,hHe,I.hok.fresh g1,I.os,I.bare,?_,I.hok.kp g3 (fun b hb=>(g4 b hb).2) hfree,hE⟩
  refine Un.kp (fs:=frs outer) I.base g3 (fun b hb=>(g4 b hb).1) fun b hb=>?_
  rcases um.mp (hsub b hb) with z | z
  ·rw [z];exact .inr I.ok.above
  ·exact .inl z
 rcases hv with⟨sl,vs,he,h1⟩ | ⟨T0,hF,hT,hHT,_⟩
 ·exact J3 hfr hl rfl he h1 fun h' T g1 g2 g3=>fin h' T [ea] g1 g2 g3 fun b hb=>by
   obtain rfl:b=ea:=by simpa using hb
   exact⟨hea,hHe⟩
 ·exact Xr hfr hl rfl hF fun h' T g1 g2 g3=>fin h' T [T0,ea] g1 g2 g3 fun b hb=>by
   rcases um.mp hb with z | z
   ·subst z;exact⟨hT,hHT⟩
   ·obtain rfl:b=ea:=by simpa using z
    exact⟨hea,hHe⟩
theorem Vb {E:XS}{e:Value}(I:Inv X pins σ H s)(h:CXE X.prog X.w X.stack H s (fun c d H'=>E c d σ H') e s'):Fl X E e s':=by
 obtain⟨ea,T,c,d,H',rfl,h1,h2,hF,n1,n2,ho,hg,hu,hk,hE⟩:=h
 have np:∀ a,s.heap.objs.size<=a->∀ q∈X.pn,q.1≠a:=fun a z q hq y=>by
  have:=(I.pin q (uj _ hq)).1
  exact absurd (uK (Heap.lt_size this) (y ▸ z)) (u9 _)
 exact⟨ea,c,d,H',pins,σ,rfl,I.call' ho hu hk hg (fun b z=>absurd z (by simp)),uW I.sz h1,n1,np ea h1,.inr ⟨T,hF,uW I.sz h2,n2,np T h2⟩,hE⟩
end
structure OkX (P:Program)(w:World)(K:Le)(mg:La)(base:Heap)(k:Nat)(x:Str)(ps:Lh)(sp:Sp):Prop where
 ex:∃ (f:Addr) (fd:FuncData),PySem.W.keepIn K (.ref f)=true/\Binds K fd ps []/\mg x=some (.ref f)/\FnOk P w K mg base (CXE P w) k f fd ps sp
section
variable {P:Program} {w:World} {K:Le} {mg:La} {base:Heap}
theorem Df.okX {x:Str}{st:Stmt}{ps N:Lh}{k:Nat}{sp:Sp}(D:Df K mg x st ps)(Sc:zg N ps (za st))(len:∀ vs H Q E,sp vs H Q E->vs.length=ps.length)
  (hbody:∀ (f:Addr) (cdv:Value) (A:Around) (outer:List Env) (s:Shared) (H:Hp) (vs:List V) (Q:VK) (E:XK),Room k (A.deeper (envOfC x (za st) s.heap.objs.size f cdv))->sp vs H Q E ->
   ∃ t,PSs (cxOf (CXE P w) P w K mg base N x (za st) f cdv A outer s H E) (zD st) t/\t { nx:=fun _ H'=>Q .non H',rt:=Q } (start N vs) H):OkX P w K mg base (k+1) x ps sp:=by
 obtain⟨f,fd,F,b,m⟩:=D.ex
 refine⟨f,fd,F.kp,b,m,?_⟩
 obtain⟨oc,od,kV,doc,pm,an,cdv,ct,osl,rfl,lk,hcd⟩:=F.ex
 exact YU lk hcd Sc len fun A outer s H vs Q E hr h=>hbody f cdv A outer s H vs Q E hr h
end
section
variable {X:Cx} {k j:Nat} {x:Str} {ps:Lh} {sp:Sp} {p pos:Pos} {e:Expr} {es:Lg} {t:TA} {E:XS}
def wL (sp:Sp)(E:XS)(t:TA):TE:=fun σ H Q=>t σ H fun vs H1=>sp vs H1 Q fun c d H'=>E c d σ H'
theorem Ze {f:Addr}{fd:FuncData}{pins:List (Addr×Obj)}{σ:St}{H:Hp}{s:Shared}{Q:VK}{us:Lf}{vs:List V}(F:FnOk X.prog X.w X.K X.mg X.base (CXE X.prog X.w) k f fd ps sp)(hr:Room k X.A)(hb:Binds X.K fd ps [])(hx:Thr X E)
  (I:Inv X pins σ H s) (r:Vals vs us) (h:sp vs H Q fun c d H'=>E c d σ H'):wpAny (model X.prog X.w) X.A (call (.ref f) us) (EP X pins σ Q) X.xe s:=by
 have hl:(us++[]).length=ps.length:=by rw [ux,← r.length];exact F.len _ _ _ _ h
 have hb':=hb s us I.kIn hl
 rw [ux] at hb'
 refine wpAny_call (codeAny_mono (F.run X.A X.stack s H ⟨us,[]⟩ us vs Q (fun c d H'=>E c d σ H') hr I.env0 hb' r h) fun r s' hq=>?_)
 rcases r with e | (u | _ | _ | _)
 ·exact hx e s' (Vb I hq)
 all_goals first | exact I.after hq | exact False.elim hq
theorem Kb (hx:Thr X E)(F:OkX X.prog X.w X.K X.mg X.base k x ps sp)(hr:Room j X.A)(hk:k<=j)(ha:PA X (e::es) t)(hg:Gl X x) (hdb:(x == ("__debug__":Str))=false)
  (he:starEach (e::es) X.env=(false,eval e X.env)::starEach es X.env) (hpl:(backTo pos (starEach es X.env)).any (·.1)=false):PE X (.Call (.Name x p) (e::es) [] pos) (wL sp E t):=by
 intro pins s σ H Q I h
 obtain⟨f,fd,kp,b,m,G⟩:=F.ex
 refine wpAny_Call_Name_kw (xj I hg m ?_ hdb)
 refine UD (h₀:=X.base) I.ok.mod.kin kp (thn (ha pos pins s σ H _ I h) fun us s1 ⟨vs,H1,I1,r,q⟩=>⟨I1.kIn,?_⟩) he hpl
 exact Ze G (hr.mono hk) b hx I1 r q
end
end L2
namespace L2
open PySem PySem.Spec PyProof.Rows PySem.W
section
variable {P:Program} {w:World} {H:Hp} {h:Heap} {C d a:Addr}
end
section
variable {X:Cx} {C B:Addr} {b self name:Str} {e a1:Expr} {es:Lg} {te:TE} {t:TA} {np p1 apos cpos pos pos':Pos} {i:Nat}
end
section
variable {X:Cx} {E:XS} {C:Addr} {x f:Str} {pay:V->Prop} {e:Expr} {es:Lg} {t:TA} {np cpos pos:Pos} {j:Nat}
end
section
variable {X:Cx} {pins:List (Addr×Obj)} {σ:St} {H:Hp} {s:Shared}
end
def zdG (H:Hp)(a C:Addr)(d:Option Addr):Prop:=∃ o,H a=some (.frz o (.own a))/\o.cls=.ref C/\o.dict=d/\∃ vs,o.data=.fields vs
section
variable {X:Cx} {Dc:Addr} {x n:Str} {i:Nat} {tb:XS->TS} {th:TS} {body suite:List Stmt} {b₀:Stmt} {np hpos pos:Pos}
end
structure Got (K:Frag)(H:Hp)(a C:Addr)(fs:List (Str×V)):Prop where
 cl:XCl K C
 ex:∃ d,zdG H a C (some d)/\H d=some (.xd fs)
section
variable {X:Cx} {pins:List (Addr×Obj)} {σ:St} {H:Hp} {s:Shared} {a C:Addr} {fs:List (Str×V)}
end
section
variable {X:Cx}
end
section
variable {X:Cx} {k j:Nat} {x:Str} {ps:Lh} {sp:Sp} {p pos:Pos} {e:Expr} {es:Lg} {t:TA} {a:Addr}
theorem Kc {P:Program}{w:World}:Passes (CXE P w) X E0:=fun _ _ _ _ _ _ _ h=>by
 obtain⟨_,_,_,_,_,_,_,_,_,_,_,_,_,_,_,z⟩:=h
 exact z.elim
theorem J4 (F:OkX X.prog X.w X.K X.mg X.base k x ps sp)(hr:Room j X.A)(hk:k<=j)(ha:PA X (e::es) t)(hg:Gl X x) (hdb:(x == ("__debug__":Str))=false)
  (he:starEach (e::es) X.env=(false,eval e X.env)::starEach es X.env) (hpl:(backTo pos (starEach es X.env)).any (·.1)=false):PE X (.Call (.Name x p) (e::es) [] pos) (QG sp [] E0 t):=by
 obtain⟨f,fd,kp,b,m,G⟩:=F.ex
 exact zbk G (hr.mono hk) hg m kp b .nil Kc ha hdb he hpl
end
end L2
namespace L2
open PySem PySem.Spec PySem.Calls PyProof.Rows PySem.W
section
variable {X:Cx}
end
end L2
namespace L2
open PySem PySem.W
end L2
namespace L2
open PySem PySem.Spec PySem.Calls PyProof.Rows PySem.W
section
variable {X:Cx} {pins:List (Addr×Obj)} {σ:St} {H:Hp} {s:Shared} {h':Heap}
theorem Inv.turned2 {t':Nat}{e it:Addr}(I:Inv X pins σ H s)(k:∀ b o,b≠e->b≠it->s.heap.get? b=some o->h'.get? b=some o)(fe:FpOk X pins H e)(fi:FpOk X pins H it) :
  Inv X pins σ H { s with heap:=h',toks:=t' }:=by
 obtain⟨e0,e1,_,e3,e4,e5⟩:=fe
 obtain⟨i0,i1,_,i3,i4,i5⟩:=fi
 have hk:∀ b o,b∉[e,it]->s.heap.get? b=some o->h'.get? b=some o:=fun b o hb q=>k b o (fun z=>hb (by simp [z])) (fun z=>hb (by simp [z])) q
 have nn:∀ b u,H b=some u->b∉[e,it]:=fun b u q z=>by
  rcases um.mp z with z | z
  ·rw [z,e0] at q;cases q
  ·rw [ui.mp z,i0] at q;cases q
 refine I.step (g':=s.gens) (d':=s.drawn) (ch:=[e,it]) ?_ (fun b o _ _ hc q _=>hk b o hc q) (fun b o _ _ hc q _=>⟨o.slots,hk b o hc q⟩) (fun _ _ _ _ n=>n) (fun b o hc q=>⟨o,hk b o hc q⟩)
  (fun _ _ q=>q) (fun _ _ _ q=>q) (fun b ps q=>⟨#[],by rw [q];simp⟩) ?_ ?_ I.bare
 ·intro b hb
  rcases um.mp hb with z | z
  ·rw [z];exact⟨e3,e1,e4,e5⟩
  ·rw [ui.mp z];exact⟨i3,i1,i4,i5⟩
 ·intro m hm
  obtain⟨o,es,ep,ho,r⟩:=hm
  exact⟨o,es,ep,k _ o (Ne.symm e1) (Ne.symm i1) ho,r⟩
 ·intro b u q
  refine(I.hok b u q).stay (fun c v hc z=>hk c v ?_ z) (fun _ z=>z) fun _ _ z=>z
  rcases hc with z' | z'
  ·rw [z'];exact nn b u q
  ·exact nn c _ z'
end
def Ite (go:Nat->Hp->Prop)(yv:Nat->Hp->V->Prop)(stop:Nat->Hp->Prop):It:=⟨go,fun i H x H'=>∃ p v,H p=none/\yv i H v/\x=.ref p/\H' = upd H p (.tup [.int i,v]),stop⟩
theorem Yg {P:Program}{w:World}{K:Le}{elts:Lg}{ek:Nat}{epos:Pos}{e it:Addr}{go:Nat->Hp->Prop}{yv:Nat->Hp->V->Prop}{stop:Nat->Hp->Prop}{tn:Nat->Heap->Prop}(hne:e≠it)
  (hobj:∀ i h,tn i h->∃ o,h.get? it=some o/\∀ v,o.data≠.cell v)
  (hkeep:∀ i h h',tn i h->(∀ o,h.get? it=some o->h'.get? it=some o)->tn i h')
  (hitem:∀ (X:Cx),X.prog=P->X.w=w->X.K=K->X.calm=true->∀ (i:Nat) (pins:List (Addr×Obj)) (s:Shared) (σ:St) (H:Hp),Inv X pins σ H s->tn i s.heap->go i H->(∃ old,IsEnum s.heap e it i old) ->
   ∃ fp n Pd St,Draws P w X.A.in1 it fp n Pd St/\St i s.heap/\i<n/\e∉fp/\(∀ h,St (i+1) h->tn (i+1) h)/\∀ x,Pd i x->∃ v,RelV v x/\yv i H v)
  (hdone:∀ (X:Cx),X.prog=P->X.w=w->X.K=K->X.calm=true->∀ (i:Nat) (pins:List (Addr×Obj)) (s:Shared) (σ:St) (H:Hp),Inv X pins σ H s->tn i s.heap->stop i H ->
   ∃ fp n Pd St,Draws P w X.A.in1 it fp n Pd St/\St n s.heap) :
  Turn P w K (.Tuple elts ek epos) (Ite go yv stop) [e,it] e (fun i h=>(∃ old,IsEnum h e it i old)/\tn i h) where
 mem:=by simp
 obj:=fun i h st b hb=>by
  rcases um.mp hb with z | z
  ·obtain⟨⟨old,q⟩,_⟩:=st
   rw [z]
   exact⟨_,q,fun v z=>nomatch z⟩
  ·rw [ui.mp z]
   exact hobj i h st.2
 keep:=fun i h h' st k=>by
  obtain⟨⟨old,q⟩,st⟩:=st
  exact⟨⟨old,k e (by simp) _ q⟩,hkeep i h h' st (k it (by simp))⟩
 item:=by
  intro X hP hw hK hc i pins s σ H E I hf st hg
  obtain⟨⟨old,q⟩,st⟩:=st
  obtain⟨fp,n,Pd,St,D,hs,hlt,hef,hst,hv⟩:=hitem X hP hw hK hc i pins s σ H I st hg ⟨old,q⟩
  refine wpAny_pyNext_enum_itemD D q hs hlt hne hef fun x h1 tk hx ho hs1 hT hsz hk=>⟨_,rfl,?_⟩
  obtain⟨v,rv,yv'⟩:=hv x hx
  have helt:e<s.heap.objs.size:=Heap.lt_size q
  refine wpAny_letOwnedTupleGo_enum ho fun h2 he2 hs2=>?_
  have hTe:s.heap.objs.size≠e:=gC helt
  have hT2:h2.get? s.heap.objs.size=some { cls:=.type "tuple",data:=.seq #[.int i tk,x] }:=(hs2.2 _ hTe).trans hT
  have fe:=hf e (by simp)
  have fi:=hf it (by simp)
  have fresh:H s.heap.objs.size=none:=I.hok.fresh (uu _)
  have hit:s.heap.objs.size≠it:=by
   obtain⟨o,z⟩:=D.live _ _ hs
   exact gC (Heap.lt_size z)
  have I0:=I.laid (t':=s.toks) (a:=s.heap.objs.size) (o:=.tup [.int i,v]) (h':=s.heap.push { cls:=.type "tuple",data:=.seq #[.int i tk,x] }) (fun b o z=>Heap.get?_push_of_some _ z) (uu _) (by
   refine⟨by show 2<=sizeLine;decide,[.int i tk,x],.cons ⟨tk,rfl⟩ (.cons rv .nil),?_⟩
   exact⟨_,Heap.get?_push_size _ rfl,rfl,_,rfl⟩)
  have fe0:FpOk X pins (upd H s.heap.objs.size (.tup [.int i,v])) e:=⟨by rw [zt (Ne.symm hTe)];exact fe.1,fe.2⟩
  have fi0:FpOk X pins (upd H s.heap.objs.size (.tup [.int i,v])) it:=⟨by rw [zt (Ne.symm hit)];exact fi.1,fi.2⟩
  have I2:=I0.turned2 (h':=h2) (t':=tk+1) (e:=e) (it:=it) (fun b o hbe hbi z=>by
   by_cases hb:b=s.heap.objs.size
   ·rw [hb] at z ⊢
    have z':some ({ cls:=.type "tuple",data:=.seq #[.int i tk,x] }:Obj)=some o:=(Heap.get?_push_size _ rfl).symm.trans z
    rw [hT2];exact z'
   ·have z':s.heap.get? b=some o:=by
     have z2:=z
     rw [Heap.get?_push_ne _ _ _ hb] at z2
     exact z2
    exact(hs2.2 b hbe).trans (hk b o hbe hbi z')) fe0 fi0
  refine⟨.ref s.heap.objs.size,upd H s.heap.objs.size (.tup [.int i,v]),I2,rfl,⟨_,v,fresh,yv',rfl,rfl⟩,⟨⟨_,he2⟩,?_⟩,fun b hb=>?_⟩
  ·refine hkeep _ _ _ (hst h1 hs1) fun o z=>(hs2.2 it (Ne.symm hne)).trans z
  ·rcases um.mp hb with z | z
   ·rw [z];exact fe0.1
   ·rw [ui.mp z];exact fi0.1
 done:=by
  intro X hP hw hK hc i pins s σ H E I hf st hg
  obtain⟨⟨old,q⟩,st⟩:=st
  obtain⟨fp,n,Pd,St,D,hs⟩:=hdone X hP hw hK hc i pins s σ H I st hg
  have fi:=hf it (by simp)
  refine wpAny_pyNext_enum_endD D q hs fun h1 hx=>⟨rfl,I.turned (t':=s.toks) (fun b o hb z=>hx b o hb z) fi.1 fi.2.1 fi.2.2.2.1 fi.2.2.2.2.1 fi.2.2.2.2.2⟩
 self:=fun A i s Q E st h=>by
  obtain⟨⟨old,q⟩,_⟩:=st
  exact wpAny_pyIter_enum q h
section
variable {X:Cx}
def goS (x:Str):Nat->Hp->Prop:=fun i _=>i<x.cps.size
def yvS (x:Str):Nat->Hp->V->Prop:=fun i _ v=>∃ c,x.cps[i]? = some c/\v=.str ⟨#[c]⟩
def stS (x:Str):Nat->Hp->Prop:=fun i _=>x.cps.size<=i
theorem Xs {P:Program}{w:World}{K:Le}{elts:Lg}{ek:Nat}{epos:Pos}{e it:Addr}(hne:e≠it)(x:Str)(t:Tok) :
  Turn P w K (.Tuple elts ek epos) (Ite (goS x) (yvS x) (stS x)) [e,it] e (fun i h=>(∃ old,IsEnum h e it i old)/\(h.IsStrIter it (strIterType x) x t i/\i<=x.cps.size)):=by
 have dr:∀ A:Around,A.handled=none->Draws P w A it [it] x.cps.size (fun i v=>∃ c u,x.cps[i]? = some c/\v=.str ⟨#[c]⟩ u) (fun i h=>h.IsStrIter it (strIterType x) x t i):=fun A hA=>by
  unfold strIterType
  cases ha:x.cps.all (· < 128)
  ·exact Draws.strWide hA it x t
  ·exact Draws.strAscii hA it x t
 refine Yg hne ?_ ?_ ?_ ?_
 ·intro i h st
  obtain⟨o,ho,_,hd⟩:=st.1
  exact⟨o,ho,fun v z=>by rw [hd] at z;cases z⟩
 ·intro i h h' st k
  obtain⟨⟨o,ho,r⟩,hl⟩:=st
  exact⟨⟨o,k o ho,r⟩,hl⟩
 ·intro X hP hw hK hc i pins s σ H I st hg he
  refine⟨[it],_,_,_,dr X.A.in1 (I.ok.hd hc),st.1,hg,by simp [hne],fun h z=>⟨z,hg⟩,fun v hv=>?_⟩
  obtain⟨c,u,hcu,rfl⟩:=hv
  exact⟨.str ⟨#[c]⟩,⟨u,rfl⟩,c,hcu,rfl⟩
 ·intro X hP hw hK hc i pins s σ H I st hg
  have hi:i=x.cps.size:=Nat.le_antisymm st.2 hg
  subst hi
  exact⟨[it],_,_,_,dr X.A.in1 (I.ok.hd hc),st.1⟩
def Kd (ta:TA):TI:=fun σ H R=>ta σ H fun vs H1=>∃ z,vs=[.str z]/\R (Ite (goS z) (yvS z) (stS z)) H1
theorem Ke {a:Expr}{ta:TA}{p pos:Pos}{elts:Lg}{ek:Nat}{epos:Pos}(hg:Gl X "enumerate")(hm:X.mg "enumerate" = none)(ha:PA X [a] ta)(hs:starEach [a] X.env=[(false,eval a X.env)]) :
  PI X (.Tuple elts ek epos) (.Call (.Name "enumerate" p) [a] [] pos) (Kd ta):=by
 intro pins s σ H R I h
 refine Call_ (ko I hg hm boot_enumerate (PyProof.Rows.callWith_type1 (thn (ha pos pins s σ H _ I h) fun us s1 ⟨vs,H1,I1,r1,q1⟩=>?_) hs rfl))
 obtain⟨z,e,q⟩:=q1
 subst e
 obtain⟨u,rfl,t,rfl⟩:=r1.one
 refine call_enumerate_str fun h' he hit hsz hk=>wpAny_pyIter_enum he ?_
 have hlt:s1.heap.objs.size<=s1.heap.objs.size+1:=UO _
 refine⟨s1.heap.objs.size+1,[s1.heap.objs.size+1,s1.heap.objs.size],_,_,H1,rfl,I1.kept (t':=s1.toks) hk,Xs (Nat.succ_ne_self _) z t,⟨⟨_,he⟩,hit,uS _⟩,fun b hb=>?_,q⟩
 have hb':s1.heap.objs.size<=b:=by
  rcases um.mp hb with z | z
  ·rw [z];exact hlt
  ·rw [ui.mp z];exact uu _
 exact I1.fpOk hb' (I1.hok.fresh hb')
end
section
variable {P:Program} {w:World} {K:Le} {mg:La} {base:Heap}
end
section
variable {X:Cx} {k j:Nat} {x:Str} {ps:Lh} {sp:Sp} {p pos:Pos} {e:Expr} {es:Lg} {t:TA}
end
end L2
namespace L2
open PySem PySem.Spec PyProof.Rows
section
variable {X:Cx} {elt iter:Expr} {x x2:Str} {px py pt pos:Pos} {kt:Nat} {ifs:Lg} {scope:Scope} {wi:TI} {tt:TT} {te:TE}
end
end L2
namespace L2
open PySem PySem.Spec PySem.Calls PyProof.Rows PySem.W
section
variable {X:Cx}
end
theorem zbA:bootBuiltins "list" = some (.type "list"):=by decide +kernel
section
variable {X:Cx}
theorem zbB {K:Frag}(hK:X.K=K):OpR X (compareOp .In) (rIn K false):=by subst hK;exact V7
theorem Xu {K:Frag}(hK:X.K=K):OpR X (compareOp .NotIn) (rIn K true):=by subst hK;exact Je
theorem Inv.big' {pins:List (Addr×Obj)}{σ:L2.St}{H:Hp}{s:Shared}(I:Inv X pins σ H s):sysModules<s.heap.objs.size:=by
 have h:mainGlobals<s.heap.objs.size:=(I.mod.glob.keeps I.bk).lt
 exact Nat.lt_trans (by decide) h
def tD0:TE:=fun _ H Q=>∀ p,H p=none->Q (.ref p) (upd H p (.dK []))
theorem zfs {pos:Pos}:PE X (.Dict [] [] pos) tD0:=fun pins s σ H Q I h=>
 wpAny_Dict_empty ⟨.ref s.heap.objs.size,_,I.laid (a:=s.heap.objs.size) (o:=.dK []) (t':=s.toks) (fun _ _ q=>Heap.get?_push_of_some _ q) (uu _) ⟨uS _,Um.mpr (Ne.symm (Ud I.big')),[],.nil,Heap.DictOf.new s.heap⟩,rfl,h _ (I.hok.fresh (uu _))⟩
end
inductive Dat where
 | fl (v:V)
 | tp (xs:List Dat)
 | ls (xs:List Dat)
mutual
noncomputable def IsDt (H:Hp):Dat->V->Prop
 | .fl x,v=>v=x/\zH x=true
 | .tp ds,v=>∃ a vs,v=.ref a/\H a=some (.tup vs)/\IsDs H ds vs
 | .ls ds,v=>∃ a vs,v=.ref a/\H a=some (.lst vs)/\IsDs H ds vs
noncomputable def IsDs (H:Hp):List Dat->List V->Prop
 | [],vs=>vs=[]
 | d::ds,vs=>∃ v r,vs=v::r/\IsDt H d v/\IsDs H ds r
end
mutual
noncomputable def eqD:Dat->Dat->Bool
 | .fl x,.fl y=>eqV x y
 | .tp xs,.tp ys=>eqDs xs ys
 | .ls xs,.ls ys=>eqDs xs ys
 | .fl _,.tp _=>false
 | .fl _,.ls _=>false
 | .tp _,.fl _=>false
 | .tp _,.ls _=>false
 | .ls _,.fl _=>false
 | .ls _,.tp _=>false
noncomputable def eqDs:List Dat->List Dat->Bool
 | [],[]=>true
 | x::xs,y::ys=>eqD x y&&eqDs xs ys
 | [],_::_=>false
 | _::_,[]=>false
end
mutual
noncomputable def depD:Dat->Nat
 | .fl _=>0
 | .tp xs=>wA xs+1
 | .ls xs=>wA xs+1
noncomputable def wA:List Dat->Nat
 | []=>0
 | d::ds=>max (depD d) (wA ds)
end
mutual
theorem IsDt.mono {H H':Hp}(g:Same H H'):∀ {d:Dat} {v:V},IsDt H d v->IsDt H' d v
 | .fl x,v,h=>by simp only [IsDt] at h ⊢;exact h
 | .tp ds,v,h=>by
  simp only [IsDt] at h ⊢
  obtain⟨a,vs,e,h1,h2⟩:=h
  exact⟨a,vs,e,g _ _ h1,IsDs.mono g h2⟩
 | .ls ds,v,h=>by
  simp only [IsDt] at h ⊢
  obtain⟨a,vs,e,h1,h2⟩:=h
  exact⟨a,vs,e,g _ _ h1,IsDs.mono g h2⟩
theorem IsDs.mono {H H':Hp}(g:Same H H'):∀ {ds:List Dat} {vs:List V},IsDs H ds vs->IsDs H' ds vs
 | [],vs,h=>by simp only [IsDs] at h ⊢;exact h
 | d::ds,vs,h=>by
  simp only [IsDs] at h ⊢
  obtain⟨v,r,e,h1,h2⟩:=h
  exact⟨v,r,e,IsDt.mono g h1,IsDs.mono g h2⟩
end
theorem IsDs.len {H:Hp}:∀ {ds:List Dat} {vs:List V},IsDs H ds vs->ds.length=vs.length
 | [],vs,h=>by simp only [IsDs] at h;subst h;rfl
 | d::ds,vs,h=>by
  simp only [IsDs] at h
  obtain⟨v,r,e,h1,h2⟩:=h
  rw [e,ua,ua,IsDs.len h2]
theorem J5 {v:V}(h:zH v=true):eqV v v=true:=by
 cases v<;>simp [eqV,zH] at h ⊢
mutual
theorem ZC {H:Hp}:∀ {d e:Dat} {v:V},IsDt H d v->IsDt H e v->eqD d e=true
 | .fl x,.fl y,v,h,k=>by
  simp only [IsDt] at h k
  obtain⟨rfl,f⟩:=h
  obtain⟨rfl,_⟩:=k
  simp only [eqD]
  exact J5 f
 | .tp xs,.tp ys,v,h,k=>by
  simp only [IsDt] at h k
  obtain⟨a,vs,rfl,h1,h2⟩:=h
  obtain⟨b,us,e,k1,k2⟩:=k
  cases e
  rw [h1] at k1
  cases k1
  simp only [eqD]
  exact kA h2 k2
 | .ls xs,.ls ys,v,h,k=>by
  simp only [IsDt] at h k
  obtain⟨a,vs,rfl,h1,h2⟩:=h
  obtain⟨b,us,e,k1,k2⟩:=k
  cases e
  rw [h1] at k1
  cases k1
  simp only [eqD]
  exact kA h2 k2
 | .fl x,.tp ys,v,h,k=>by
  simp only [IsDt] at h k
  obtain⟨rfl,f⟩:=h
  obtain⟨b,us,rfl,k1,k2⟩:=k
  simp [zH] at f
 | .fl x,.ls ys,v,h,k=>by
  simp only [IsDt] at h k
  obtain⟨rfl,f⟩:=h
  obtain⟨b,us,rfl,k1,k2⟩:=k
  simp [zH] at f
 | .tp xs,.fl y,v,h,k=>by
  simp only [IsDt] at h k
  obtain⟨rfl,f⟩:=k
  obtain⟨b,us,rfl,k1,k2⟩:=h
  simp [zH] at f
 | .ls xs,.fl y,v,h,k=>by
  simp only [IsDt] at h k
  obtain⟨rfl,f⟩:=k
  obtain⟨b,us,rfl,k1,k2⟩:=h
  simp [zH] at f
 | .tp xs,.ls ys,v,h,k=>by
  simp only [IsDt] at h k
  obtain⟨a,vs,rfl,h1,h2⟩:=h
  obtain⟨b,us,e,k1,k2⟩:=k
  cases e
  rw [h1] at k1
  cases k1
 | .ls xs,.tp ys,v,h,k=>by
  simp only [IsDt] at h k
  obtain⟨a,vs,rfl,h1,h2⟩:=h
  obtain⟨b,us,e,k1,k2⟩:=k
  cases e
  rw [h1] at k1
  cases k1
theorem kA {H:Hp}:∀ {ds es:List Dat} {vs:List V},IsDs H ds vs->IsDs H es vs->eqDs ds es=true
 | [],[],_,_,_=>rfl
 | d::ds,e::es,vs,h,k=>by
  simp only [IsDs] at h k
  obtain⟨v,r,rfl,h1,h2⟩:=h
  obtain⟨v',r',e',k1,k2⟩:=k
  cases e'
  simp only [eqDs,ub]
  exact⟨ZC h1 k1,kA h2 k2⟩
 | [],e::es,vs,h,k=>by
  simp only [IsDs] at h k
  subst h
  obtain⟨v',r',e',k1,k2⟩:=k
  cases e'
 | d::ds,[],vs,h,k=>by
  simp only [IsDs] at h k
  subst k
  obtain⟨v',r',e',k1,k2⟩:=h
  cases e'
end
mutual
noncomputable def yK:Dat->Bool
 | .fl v=>zH v
 | .tp xs=>xX xs
 | .ls xs=>xX xs
noncomputable def xX:List Dat->Bool
 | []=>true
 | d::ds=>yK d&&xX ds
end
mutual
theorem J6:∀ {d:Dat},yK d=true->eqD d d=true
 | .fl v,h=>by simp only [eqD];exact J5 h
 | .tp xs,h=>by simp only [eqD];simp only [yK] at h;exact kB h
 | .ls xs,h=>by simp only [eqD];simp only [yK] at h;exact kB h
theorem kB:∀ {ds:List Dat},xX ds=true->eqDs ds ds=true
 | [],_=>rfl
 | d::ds,h=>by
  simp only [xX,ub] at h
  simp only [eqDs,ub]
  exact⟨J6 h.1,kB h.2⟩
end
theorem eqDs_len:∀ {ds es:List Dat},ds.length≠es.length->eqDs ds es=false
 | [],[],h=>absurd rfl h
 | d::ds,e::es,h=>by
  simp only [eqDs]
  rw [eqDs_len (ds:=ds) (es:=es) (by simpa using h),UX]
 | [],_::_,_=>rfl
 | _::_,[],_=>rfl
noncomputable def dGet (ds:List Dat)(j:Nat):Dat:=ds.getD j (.fl .non)
theorem xY:∀ {ds es:List Dat},ds.length=es.length->(List.range ds.length).all (fun j=>eqD (dGet ds j) (dGet es j))=eqDs ds es
 | [],[],_=>rfl
 | d::ds,e::es,h=>by
  rw [ua,List.range_succ_eq_map,Up,List.all_map]
  simp only [eqDs]
  have:=xY (ds:=ds) (es:=es) (by simpa using h)
  rw [← this]
  rfl
 | [],_::_,h=>by simp at h
 | _::_,[],h=>by simp at h
theorem ZD {ds es:List Dat}{n m:Nat}(hn:n=ds.length)(hm:m=es.length):((List.range (min n m)).all (fun j=>eqD (dGet ds j) (dGet es j))&&n == m)=eqDs ds es:=by
 subst hn hm
 by_cases h:ds.length=es.length
 ·rw [← h,Nat.min_self,Ut,Bool.and_true]
  exact xY h
 ·rw [eqDs_len h,Um.mpr h,UX]
section
variable {X:Cx} {pins:List (Addr×Obj)} {σ:L2.St} {H:Hp} {s:Shared}
theorem jd (I:Inv X pins σ H s){a:Addr}{vs:List V}(h:H a=some (.tup vs)):∃ its:Lf,Vals vs its/\s.heap.IsTuple a its.toArray:=by
 obtain⟨its,r,p,_⟩:=I.tuple (SqT.of h)
 exact⟨its,r,p⟩
theorem qW (I:Inv X pins σ H s){a:Addr}{vs:List V}(h:H a=some (.lst vs)):∃ its:Lf,Vals vs its/\s.heap.IsList a its.toArray:=by
 obtain⟨its,r,p,_⟩:=I.list (SqL.of h)
 exact⟨its,r,p.isList⟩
mutual
theorem zdH (I:Inv X pins σ H s):∀ (d e:Dat) (A:Around) (x y:V) (u w:Value),A.units+depD d<cLine->IsDt H d x->IsDt H e y->RelV x u->RelV y w->SeqAt.EqAt A s u w (eqD d e)
 | .fl x,.fl y,A,x',y',u,w,hu,h,k,ru,rw'=>by
  simp only [IsDt] at h k
  obtain⟨rfl,f⟩:=h
  obtain⟨rfl,g⟩:=k
  simp only [eqD]
  exact YY ru rw' f g
 | .tp ds,.tp es,A,x,y,u,w,hu,h,k,ru,rw'=>by
  have hh:=h
  have kk:=k
  simp only [IsDt] at h k
  obtain⟨a,vs,rfl,h1,h2⟩:=h
  obtain⟨b,us,rfl,k1,k2⟩:=k
  cases ru
  cases rw'
  by_cases hab:a=b
  ·subst hab
   rw [ZC hh kk]
   exact SeqAt.EqAt.same _
  obtain⟨i1,r1,p1⟩:=jd I h1
  obtain⟨i2,r2,p2⟩:=jd I k1
  simp only [depD] at hu
  refine SeqAt.EqAt.of_refs hab ?_
  have:=SeqAt.RcAt.tuples (A:=A) (e:=fun j=>eqD (dGet ds j) (dGet es j)) p1 p2 (by lia) (xm I ds es A.in1 vs us i1 i2 (by show A.units+1+_<_;lia) h2 k2 r1 r2)
  rw [ZD (by rw [ur,← r1.length,h2.len]) (by rw [ur,← r2.length,k2.len])] at this
  simp only [eqD]
  exact this
 | .ls ds,.ls es,A,x,y,u,w,hu,h,k,ru,rw'=>by
  have hh:=h
  have kk:=k
  simp only [IsDt] at h k
  obtain⟨a,vs,rfl,h1,h2⟩:=h
  obtain⟨b,us,rfl,k1,k2⟩:=k
  cases ru
  cases rw'
  by_cases hab:a=b
  ·subst hab
   rw [ZC hh kk]
   exact SeqAt.EqAt.same _
  obtain⟨i1,r1,p1⟩:=qW I h1
  obtain⟨i2,r2,p2⟩:=qW I k1
  have l1:=r1.length
  have l2:=r2.length
  have l3:=h2.len
  have l4:=k2.len
  simp only [depD] at hu
  refine SeqAt.EqAt.of_refs hab ?_
  simp only [eqD]
  by_cases hl:ds.length=es.length
  ·have:=SeqAt.RcAt.lists (A:=A) (e:=fun j=>eqD (dGet ds j) (dGet es j)) p1 p2 (by simp;lia) (by lia) (xm I ds es A.in1 vs us i1 i2 (by show A.units+1+_<_;lia) h2 k2 r1 r2)
   rw [ur,← l1,← l3,xY hl] at this
   exact this
  ·rw [eqDs_len hl]
   exact SeqAt.RcAt.lists_lengths p1 p2 (by simp;lia) (by lia)
 | .fl x,.tp es,A,x',y,u,w,hu,h,k,ru,rw'=>by
  simp only [IsDt] at h k
  obtain⟨rfl,f⟩:=h
  obtain⟨b,us,rfl,k1,k2⟩:=k
  cases rw'
  obtain⟨i2,r2,p2⟩:=jd I k1
  simp only [eqD]
  have hu:A.units<cLine:=by lia
  cases x' with
  | non=>cases ru;exact SeqAt.EqAt.none_tuple p2 hu
  | bl z=>cases ru;exact SeqAt.EqAt.bool_tuple z p2 hu
  | int z=>obtain⟨t,rfl⟩:=ru;exact SeqAt.EqAt.int_tuple z t p2 hu
  | str z=>obtain⟨t,rfl⟩:=ru;exact SeqAt.EqAt.str_tuple z t p2 hu
  | byt z=>simp [zH] at f
  | flt z=>simp [zH] at f
  | ref z=>simp [zH] at f
  | ty z=>simp [zH] at f
 | .fl x,.ls es,A,x',y,u,w,hu,h,k,ru,rw'=>by
  simp only [IsDt] at h k
  obtain⟨rfl,f⟩:=h
  obtain⟨b,us,rfl,k1,k2⟩:=k
  cases rw'
  obtain⟨i2,r2,p2⟩:=qW I k1
  simp only [eqD]
  have hu:A.units<cLine:=by lia
  cases x' with
  | non=>cases ru;exact SeqAt.EqAt.none_list p2 hu
  | bl z=>cases ru;exact SeqAt.EqAt.bool_list z p2 hu
  | int z=>obtain⟨t,rfl⟩:=ru;exact SeqAt.EqAt.int_list z t p2 hu
  | str z=>obtain⟨t,rfl⟩:=ru;exact SeqAt.EqAt.str_list z t p2 hu
  | byt z=>simp [zH] at f
  | flt z=>simp [zH] at f
  | ref z=>simp [zH] at f
  | ty z=>simp [zH] at f
 | .tp ds,.fl y,A,x,y',u,w,hu,h,k,ru,rw'=>by
  simp only [IsDt] at h k
  obtain⟨rfl,f⟩:=k
  obtain⟨b,us,rfl,k1,k2⟩:=h
  cases ru
  obtain⟨i2,r2,p2⟩:=jd I k1
  simp only [eqD]
  have hu:A.units<cLine:=by lia
  cases y' with
  | non=>cases rw';exact SeqAt.EqAt.tuple_none p2 hu
  | bl z=>cases rw';exact SeqAt.EqAt.tuple_bool z p2 hu
  | int z=>obtain⟨t,rfl⟩:=rw';exact SeqAt.EqAt.tuple_int z t p2 hu
  | str z=>obtain⟨t,rfl⟩:=rw';exact SeqAt.EqAt.tuple_str z t p2 hu
  | byt z=>simp [zH] at f
  | flt z=>simp [zH] at f
  | ref z=>simp [zH] at f
  | ty z=>simp [zH] at f
 | .ls ds,.fl y,A,x,y',u,w,hu,h,k,ru,rw'=>by
  simp only [IsDt] at h k
  obtain⟨rfl,f⟩:=k
  obtain⟨b,us,rfl,k1,k2⟩:=h
  cases ru
  obtain⟨i2,r2,p2⟩:=qW I k1
  simp only [eqD]
  have hu:A.units<cLine:=by lia
  cases y' with
  | non=>cases rw';exact SeqAt.EqAt.list_none p2 hu
  | bl z=>cases rw';exact SeqAt.EqAt.list_bool z p2 hu
  | int z=>obtain⟨t,rfl⟩:=rw';exact SeqAt.EqAt.list_int z t p2 hu
  | str z=>obtain⟨t,rfl⟩:=rw';exact SeqAt.EqAt.list_str z t p2 hu
  | byt z=>simp [zH] at f
  | flt z=>simp [zH] at f
  | ref z=>simp [zH] at f
  | ty z=>simp [zH] at f
 | .tp ds,.ls es,A,x,y,u,w,hu,h,k,ru,rw'=>by
  simp only [IsDt] at h k
  obtain⟨a,vs,rfl,h1,h2⟩:=h
  obtain⟨b,us,rfl,k1,k2⟩:=k
  cases ru
  cases rw'
  obtain⟨i1,r1,p1⟩:=jd I h1
  obtain⟨i2,r2,p2⟩:=qW I k1
  simp only [eqD]
  exact SeqAt.EqAt.tuple_list p1 p2 (by lia)
 | .ls ds,.tp es,A,x,y,u,w,hu,h,k,ru,rw'=>by
  simp only [IsDt] at h k
  obtain⟨a,vs,rfl,h1,h2⟩:=h
  obtain⟨b,us,rfl,k1,k2⟩:=k
  cases ru
  cases rw'
  obtain⟨i1,r1,p1⟩:=qW I h1
  obtain⟨i2,r2,p2⟩:=jd I k1
  simp only [eqD]
  exact SeqAt.EqAt.list_tuple p1 p2 (by lia)
theorem xm (I:Inv X pins σ H s):∀ (ds es:List Dat) (A:Around) (xs ys:List V) (us ws:Lf),A.units+wA ds<cLine->IsDs H ds xs->IsDs H es ys->Vals xs us->Vals ys ws ->
  ∀ j (h1:j<us.toArray.size) (h2:j<ws.toArray.size),SeqAt.EqAt A s us.toArray[j] ws.toArray[j] (eqD (dGet ds j) (dGet es j))
 | [],es,A,xs,ys,us,ws,hu,h,k,ru,rw',j,h1,h2=>by
  simp only [IsDs] at h
  subst h
  have:=ru.length
  rw [ur] at h1
  simp at this
  lia
 | d::ds,[],A,xs,ys,us,ws,hu,h,k,ru,rw',j,h1,h2=>by
  simp only [IsDs] at k
  subst k
  have:=rw'.length
  rw [ur] at h2
  simp at this
  lia
 | d::ds,e::es,A,xs,ys,us,ws,hu,h,k,ru,rw',j,h1,h2=>by
  simp only [IsDs] at h k
  obtain⟨v,r,rfl,a1,a2⟩:=h
  obtain⟨v',r',rfl,b1,b2⟩:=k
  simp only [wA] at hu
  cases ru with
  | cons q1 q2=>
   cases rw' with
   | cons q3 q4=>
    cases j with
    | zero=>exact zdH I d e A _ _ _ _ (by omega) a1 b1 q1 q3
    | succ j=>
     have:=xm I ds es A _ _ _ _ (by lia) a2 b2 q2 q4 j (by simpa using h1) (by simpa using h2)
     simpa [dGet] using this
end
end
section
variable {X:Cx}
def rEqD:R2:=fun x y H Q=>∃ d e a b,x=.ref a/\y=.ref b/\IsDt H d (.ref a)/\IsDt H e (.ref b)/\depD d<=50/\Q (.bl (eqD d e)) H
def rNeD:R2:=fun x y H Q=>∃ d e a b,x=.ref a/\y=.ref b/\IsDt H d (.ref a)/\IsDt H e (.ref b)/\depD d<=50/\Q (.bl (!eqD d e)) H
theorem zdI (hu:X.A.units+64<cLine):OpR X (compareOp .Eq) rEqD:=by
 intro pins s σ H x y v u Q I rx ry h
 obtain⟨d,e,a,b,rfl,rfl,h,k,hd,q⟩:=h
 cases rx
 cases ry
 match d,e,h,k,hd,q with
 | .tp ds,.tp es,h,k,hd,q=>
  simp only [IsDt] at h k
  obtain⟨_,vs,e1,h1,h2⟩:=h
  obtain⟨_,us,e2,k1,k2⟩:=k
  cases e1
  cases e2
  obtain⟨i1,r1,p1⟩:=jd I h1
  obtain⟨i2,r2,p2⟩:=jd I k1
  simp only [depD] at hd
  refine SeqAt.eq_tupleAt (e:=fun j=>eqD (dGet ds j) (dGet es j)) p1 p2 (by lia) (xm I ds es X.A.in1 vs us i1 i2 (by show X.A.units+1+_<_;lia) h2 k2 r1 r2) ⟨.bl _,H,I,rfl,?_⟩
  rw [ZD (by rw [ur,← r1.length,h2.len]) (by rw [ur,← r2.length,k2.len])]
  exact q
 | .ls ds,.ls es,h,k,hd,q=>
  simp only [IsDt] at h k
  obtain⟨_,vs,e1,h1,h2⟩:=h
  obtain⟨_,us,e2,k1,k2⟩:=k
  cases e1
  cases e2
  obtain⟨i1,r1,p1⟩:=qW I h1
  obtain⟨i2,r2,p2⟩:=qW I k1
  have l1:=r1.length
  have l2:=r2.length
  have l3:=h2.len
  have l4:=k2.len
  simp only [depD] at hd
  by_cases hl:ds.length=es.length
  ·refine SeqAt.eq_listAt (e:=fun j=>eqD (dGet ds j) (dGet es j)) p1 p2 (by simp;lia) (by lia) (xm I ds es X.A.in1 vs us i1 i2 (by show X.A.units+1+_<_;lia) h2 k2 r1 r2) ⟨.bl _,H,I,rfl,?_⟩
   rw [ur,← l1,← l3,xY hl]
   exact q
  ·refine SeqAt.eq_list_lengthsAt p1 p2 (by simp;lia) (by lia) ⟨.bl _,H,I,rfl,?_⟩
   simp only [eqD] at q
   rw [eqDs_len hl] at q
   exact q
 | .tp ds,.ls es,h,k,hd,q=>
  simp only [IsDt] at h k
  obtain⟨_,vs,e1,h1,h2⟩:=h
  obtain⟨_,us,e2,k1,k2⟩:=k
  cases e1
  cases e2
  obtain⟨i1,r1,p1⟩:=jd I h1
  obtain⟨i2,r2,p2⟩:=qW I k1
  exact SeqAt.RcAt.tuple_list p1 p2 (by lia) _ _ _ _ ⟨.bl _,H,I,rfl,q⟩
 | .ls ds,.tp es,h,k,hd,q=>
  simp only [IsDt] at h k
  obtain⟨_,vs,e1,h1,h2⟩:=h
  obtain⟨_,us,e2,k1,k2⟩:=k
  cases e1
  cases e2
  obtain⟨i1,r1,p1⟩:=qW I h1
  obtain⟨i2,r2,p2⟩:=jd I k1
  exact SeqAt.RcAt.list_tuple p1 p2 (by lia) _ _ _ _ ⟨.bl _,H,I,rfl,q⟩
 | .fl x,e,h,k,hd,q=>simp only [IsDt] at h;obtain⟨rfl,f⟩:=h;simp [zH] at f
 | .tp ds,.fl x,h,k,hd,q=>simp only [IsDt] at k;obtain⟨rfl,f⟩:=k;simp [zH] at f
 | .ls ds,.fl x,h,k,hd,q=>simp only [IsDt] at k;obtain⟨rfl,f⟩:=k;simp [zH] at f
theorem zdJ (hu:X.A.units+64<cLine):OpR X (compareOp .NotEq) rNeD:=by
 intro pins s σ H x y v u Q I rx ry h
 obtain⟨d,e,a,b,rfl,rfl,h,k,hd,q⟩:=h
 cases rx
 cases ry
 match d,e,h,k,hd,q with
 | .tp ds,.tp es,h,k,hd,q=>
  simp only [IsDt] at h k
  obtain⟨_,vs,e1,h1,h2⟩:=h
  obtain⟨_,us,e2,k1,k2⟩:=k
  cases e1
  cases e2
  obtain⟨i1,r1,p1⟩:=jd I h1
  obtain⟨i2,r2,p2⟩:=jd I k1
  simp only [depD] at hd
  refine SeqAt.RcNeAt.tuples (e:=fun j=>eqD (dGet ds j) (dGet es j)) p1 p2 (by lia) (xm I ds es X.A.in1 vs us i1 i2 (by show X.A.units+1+_<_;lia) h2 k2 r1 r2) _ _ _ _ ⟨.bl _,H,I,rfl,?_⟩
  rw [ZD (by rw [ur,← r1.length,h2.len]) (by rw [ur,← r2.length,k2.len])]
  exact q
 | .ls ds,.ls es,h,k,hd,q=>
  simp only [IsDt] at h k
  obtain⟨_,vs,e1,h1,h2⟩:=h
  obtain⟨_,us,e2,k1,k2⟩:=k
  cases e1
  cases e2
  obtain⟨i1,r1,p1⟩:=qW I h1
  obtain⟨i2,r2,p2⟩:=qW I k1
  have l1:=r1.length
  have l2:=r2.length
  have l3:=h2.len
  have l4:=k2.len
  simp only [depD] at hd
  by_cases hl:ds.length=es.length
  ·refine SeqAt.RcNeAt.lists (e:=fun j=>eqD (dGet ds j) (dGet es j)) p1 p2 (by simp;lia) (by lia) (xm I ds es X.A.in1 vs us i1 i2 (by show X.A.units+1+_<_;lia) h2 k2 r1 r2) _ _ _ _ ⟨.bl _,H,I,rfl,?_⟩
   rw [ur,← l1,← l3,xY hl]
   exact q
  ·refine SeqAt.RcNeAt.lists_lengths p1 p2 (by simp;lia) (by lia) _ _ _ _ ⟨.bl _,H,I,rfl,?_⟩
   simp only [eqD] at q
   rw [eqDs_len hl] at q
   exact q
 | .tp ds,.ls es,h,k,hd,q=>
  simp only [IsDt] at h k
  obtain⟨_,vs,e1,h1,h2⟩:=h
  obtain⟨_,us,e2,k1,k2⟩:=k
  cases e1
  cases e2
  obtain⟨i1,r1,p1⟩:=jd I h1
  obtain⟨i2,r2,p2⟩:=qW I k1
  exact SeqAt.RcNeAt.tuple_list p1 p2 (by lia) _ _ _ _ ⟨.bl _,H,I,rfl,q⟩
 | .ls ds,.tp es,h,k,hd,q=>
  simp only [IsDt] at h k
  obtain⟨_,vs,e1,h1,h2⟩:=h
  obtain⟨_,us,e2,k1,k2⟩:=k
  cases e1
  cases e2
  obtain⟨i1,r1,p1⟩:=qW I h1
  obtain⟨i2,r2,p2⟩:=jd I k1
  exact SeqAt.RcNeAt.list_tuple p1 p2 (by lia) _ _ _ _ ⟨.bl _,H,I,rfl,q⟩
 | .fl x,e,h,k,hd,q=>simp only [IsDt] at h;obtain⟨rfl,f⟩:=h;simp [zH] at f
 | .tp ds,.fl x,h,k,hd,q=>simp only [IsDt] at k;obtain⟨rfl,f⟩:=k;simp [zH] at f
 | .ls ds,.fl x,h,k,hd,q=>simp only [IsDt] at k;obtain⟨rfl,f⟩:=k;simp [zH] at f
end
abbrev Tx:=Lc
def tx (x:Tx):V:=.str (S x)
noncomputable abbrev lt:Tx:=[97,98,99,100,101,102,103,104,105,106,107,108,109,110,111,112,113,114,115,116,117,118,119,120,121,122]
theorem vU {α:Type}(xs:List α):atI xs (-1)=xs.getLast?:=by
 unfold atI ixN
 rw [uy (by decide)]
 cases xs with
 | nil=>rfl
 | cons x xs=>
  rw [uz (by rw [ua];lia),List.getLast?_eq_getElem?]
  simp only [uJ]
  congr 1
  simp
  lia
end L2
namespace L2
open PySem PySem.Spec PyProof.Rows
section
variable {κ:Type} [DecidableEq κ]
noncomputable def valV (kvs:List (κ×V))(k:κ):Option V:=(kvs.find? fun kv=>decide (kv.1=k)).map (·.2)
noncomputable def putK (kvs:List (κ×V))(k:κ)(v:V):List (κ×V):=
 if (kvs.any fun kv=>decide (kv.1=k))=true then kvs.map (fun kv=>if kv.1=k then(kv.1,v) else kv) else kvs++[(k,v)]
theorem yL {p:κ×V}{r:List (κ×V)}{k:κ}(e:p.1=k):valV (p::r) k=some p.2:=by simp [valV,Ur,e]
theorem yM {p:κ×V}{r:List (κ×V)}{k:κ}(e:¬ p.1=k):valV (p::r) k=valV r k:=by simp [valV,Ur,e]
theorem J7 (k:κ):∀ kvs:List (κ×V),(kvs.any fun kv=>decide (kv.1=k))=(valV kvs k).isSome
 | []=>rfl
 | p::r=>by
  rw [Ui]
  by_cases e:p.1=k
  ·simp only [yL e,UG e,Bool.true_or,Option.isSome_some]
  ·rw [yM e,uV e,gz];exact J7 k r
theorem kY (kvs:List (κ×V))(k:κ)(v:V):(putK kvs k v).length<=kvs.length+1:=by
 unfold putK
 split
 ·rw [uh];lia
 ·rw [uf,ua,uk];lia
theorem RelO.isSome_eq {o:Option V}{u:Option Value}(r:RelO o u):o.isSome=u.isSome:=by
 cases o with
 | none=>cases u with
  | none=>rfl
  | some _=>exact(show False from r).elim
 | some _=>cases u with
  | none=>exact(show False from r).elim
  | some _=>rfl
theorem RelO.getD {o:Option V}{u:Option Value}{d:V}{d':Value}(r:RelO o u)(rd:RelV d d'):RelV (o.getD d) (u.getD d'):=by
 cases o with
 | none=>cases u with
  | none=>exact rd
  | some _=>exact(show False from r).elim
 | some _=>cases u with
  | none=>exact(show False from r).elim
  | some _=>exact r
theorem KV.val {kvs:List (κ×V)}{vs:List (κ×Value)}(r:KV kvs vs)(k:κ):RelO (valV kvs k) (valueAt vs k):=by
 unfold KV at r
 induction r with
 | nil=>exact True.intro
 | @cons p q ps qs h t ih=>
  obtain⟨h1,h2⟩:=h
  by_cases e:p.1=k
  ·have e':q.1=k:=h1.symm.trans e
   have b:valueAt (q::qs) k=some q.2:=by simp [valueAt,Ur,e']
   rw [yL e,b];exact h2
  ·have e':¬ q.1=k:=fun z=>e (h1.trans z)
   have b:valueAt (q::qs) k=valueAt qs k:=by simp [valueAt,Ur,e']
   rw [yM e,b];exact ih
theorem KV.any {kvs:List (κ×V)}{vs:List (κ×Value)}(r:KV kvs vs)(k:κ):(kvs.any fun kv=>decide (kv.1=k))=vs.any fun kv=>decide (kv.1=k):=by
 unfold KV at r
 induction r with
 | nil=>rfl
 | cons h t ih=>rw [Ui,Ui,ih,h.1]
theorem KV.repl {kvs:List (κ×V)}{vs:List (κ×Value)}(r:KV kvs vs)(k:κ){y:V}{u:Value}(ry:RelV y u) :
  KV (kvs.map fun kv=>if kv.1=k then(kv.1,y) else kv) (vs.map fun kv=>if kv.1=k then(kv.1,u) else kv):=by
 unfold KV at r ⊢
 induction r with
 | nil=>exact .nil
 | @cons p q ps qs h t ih=>
  rw [uA,uA]
  refine .cons ?_ ih
  obtain⟨h1,h2⟩:=h
  by_cases e:p.1=k
  ·rw [uz e,uz (h1.symm.trans e)];exact⟨h1,ry⟩
  ·rw [uy e,uy (fun z=>e (h1.trans z))];exact⟨h1,h2⟩
theorem KV.put {kvs:List (κ×V)}{vs:List (κ×Value)}(r:KV kvs vs)(k:κ){y:V}{u:Value}(ry:RelV y u):KV (putK kvs k y) (stored vs k u):=by
 unfold putK stored
 rw [r.any k]
 by_cases e:(vs.any fun kv=>decide (kv.1=k))=true
 ·rw [uz e,uz e];exact r.repl k ry
 ·rw [uy e,uy e];exact Paired.snoc r ⟨rfl,ry⟩
theorem KV.length {kvs:List (κ×V)}{vs:List (κ×Value)}(r:KV kvs vs):kvs.length=vs.length:=Paired.length r
end
theorem J8 {P:Program}{w:World}{k:Key}{u:Value}(r:RelV (kV k) u):(zU P w).is k u=true:=by
 cases k with
 | inl i=>obtain⟨t,e⟩:=(show ∃ t,u=Value.int i t from r);subst e;exact JT P w i t
 | inr x=>obtain⟨t,e⟩:=(show ∃ t,u=Value.str x t from r);subst e;exact JU P w x t
theorem QS {P:Program}{w:World}:∀ {ks:List Key} {us:Lf},Vals (ks.map kV) us->ItemsAre (zU P w) ks us
 | [],_,r=>by rw [gm] at r;cases r;exact .nil
 | k::ks,_,r=>by
  rw [uA] at r
  cases r with
  | cons h t=>exact .cons (J8 h) (QS t)
abbrev KT (H:Hp):List (List Key×V)->List (List Key×Addr×Value)->Prop:=Paired fun p q=>p.1=q.1/\H q.2.1=some (.tup (p.1.map kV))/\RelV p.2 q.2.2
theorem KT.val {H:Hp}{kvs:List (List Key×V)}{xs:List (List Key×Addr×Value)}(r:KT H kvs xs)(k:List Key):RelO (valV kvs k) ((atKey xs k).map (·.2)):=by
 induction r with
 | nil=>exact True.intro
 | @cons p q ps qs h t ih=>
  obtain⟨h1,_,h2⟩:=h
  by_cases e:p.1=k
  ·have e':q.1=k:=h1.symm.trans e
   have b:atKey (q::qs) k=some q.2:=by simp [atKey,Ur,e']
   rw [yL e,b];exact h2
  ·have e':¬ q.1=k:=fun z=>e (h1.trans z)
   have b:atKey (q::qs) k=atKey qs k:=by simp [atKey,Ur,e']
   rw [yM e,b];exact ih
theorem KT.repl {H:Hp}{kvs:List (List Key×V)}{xs:List (List Key×Addr×Value)}(r:KT H kvs xs)(k:List Key){y:V}{u:Value}(ry:RelV y u) :
  KT H (kvs.map fun kv=>if kv.1=k then(kv.1,y) else kv) (xs.map (putAt k u)):=by
 induction r with
 | nil=>exact .nil
 | @cons p q ps qs h t ih=>
  rw [uA,uA]
  refine .cons ?_ ih
  obtain⟨h1,h2,h3⟩:=h
  unfold putAt
  by_cases e:p.1=k
  ·rw [uz e,uz (h1.symm.trans e)];exact⟨h1,h2,ry⟩
  ·rw [uy e,uy (fun z=>e (h1.trans z))];exact⟨h1,h2,h3⟩
theorem KT.put {H:Hp}{kvs:List (List Key×V)}{xs:List (List Key×Addr×Value)}(r:KT H kvs xs)(k:List Key){b:Addr}{y:V}{u:Value}(hb:H b=some (.tup (k.map kV)))(ry:RelV y u) :
  KT H (putK kvs k y) (storedH xs k b u):=by
 have e:(kvs.any fun kv=>decide (kv.1=k))=(atKey xs k).isSome:=by
  rw [J7,(r.val k).isSome_eq,gE]
 unfold putK storedH
 rw [e]
 by_cases q:(atKey xs k).isSome=true
 ·rw [uz q,uz q];exact r.repl k ry
 ·rw [uy q,uy q];exact Paired.snoc r ⟨rfl,hb,ry⟩
theorem KT.keeps {H H':Hp}{kvs:List (List Key×V)}{xs:List (List Key×Addr×Value)}(r:KT H kvs xs)(ht:∀ b ys,H b=some (.tup ys)->H' b=some (.tup ys)):KT H' kvs xs:=
 Paired.mapP r fun _ _ z=>⟨z.1,ht _ _ z.2.1,z.2.2⟩
section
variable {P:Program} {w:World} {H:Hp} {h:Heap} {a:Addr}
theorem zcu {u:HO}(ok:HOk P w H h)(e:Rd H a u):qw P w H h a u:=e.ok ok
theorem Kf {kvs:List (Key×V)}(ok:HOk P w H h)(e:Rd H a (.dK kvs)):kvs.length<=sizeLine/\(a == sysModules)=false/\∃ vs,KV kvs vs/\h.DictOf (zU P w) a vs:=
 show qw P w H h a (.dK kvs) from zcu ok e
theorem zft {kvs:List (Key×V)}(ok:HOk P w H h)(e:H a=some (.dK kvs)):kvs.length<=sizeLine/\(a == sysModules)=false/\∃ vs,KV kvs vs/\h.DictOf (zU P w) a vs:=Kf ok (.inl e)
theorem Ji {ks:List Key}(ok:HOk P w H h)(e:H a=some (.tup (ks.map kV))):(tupleKind (zU P w)).is h ks a:=by
 obtain⟨_,its,r,o,h1,h2,n,h3⟩:=(show qw P w H h a (.tup (ks.map kV)) from ok a _ e)
 exact⟨o,its.toArray,n,h1,h2,h3,by simpa using QS r⟩
theorem Kg {kvs:List (List Key×V)}(ok:HOk P w H h)(e:Rd H a (.dT kvs)):kvs.length<=sizeLine/\(a == sysModules)=false /\
  ∃ xs,KT H kvs xs/\h.DictOfH (tupleKind (zU P w)) a xs:=by
 obtain⟨z,y,xs,r,o,es,ep,h1,h2,h3,h4,h5⟩:=(show qw P w H h a (.dT kvs) from zcu ok e)
 refine⟨z,y,xs,r,o,es,ep,h1,h2,h3,h4,fun x hx=>?_,h5⟩
 have all:∀ {l:List (List Key×V)} {m:List (List Key×Addr×Value)},KT H l m->∀ x∈m,(tupleKind (zU P w)).is h x.1 x.2.1:=by
  intro l m q
  induction q with
  | nil=>intro x hx;exact nomatch hx
  | @cons p q ps qs hq t ih=>
   intro x hx
   rcases um.mp hx with e | hx
   ·subst e
    exact Ji ok (by rw [← hq.1];exact hq.2.1)
   ·exact ih x hx
 exact all r x hx
theorem zfu {kvs:List (List Key×V)}(ok:HOk P w H h)(e:H a=some (.dT kvs)):kvs.length<=sizeLine/\(a == sysModules)=false /\
  ∃ xs,KT H kvs xs/\h.DictOfH (tupleKind (zU P w)) a xs:=Kg ok (.inl e)
end
def DGet (H:Hp)(a:Addr)(y:V)(r:Option V):Prop:=
 (∃ kvs k,Rd H a (.dK kvs)/\y=kV k/\r=valV kvs k)\/∃ kvs k b,Rd H a (.dT kvs)/\y=.ref b/\H b=some (.tup (k.map kV))/\r=valV kvs k
def DPut (H:Hp)(a:Addr)(y v:V)(H':Hp):Prop:=
 (∃ kvs k,H a=some (.dK kvs)/\y=kV k/\kvs.length<sizeLine/\H' = upd H a (.dK (putK kvs k v))) \/
 ∃ kvs k b,H a=some (.dT kvs)/\y=.ref b/\H b=some (.tup (k.map kV))/\kvs.length<sizeLine/\H' = upd H a (.dT (putK kvs k v))
theorem DGet.k {H:Hp}{a:Addr}{kvs:List (Key×V)}{k:Key}(e:H a=some (.dK kvs)):DGet H a (kV k) (valV kvs k):=.inl ⟨kvs,k,.inl e,rfl,rfl⟩
theorem DGet.t {H:Hp}{a b:Addr}{kvs:List (List Key×V)}{k:List Key}(e:H a=some (.dT kvs))(eb:H b=some (.tup (k.map kV))):DGet H a (.ref b) (valV kvs k):=.inr ⟨kvs,k,b,.inl e,rfl,eb,rfl⟩
theorem DPut.k {H:Hp}{a:Addr}{kvs:List (Key×V)}{k:Key}{v:V}(e:H a=some (.dK kvs))(hl:kvs.length<sizeLine):DPut H a (kV k) v (upd H a (.dK (putK kvs k v))):=.inl ⟨kvs,k,e,rfl,hl,rfl⟩
theorem DPut.t {H:Hp}{a b:Addr}{kvs:List (List Key×V)}{k:List Key}{v:V}(e:H a=some (.dT kvs))(eb:H b=some (.tup (k.map kV)))(hl:kvs.length<sizeLine) :
  DPut H a (.ref b) v (upd H a (.dT (putK kvs k v))):=.inr ⟨kvs,k,b,e,rfl,eb,hl,rfl⟩
section
variable {X:Cx} {pins:List (Addr×Obj)} {σ:St} {H:Hp} {s:Shared} {a:Addr} {y v:V} {u r:Value} {o:Option V} {A:Around} {E:Value->Shared->Prop}
theorem d_in {Q:Value->Shared->Prop}(hu:A.units+1<cLine)(I:Inv X pins σ H s)(g:DGet H a y o)(ry:RelV y u)(h:∀ s',Inv X pins σ H s'->Q (.bool o.isSome) s') :
  wpAny (model X.prog X.w) A (compareOp .In u (.ref a)) Q E s:=by
 rcases g with⟨kvs,k,e,ey,l⟩ | ⟨kvs,k,b,e,ey,eb,l⟩
 ·subst ey
  obtain⟨z,hd,vs,rel,dd⟩:=Kf I.hok e
  refine wpAny_in_of (J8 ry) hd dd.mapOf ?_
  rw [← (rel.val k).isSome_eq,← l]
  exact h _ (I.tok _)
 ·subst ey
  cases (show u=Value.ref b from ry)
  obtain⟨z,hd,xs,rel,dd⟩:=Kg I.hok e
  refine wpAny_in_heap (tupleKind_room_in1 hu) (Ji I.hok eb) hd dd ?_
  have q:=(rel.val k).isSome_eq
  rw [gE] at q
  rw [← q,← l]
  exact h _ (I.tok _)
theorem zbC {Q:Value->Shared->Prop}(hu:A.units+1<cLine)(I:Inv X pins σ H s)(g:DGet H a y o)(ry:RelV y u)(h:∀ s',Inv X pins σ H s'->Q (.bool (!o.isSome)) s') :
  wpAny (model X.prog X.w) A (compareOp .NotIn u (.ref a)) Q E s:=by
 rcases g with⟨kvs,k,e,ey,l⟩ | ⟨kvs,k,b,e,ey,eb,l⟩
 ·subst ey
  obtain⟨z,hd,vs,rel,dd⟩:=Kf I.hok e
  refine wpAny_notIn_of (J8 ry) hd dd.mapOf ?_
  rw [← (rel.val k).isSome_eq,← l]
  exact h _ (I.tok _)
 ·subst ey
  cases (show u=Value.ref b from ry)
  obtain⟨z,hd,xs,rel,dd⟩:=Kg I.hok e
  refine wpAny_notIn_heap (tupleKind_room_in1 hu) (Ji I.hok eb) hd dd ?_
  have q:=(rel.val k).isSome_eq
  rw [gE] at q
  rw [← q,← l]
  exact h _ (I.tok _)
theorem Vc {h':Heap}{t':Nat}{ob:HO}(I:Inv X pins σ H s)(mu:Mut (H a))(hs:Heap.SameBut a s.heap h')(he:∃ q,h'.get? a=some q)(new:qw X.prog X.w (upd H a ob) h' a ob) :
  Inv X pins σ (upd H a ob) { s with heap:=h',toks:=t' }:=
 I.write (x:=a) (e:=a) mu (.inl rfl) (fun b q hb z=>(hs.2 b hb).trans z) he new
theorem zdK {P:Program}{w:World}{H':Hp}{h':Heap}{kvs:List (Key×V)}{vs:List (Key×Value)}(z:kvs.length<=sizeLine)(hd:(a == sysModules)=false)(rel:KV kvs vs)(dd:h'.DictOf (zU P w) a vs) :
  qw P w H' h' a (.dK kvs):=⟨z,hd,vs,rel,dd⟩
theorem Yh {H':Hp}{Q:Unit->Shared->Prop}(hu:A.units+1<cLine)(I:Inv X pins σ H s)(g:DPut H a y v H')(ry:RelV y u)(rv:RelV v r)(h:∀ s',Inv X pins σ H' s'->Q () s') :
  wpAny (model X.prog X.w) A (setItem (.ref a) u r) Q E s:=by
 rcases g with⟨kvs,k,e,ey,l,eH⟩ | ⟨kvs,k,b,e,ey,eb,l,eH⟩
 ·subst ey eH
  obtain⟨z,hd,vs,rel,dd⟩:=zft I.hok e
  have hz:vs.length<=sizeLine:=by rw [← rel.length];exact z
  have hl:(putK kvs k v).length<=sizeLine:=by have:=kY kvs k v;lia
  refine wpAny_setItem_pairs (hsz:=hz) (J8 ry) dd fun h' dd' hs=>h _ ?_
  have he:∃ q,h'.get? a=some q:=let ⟨q,_,_,hq,_⟩:=dd';⟨q,hq⟩
  exact Vc I (by rw [e];exact True.intro) hs he (zdK hl hd (rel.put k rv) dd')
 ·subst ey eH
  cases (show u=Value.ref b from ry)
  obtain⟨z,hd,xs,rel,dd⟩:=zfu I.hok e
  have hz:xs.length<=sizeLine:=by rw [← Paired.length rel];exact z
  have hl:(putK kvs k v).length<=sizeLine:=by have:=kY kvs k v;lia
  refine wpAny_setItem_heap (hsz:=hz) (tupleKind_room_in1 hu) (Ji I.hok eb) dd fun h' dd' hs=>h _ ?_
  obtain⟨q,es,ep,hq,h2,h3,h4,_,h5⟩:=dd'
  refine Vc I (by rw [e];exact True.intro) hs ⟨q,hq⟩ ⟨hl,hd,_,(rel.put k eb rv).keeps fun c ys ec=>?_,q,es,ep,hq,h2,h3,h4,h5⟩
  rw [zt (zfa ec e (fun z=>nomatch z))]
  exact ec
end
section
variable {X:Cx} {pins:List (Addr×Obj)} {σ:St} {H:Hp} {s:Shared} {a:Addr} {kvs:List (Key×V)} {k:Key} {u:Value} {A:Around} {E:Value->Shared->Prop}
end
section
variable {X:Cx} {o i e value:Expr} {pos pos' tpos:Pos} {td ty tv:TE}
end
section
variable {X:Cx} {pos:Pos}
end
structure M1 (X:Cx)(o:Expr)(m:Str)(apos:Pos)(e:Expr)(cpos:Pos):Prop where
 base:attributeBase o m X.env (eval o X.env)=eval o X.env
 few:((backTo cpos (starEach [e] X.env)).all (fun x=>!x.1)&&(backToKw cpos (keywordEach [] X.env)).all (fun x=>x.1.isSome)
  && decide (([e]:Lg).length+([]:List Keyword).length+(if ([]:List Keyword).isEmpty then 0 else 1)<30))=true
 line:(apos.endLine == cpos.line)=true
 trees:backTo cpos (starEach [e] X.env)=[(false,eval e X.env)]
structure M2 (X:Cx)(o:Expr)(m:Str)(apos:Pos)(e f:Expr)(cpos:Pos):Prop where
 base:attributeBase o m X.env (eval o X.env)=eval o X.env
 few:((backTo cpos (starEach [e,f] X.env)).all (fun x=>!x.1)&&(backToKw cpos (keywordEach [] X.env)).all (fun x=>x.1.isSome)
  && decide (([e,f]:Lg).length+([]:List Keyword).length+(if ([]:List Keyword).isEmpty then 0 else 1)<30))=true
 line:(apos.endLine == cpos.line)=true
 trees:backTo cpos (starEach [e,f] X.env)=[(false,eval e X.env),(false,eval f X.env)]
section
variable {X:Cx} {pins:List (Addr×Obj)} {σ:St} {H:Hp} {s:Shared} {a:Addr} {y d:V} {u r:Value} {o:Option V} {A:Around} {E:Value->Shared->Prop}
end
section
variable {X:Cx} {o e f:Expr} {apos cpos:Pos} {td ty tx:TE}
end
section
variable {X:Cx} {pins:List (Addr×Obj)} {σ:St} {H:Hp} {s:Shared} {a:Addr} {kvs:List (Key×V)} {A:Around} {E:Value->Shared->Prop}
end
section
variable {X:Cx} {pins:List (Addr×Obj)} {σ:St} {H:Hp} {s:Shared} {a:Addr} {y:V} {u:Value} {A:Around} {E:Value->Shared->Prop}
end
end L2
namespace L2
open PySem PySem.Spec PySem.Calls PyProof.Rows PySem.W
theorem J9:bootBuiltins "tuple" = some (.type "tuple"):=by decide +kernel
section
variable {X:Cx} {k j:Nat} {x:Str} {p pos:Pos} {e:Expr} {es:Lg} {tf:TE} {t:TA}
end
inductive EntK (w:World):List DictEntry->List (Key×V)->Prop
 | nil:EntK w [] []
 | cons {e:DictEntry} {k:Key} {v:V} {es:List DictEntry} {kvs:List (Key×V)}:e.hash=keyH w k->Zs k e.key=true->RelV v e.val->EntK w es kvs->EntK w (e::es) ((k,v)::kvs)
theorem EntK.keys {P:Program}{w:World}{es:List DictEntry}{kvs:List (Key×V)}(h:EntK w es kvs):∀ e∈es,∃ k,(zU P w).is k e.key=true/\e.hash=(zU P w).hash k:=by
 induction h with
 | nil=>intro e he;cases he
 | cons h1 h2 h3 h4 ih=>
  intro e he
  rcases um.mp he with rfl | he
  ·exact⟨_,h2,h1⟩
  ·exact ih e he
theorem EntK.pairs {P:Program}{w:World}{es:List DictEntry}{kvs:List (Key×V)}(h:EntK w es kvs):∃ vs:List (Key×Value),PySem.Pairs (zU P w) es vs/\KV kvs vs/\vs.map (·.1)=kvs.map (·.1):=by
 induction h with
 | nil=>exact⟨[],.nil,.nil,rfl⟩
 | @cons e k v es kvs h1 h2 h3 h4 ih=>
  obtain⟨vs,i1,i2,i3⟩:=ih
  exact⟨(k,e.val)::vs,.cons h2 rfl i1,.cons ⟨rfl,h3⟩ i2,by rw [uA,uA,i3]⟩
def Wa (w:World)(K:Frag)(a:Addr)(kvs:List (Key×V)):Prop:=(a == sysModules)=false/\∃ o es ep,K.lookup a=some o/\o.ExactDict/\o.data=.dict es ep/\EntK w es.toList kvs/\(kvs.map (·.1)).Nodup
section
variable {X:Cx} {pins:List (Addr×Obj)} {σ:L2.St} {H:Hp} {s:Shared} {a:Addr} {kvs:List (Key×V)}
theorem Wa.at (I:Inv X pins σ H s)(h:Wa X.w X.K a kvs):(a == sysModules)=false/\∃ vs,KV kvs vs/\s.heap.DictOf (zU X.prog X.w) a vs:=by
 obtain⟨h0,o,es,ep,h1,h2,h3,h4,h5⟩:=h
 obtain⟨vs,i1,i2,i3⟩:=h4.pairs (P:=X.prog)
 exact⟨h0,vs,i2,o,es,ep,I.kIn a o h1,h2,h3,fun e he=>h4.keys (P:=X.prog) e (by simpa using he),i1,by rw [i3];exact h5⟩
end
section
variable {X:Cx} {x:Str} {p apos cpos:Pos} {e f:Expr} {ty tx':TE} {kvs:List (Key×V)}
end
section
variable {X:Cx} {a:Expr} {ta:TE}
def zcv (K:Frag)(ta:TE):TT:=fun σ H Q=>ta σ H fun x H'=>∃ k,TruV K x H' k/\Q k H'
theorem Yi {K:Frag}(hK:X.K=K)(ha:PE X a ta)(he:∀ whole,isTrue a X.env whole=(do let v ← whole;standAt a.pos;holding [v] (truthy v))):PT X a (zcv K ta):=by
 subst hK
 exact YO ha he
end
section
variable {X:Cx}
def rIsA (K:Frag)(n:String):List V->Hp->VK->Prop:=fun xs H Q=>∃ x t b,xs=[x,.ty n]/\TyOf K H x t/\PySem.W.kitOne K t (.type n)=some b/\Q (.bl b) H
theorem Yj {K:Frag}{n:String}(hK:X.K=K):jc X (.builtin "isinstance") (rIsA K n):=by
 subst hK
 intro pins s σ H xs us Q I r h
 obtain⟨x,t,b,rfl,ty,e,q⟩:=h
 exact J2 pins s σ H _ us Q I r ⟨x,n,t,b,rfl,ty,e,q⟩
end
section
variable {X:Cx} {pins:List (Addr×Obj)} {σ:L2.St} {H:Hp} {s:Shared} {h':Heap}
end
section
variable {X:Cx}
end
section
variable {X:Cx}
end
section
variable {X:Cx} {K:Frag} {o:Expr} {to:TE} {name:Str} {apos cpos:Pos} {T id:String} {r:V->List V->Hp->VK->Prop}
theorem zbD (hK:X.K=K)(pa:PlainAttrs T)(slot:Slot T name id)(hty:typeOf (.builtin id)=pure (.type "method_descriptor"))(hm:MtR X id r)(ho:PE X o to)
  (hbase:attributeBase o name X.env (eval o X.env)=eval o X.env) (hline:(apos.endLine == cpos.line)=true):PE X (.Call (.Attribute o name apos) [] [] cpos) (tBM0 K T r to):=by
 subst hK
 exact zdz pa slot hty hm ho hbase hline
end
end L2
namespace HT
open PySem PySem.Spec PySem.Calls PyProof.Rows PySem.W
section
variable {prog:Program} {w:World} {A:Around} {E:Value->Shared->Prop} {s:Shared}
end
end HT
namespace L2
open PySem PySem.Spec PySem.Calls PyProof.Rows PySem.W
section
variable {X:Cx}
end
structure QE (X:Cx)(e:Expr)(t:TE):Prop where
 h:PE X e t
section
set_option autoImplicit true
set_option relaxedAutoImplicit true
theorem qv {X:Cx}(i:Nat){x:Str}{pos:Pos}(hN:X.N[i]? = some x) (hv:Vis X.env.scope x:=by first | exact Or.inl rfl | exact Or.inr (Or.inl rfl) | exact Or.inr (Or.inr rfl)) (hd:(x == ("__debug__":Str))=false)
  (hcd:(x == ("__classdict__":Str))=false):QE X (.Name x pos) (tVar i):=⟨pv (i:=i) (hN:=hN) (hv:=hv) (hd:=hd) (hcd:=hcd)⟩
end
set_option autoImplicit false
section
variable {X:Cx} {pins:List (Addr×Obj)} {σ:St} {H:Hp} {s:Shared} {a b:Addr} {kvs more:List (Key×V)} {A:Around} {E:Value->Shared->Prop}
end
section
variable {X:Cx} {o e:Expr} {apos cpos:Pos} {td ty:TE}
end
end L2
namespace L2
open PySem PySem.Spec PyProof.Rows
section
variable {X:Cx} {tg:Expr}
end
section
variable {X:Cx} {elt iter:Expr} {x:Str} {px pos:Pos} {ifs:Lg} {scope:Scope} {wi:TI} {tt:TT} {te:TE}
end
section
variable {X:Cx}
def rIsB:R2:=fun x y H Q=>∃ c,y=.bl c/\((∃ b,x=.bl b/\Q (.bl (b == c)) H))
def Ve:R2:=fun x y H Q=>∃ c,y=.bl c/\((∃ b,x=.bl b/\Q (.bl (!(b == c))) H))
theorem QT (b c:Bool):isSame (.bool b) (.bool c)=pure (b == c):=by cases b<;>cases c<;>rfl
theorem zdL:OpR X (compareOp .Is) rIsB:=by
 intro pins s σ H x y v u Q I rx ry h
 obtain⟨c,rfl,b,rfl,q⟩:=h
 cases rx
 cases ry
 show wpAny _ _ (do let r ← isSame (.bool b) (.bool c);pure (Value.bool r)) _ _ s
 rw [QT]
 exact wpAny_bind (wpAny_pure (wpAny_pure (zy I q rfl)))
theorem Yk:OpR X (compareOp .IsNot) Ve:=by
 intro pins s σ H x y v u Q I rx ry h
 obtain⟨c,rfl,b,rfl,q⟩:=h
 cases rx
 cases ry
 show wpAny _ _ (do let r ← isSame (.bool b) (.bool c);pure (Value.bool !r)) _ _ s
 rw [QT]
 exact wpAny_bind (wpAny_pure (wpAny_pure (zy I q rfl)))
def zcw:List V->Hp->VK->Prop:=fun xs H Q=>∃ (p:Addr) (bs:List Bool),xs=[.ref p]/\H p=some (.lst (bs.map V.bl))/\Q (.bl (bs.all id)) H
theorem Vf:∀ {bs:List Bool} {us:Lf},Vals (bs.map V.bl) us->us=bs.map Value.bool
 | [],_,h=>by cases h;rfl
 | b::bs,_,h=>by
  cases h with
  | cons a r=>
   cases a
   rw [Vf r]
   rfl
theorem Yl (hc:X.calm=true):jc X (.builtin "all") zcw:=by
 intro pins s σ H xs us Q I r h
 obtain⟨p,bs,rfl,hp,q⟩:=h
 obtain⟨u,rfl,hu⟩:=vals1 r
 cases hu
 obtain⟨its,rv,hl⟩:=qW I hp
 have e:=Vf rv
 subst e
 have hlt:p<s.heap.objs.size:=by
  obtain⟨o,ho,_⟩:=hl
  exact Heap.lt_size ho
 refine call_all_walk (wpAny_pyIter_list hl ?_)
 refine⟨s.heap.objs.size,_,_,_,_,_,fun i=>bs.getD i false,rfl,Walks.list (A:=X.A.in1) (I.ok.hd hc) _ p (Ud hlt) (bs.map Value.bool).toArray,⟨⟨_,Heap.get?_push_size _ rfl,rfl,rfl⟩,?_⟩,?_,fun h' tk kp=>?_⟩
 ·obtain⟨o,ho,h1⟩:=hl
  exact⟨o,Heap.get?_push_of_some _ ho,h1⟩
 ·intro i v s' R E' hv hR
  have hv:(bs.map Value.bool)[i]? = some v:=by simpa using hv
  rw [uD] at hv
  cases hb:bs[i]? with
  | none=>rw [hb] at hv;cases hv
  | some b=>
   rw [hb] at hv
   cases hv
   have hR:R (bs.getD i false) s':=hR
   rw [uI,hb] at hR
   exact wpAny_truthy_bool hR
 ·have I1:Inv X pins σ H { s with heap:=h',toks:=tk }:=I.kept fun b o e=>kp b o (by
   have:=Heap.lt_size e
   intro z
   rw [ui.mp z] at this
   exact u9 _ this) (Heap.get?_push_of_some _ e)
  refine⟨.bl (bs.all id),H,I1,?_,q⟩
  show Value.bool _=Value.bool _
  congr 1
  rw [show(bs.map Value.bool).toArray.size=bs.length by simp]
  rw [UP,UM,UM]
  constructor
  ·intro h x hx
   obtain⟨n,hn,rfl⟩:=List.mem_iff_getElem.mp hx
   have:=h n (gL.mpr hn)
   rw [uI,uq hn] at this
   exact this
  ·intro h n hn
   have hn:=gL.mp hn
   rw [uI,uq hn]
   exact h _ (Uu hn)
end
section
variable {X:Cx}
end
theorem zdM:bootBuiltins "all" = some (.builtin "all"):=by decide +kernel
section
variable {X:Cx} {a b c:Expr} {ta tb tc:TE} {pos:Pos}
end
section
variable {X:Cx}
end
section
variable {prog:Program} {w:World} {A:Around} {E:Value->Shared->Prop} {s:Shared}
end
section
variable {X:Cx} {tg:Expr}
end
section
variable {X:Cx}
variable {st:Stmt} {rest:List Stmt} {t u:TS}
end
section
variable {X:Cx} {pos:Pos}
end
section
variable {X:Cx} {e:Expr} {te:TE} {pos p2:Pos} {K:Le}
end
variable {X:Cx}
def Kh:V->List V->Hp->VK->Prop:=fun x vs H Q=>∃ (l y:Lc) (i:Int),x=.str (S l)/\vs=[.str (S y),.int i]/\Q (.int (Txt.find3 (S l) (S y) i)) H
theorem Ki:MtR X "str.find" Kh:=by
 intro pins s σ H x xs v us Q I rx rs h
 obtain⟨l,y,i,rfl,rfl,q⟩:=h
 obtain⟨t,rfl⟩:=rx
 cases rs with
 | cons r1 rs=>
  obtain⟨t1,rfl⟩:=r1
  cases rs with
  | cons r2 rs=>
   obtain⟨t2,rfl⟩:=r2
   cases rs
   exact SC.find3 ⟨.int _,H,I.tok _,⟨_,rfl⟩,q⟩
def Kj:V->List V->Hp->VK->Prop:=fun x vs H Q=>∃ (l y:Lc),x=.str (S l)/\vs=[.str (S y)]/\y≠[]/\l.length<=1000000/\∀ p,H p=none->Q (.ref p) (upd H p (.lst ((Txt.split (S l) (S y)).map V.str)))
theorem ZE (sep:Str)(h:0<sep.length):∀ xs:Lh,xs.length<=(sep.join xs).length+1/\∀ x∈xs,x.length<=(sep.join xs).length
 | []=>⟨uS _,fun _ h=>by cases h⟩
 | [x]=>by
  have e:sep.join [x]=x:=by simp [Str.join]
  rw [e]
  exact⟨by simp,fun y hy=>by rw [ui.mp hy];exact uu _⟩
 | x::y::xs=>by
  obtain⟨h1,h2⟩:=ZE sep h (y::xs)
  have e:(sep.join (x::y::xs)).length=x.length+sep.length+(sep.join (y::xs)).length:=by
   simp only [Str.join]
   have al:∀ a b:Str,(a++b).length=a.length+b.length:=fun a b=>by
    show(Str.append a b).length=_
    simp [Str.append,Str.length]
   rw [al,al]
  rw [e]
  refine⟨by simp only [ua] at h1 ⊢;lia,fun z hz=>?_⟩
  rcases um.mp hz with rfl | hz
  ·lia
  ·have:=h2 z hz;lia
theorem QU:∀ (xs:Lh) (k:Nat),Vals (xs.map V.str) (strsFrom k xs)
 | [],k=>.nil
 | x::xs,k=>.cons ⟨k,rfl⟩ (QU xs (k+1))
theorem Ym:MtR X "str.split" Kj:=by
 intro pins s σ H x xs v us Q I rx rs h
 obtain⟨l,y,rfl,rfl,hy,hl,q⟩:=h
 obtain⟨t,rfl⟩:=rx
 obtain⟨u,rfl,t',rfl⟩:=vals1 rs
 have y0:((S y).length == 0)=false:=by
  rw [jw]
  cases y with
  | nil=>exact absurd rfl hy
  | cons _ _=>rfl
 have yp:0<(S y).length:=by
  rw [jw]
  cases y with
  | nil=>exact absurd rfl hy
  | cons _ _=>simp
 have hj:=ZE (S y) yp (Txt.split (S l) (S y))
 rw [StrLaws.join_split,jw] at hj
 have fin:∀ (its:Lf) (n tk:Nat),Vals ((Txt.split (S l) (S y)).map V.str) its->EP X pins σ Q (Value.ref s.heap.objs.size) { heap:=s.heap.push { cls:=.type "list",data:=.seq its.toArray n },gens:=s.gens,drawn:=s.drawn,toks:=tk,os:=s.os }:=fun its n tk hv=>
  ⟨.ref s.heap.objs.size,_,I.laid (t':=tk) (o:=.lst ((Txt.split (S l) (S y)).map V.str)) (fun b ob q=>Heap.get?_push_of_some _ q) (uu _) ⟨by rw [uh,sizeLine_eq];lia,its,n,hv,Heap.get?_push_size _ rfl⟩,rfl,q _ (I.hok.fresh (uu _))⟩
 cases c1:(decide ((S l).length<(S y).length)||decide (Builtin.Str.strKind (S l)<Builtin.Str.strKind (S y))) with
 | true=>
  have e:Txt.split (S l) (S y)=[S l]:=by unfold Txt.split;rw [uz c1]
  refine call_meets UH (typeIs_str s (S l) t) U9 (U4 _ _) (meets_str_split_cannot_occur _ _ _ _ c1) ?_
  exact fin [.str (S l) t] 0 s.toks (by rw [e];exact .cons ⟨t,rfl⟩ .nil)
 | false=>
  cases c2:(Builtin.Str.occurrences (S l) (S y) 0 (S l).length ((S l).length+1)).isEmpty with
  | true=>
   have e:Txt.split (S l) (S y)=[S l]:=by unfold Txt.split;rw [uy (by rw [c1];decide),uz c2]
   refine call_meets UH (typeIs_str s (S l) t) U9 (U4 _ _) (meets_str_split_not_found _ _ _ _ c1 y0 c2) ?_
   exact fin [.str (S l) t] 0 s.toks (by rw [e];exact .cons ⟨t,rfl⟩ .nil)
  | false=>
   have e:Txt.split (S l) (S y)=Builtin.Str.partsBetween (S l) (Builtin.Str.occurrences (S l) (S y) 0 (S l).length ((S l).length+1)) (S y).length:=by unfold Txt.split;rw [uy (by rw [c1];decide),uy (by rw [c2];decide)]
   refine call_meets UH (typeIs_str s (S l) t) U9 (U4 _ _) (meets_str_split_sep _ _ _ _ c1 y0 c2 (by rw [jw,sizeLine_eq];lia) (by rw [← e,sizeLine_eq];lia)) ?_
   rw [← e]
   exact fin _ 0 _ (QU _ _)
end L2
namespace L4
open PySem L2 PySem.Spec PyProof.Rows
inductive T where
 | non | bl (b:Bool) | int (i:Int) | str (t:Lc)
 | tp (xs:List T) | ls (xs:List T) | dc (ks:List Key) (xs:List T)
 | ob (c:Nat) (fs:Lh) (xs:List T)
 | fz (t:T) | hol (v:V) | ks (l:Bool) (xs:List T) | any
mutual
noncomputable def strip:T->T
 | .tp xs=>.tp (ze xs)
 | .ls xs=>.ls (ze xs)
 | .dc ks xs=>.dc ks (ze xs)
 | .ob c fs xs=>.ob c fs (ze xs)
 | .fz t=>strip t
 | .non=>.non
 | .bl b=>.bl b
 | .int i=>.int i
 | .str t=>.str t
 | .hol v=>.hol v
 | .any=>.any
 | .ks l xs=>.ks l xs
noncomputable def ze:List T->List T
 | []=>[]
 | t::ts=>strip t::ze ts
end
theorem ZF:∀ ts:List T,ze ts=ts.map strip
 | []=>by simp only [ze,gm]
 | t::ts=>by simp only [ze,uA,ZF ts]
noncomputable def fzi:T->T
 | .non=>.non
 | .bl b=>.bl b
 | .int i=>.int i
 | .str t=>.str t
 | .tp xs=>.fz (.tp xs)
 | .ls xs=>.fz (.ls xs)
 | .dc ks xs=>.fz (.dc ks xs)
 | .ob c fs xs=>.fz (.ob c fs xs)
 | .fz t=>.fz t
 | .hol v=>.hol v
 | .any=>.any
 | .ks l xs=>.ks l xs
def fzn (t:T):T:=fzi (strip t)
mutual
noncomputable def shr:T->Bool
 | .tp xs=>shrs xs
 | .ls _=>false
 | .dc _ _=>false
 | .ob _ _ _=>false
 | .hol _=>false
 | _=>true
noncomputable def shrs:List T->Bool
 | []=>true
 | t::ts=>shr t&&shrs ts
end
mutual
noncomputable def mfr:T->Bool
 | .tp xs=>mfrs xs
 | .fz t=>mfr t
 | .ls _=>false
 | .dc _ _=>false
 | .ob _ _ _=>false
 | .hol _=>false
 | .any=>false
 | .ks _ _=>false
 | _=>true
noncomputable def mfrs:List T->Bool
 | []=>true
 | t::ts=>mfr t&&mfrs ts
end
mutual
noncomputable def cln:T->Bool
 | .tp xs=>clns xs
 | .ls xs=>clns xs
 | .dc _ xs=>clns xs
 | .ob _ _ xs=>clns xs
 | .fz t=>mfr t
 | .hol _=>false
 | .any=>false
 | .ks _ _=>false
 | _=>true
noncomputable def clns:List T->Bool
 | []=>true
 | t::ts=>cln t&&clns ts
end
mutual
noncomputable def view:T->T
 | .ls _=>.any
 | .dc _ _=>.any
 | .ob _ _ _=>.any
 | .hol _=>.any
 | .tp xs=>.tp (views xs)
 | t=>t
noncomputable def views:List T->List T
 | []=>[]
 | t::ts=>view t::views ts
end
structure Exn where
 c:Nat
 fs:Lh
 ts:List T
inductive Slot where
 | no | own (t:T) | al (i:Nat) (p:Lc)
abbrev Sl:=List Slot
abbrev QP:=T->Sl->Prop
abbrev XP:=Exn->Sl->Prop
abbrev Fn:=List T->(T->List T->Prop)->(Exn->List T->Prop)->Prop
inductive Md where
 | fz | mu | mv
 deriving DecidableEq
inductive BO where
 | add | sub | mul | fdiv | mod | pow
 deriving DecidableEq
inductive CO where
 | eq | ne | lt | le | gt | ge | isin | notin | is | isnot
 deriving DecidableEq
def lsV:T->Option (List T)
 | .ls xs=>some xs
 | .fz (.ls xs)=>some (xs.map fzi)
 | _=>none
def tpV:T->Option (List T)
 | .tp xs=>some xs
 | .fz (.tp xs)=>some (xs.map fzi)
 | _=>none
def ksV:T->Option (List T)
 | .ks _ xs=>some (xs.map fzi)
 | _=>none
def ksL:T->Option (List T)
 | .ks true xs=>some (xs.map fzi)
 | _=>none
def dcV:T->Option (List Key×List T)
 | .dc ks xs=>some (ks,xs)
 | .fz (.dc ks xs)=>some (ks,xs.map fzi)
 | _=>none
def obV:T->Option (Nat×Lh×List T)
 | .ob c fs xs=>some (c,fs,xs)
 | .fz (.ob c fs xs)=>some (c,fs,xs.map fzi)
 | _=>none
def shO (o:Option (List T)):Option (List T):=o.bind fun xs=>if shrs xs=true then some xs else none
instance decMulOk (i j:Int):Decidable (IntMulOk i j):=by unfold IntMulOk;infer_instance
noncomputable def intOp:BO->Int->Int->Option T
 | .add,i,j=>some (.int (i+j))
 | .sub,i,j=>some (.int (i - j))
 | .mul,i,j=>if IntMulOk i j then some (.int (i * j)) else none
 | .fdiv,i,j=>if 0<j/\j<1073741824 then some (.int (i / j)) else none
 | .mod,i,j=>if 0<j then some (.int (i % j)) else none
 | .pow,i,j=>if 0<=j/\j<=1000000/\i.natAbs<2 ^ 64 then some (.int (i ^ j.toNat)) else none
noncomputable def Kk (op:BO)(a b:Lc):Option T:=if op=.add/\a.length+b.length<=16777216 then some (.str (a++b)) else none
noncomputable def Wb (op:BO)(a b:List T):Option T:=if op=.add/\a.length+b.length<=16777216 then some (.ls (a++b)) else none
noncomputable def Kl (op:BO)(a b:List T):Option T:=if op=.add/\a.length+b.length<=1000000 then some (.tp (a++b)) else none
noncomputable def intO:T->Option Int
 | .int i=>some i
 | _=>none
noncomputable def strO:T->Option (Lc)
 | .str t=>some t
 | _=>none
noncomputable def blO:T->Option Bool
 | .bl b=>some b
 | _=>none
noncomputable def two {α β γ:Type}(a:Option α)(b:Option β)(f:α->β->Option γ):Option γ:=a.bind fun x=>b.bind fun y=>f x y
noncomputable def orE {α:Type}(a b:Option α):Option α:=match a with
 | some x=>some x
 | none=>b
def binO (op:BO)(x y:T):Option T:=
 orE (two (intO x) (intO y) (intOp op)) (orE (two (strO x) (strO y) (Kk op)) (orE (two (shO (lsV x)) (shO (lsV y)) (Wb op)) (two (shO (tpV x)) (shO (tpV y)) (Kl op))))
noncomputable def scT:T->Option V
 | .non=>some .non
 | .bl b=>some (.bl b)
 | .int i=>some (.int i)
 | .str t=>some (.str (S t))
 | _=>none
noncomputable def scTs:List T->Option (List V)
 | []=>some []
 | d::ds=>two (scT d) (scTs ds) fun x xs=>some (x::xs)
mutual
noncomputable def datT:T->Option Dat
 | .non=>some (.fl .non)
 | .bl b=>some (.fl (.bl b))
 | .int i=>some (.fl (.int i))
 | .str t=>some (.fl (.str (S t)))
 | .tp xs=>(jx xs).map .tp
 | .ls xs=>(jx xs).map .ls
 | .fz t=>datT t
 | _=>none
noncomputable def jx:List T->Option (List Dat)
 | []=>some []
 | d::ds=>two (datT d) (jx ds) fun x xs=>some (x::xs)
end
noncomputable def cont:T->Bool
 | .tp _=>true
 | .ls _=>true
 | .fz (.tp _)=>true
 | .fz (.ls _)=>true
 | _=>false
noncomputable def eqT (a b:T):Option Bool:=
 orE (two (scT a) (scT b) fun x y=>if scal x y=true then some (decide (x=y)) else none)
  (if (cont a&&cont b)=true then two (datT a) (datT b) fun d e=>if depD d<=50 then some (eqD d e) else none else none)
noncomputable def occs (l y:Lc):Lc:=Builtin.Str.occurrences (S l) (S y) 0 (S l).length 1
def seqV (t:T):Option (List T):=orE (lsV t) (orE (tpV t) (ksV t))
def lsK (t:T):Option (List T):=orE (lsV t) (ksL t)
noncomputable def keyT:T->Option Key
 | .str t=>some (.inr (S t))
 | .int i=>some (.inl i)
 | _=>none
noncomputable def inT (a b:T):Option Bool:=
  orE (two (strO a) (strO b) fun y l=>some (match y with
    | [c]=>decide (c∈l)
    | y=>!(occs l y).isEmpty))
   (orE (two (scT a) ((seqV b).bind scTs) fun x vs=>some (inV x vs)) (two (keyT a) (dcV b) fun k d=>some (d.1.any fun k'=>decide (k' = k))))
noncomputable def nonT:T->Option Bool
 | .non=>some true
 | .fz t=>nonT t
 | .hol _=>none
 | .any=>none
 | _=>some false
noncomputable def isT (a b:T):Option Bool:=
 match b with
 | .non=>nonT a
 | .bl c=>(blO a).map fun b=>b == c
 | _=>none
noncomputable def cmpI (op:CO)(i j:Int):Option Bool:=
 match op with
 | .lt=>some (decide (i<j))
 | .le=>some (decide (i<=j))
 | .gt=>some (decide (j<i))
 | .ge=>some (decide (j<=i))
 | _=>none
def cmpO (op:CO)(x y:T):Option Bool:=
 match op with
 | .eq=>eqT x y
 | .ne=>(eqT x y).map (!·)
 | .isin=>inT x y
 | .notin=>(inT x y).map (!·)
 | .is=>isT x y
 | .isnot=>(isT x y).map (!·)
 | op=>two (intO x) (intO y) (cmpI op)
noncomputable def dget (ks:List Key)(xs:List T)(k:Key):Option T:=((ks.zip xs).find? fun kv=>decide (kv.1=k)).map (·.2)
noncomputable def dput (ks:List Key)(xs:List T)(k:Key)(x:T):List Key×List T:=
 if (ks.any fun k'=>decide (k' = k))=true then(ks,(ks.zip xs).map fun kv=>if kv.1=k then x else kv.2) else(ks++[k],xs++[x])
noncomputable def Km:List Key->List T->List Key->List T->List Key×List T
 | ks,xs,k::more,x::ys=>Km (dput ks xs k x).1 (dput ks xs k x).2 more ys
 | ks,xs,_,_=>(ks,xs)
def ixO (x y:T):Option T:=
 orE (two (seqV x) (intO y) fun xs i=>atI xs i) (two (strO x) (intO y) fun t i=>(atI t i).map fun c=>.str [c])
noncomputable def cutL {α:Type}(xs:List α)(lo hi:Option Int):List α:=(xs.drop (HT.sIx xs.length 0 lo)).take (HT.sIx xs.length xs.length hi - HT.sIx xs.length 0 lo)
def slO (x:T)(lo hi:Option Int):Option T:=
 orE ((strO x).map fun t=>.str (cutL t lo hi)) ((shO (lsK x)).map fun xs=>.ls (cutL xs lo hi))
def truT (x:T):Option Bool:=
 match x with
 | .non=>some false
 | .bl b=>some b
 | .int i=>some (i != 0)
 | .str t=>some (!t.isEmpty)
 | x=>orE ((seqV x).map fun xs=>!xs.isEmpty) ((dcV x).map fun d=>!d.1.isEmpty)
def fldO (x:T)(c:Nat)(f:Str):Option T:=(obV x).bind fun o=>if o.1=c then((o.2.1.zip o.2.2).find? fun kv=>decide (kv.1=f)).map (·.2) else none
noncomputable def stepI (x y:T):Option Nat:=
 match x with
 | .ls xs=>(intO y).bind fun i=>ixN xs.length i
 | .tp xs=>(intO y).bind fun i=>ixN xs.length i
 | _=>none
noncomputable def Vg (x:T)(c:Nat)(f:Str):Option Nat:=
 match x with
 | .ob c' fs _=>if c' = c then fs.findIdx? fun g=>decide (g=f) else none
 | _=>none
noncomputable def kids:T->Option (List T)
 | .ls xs=>some xs
 | .tp xs=>some xs
 | .dc _ xs=>some xs
 | .ob _ _ xs=>some xs
 | _=>none
noncomputable def ZG:T->List T->T
 | .ls _,ys=>.ls ys
 | .tp _,ys=>.tp ys
 | .dc ks _,ys=>.dc ks ys
 | .ob c fs _,ys=>.ob c fs ys
 | t,_=>t
noncomputable def getT:T->Lc->Option T
 | t,[]=>some t
 | t,j::p=>match kids t with
  | some xs=>match xs[j]? with
   | some x=>getT x p
   | none=>none
  | none=>none
noncomputable def setT:T->Lc->T->T
 | _,[],n=>n
 | t,j::p,n=>match kids t with
  | some xs=>match xs[j]? with
   | some x=>ZG t (xs.set j (setT x p n))
   | none=>t
  | none=>t
def Slot.kill (i:Nat)(p:Lc):Slot->Slot
 | .al j q=>if j=i/\q.isPrefixOf p=false then .no else .al j q
 | .own t=>.own t
 | .no=>.no
def Slot.killR (i:Nat):Slot->Slot
 | .al j q=>if j=i then .no else .al j q
 | .own t=>.own t
 | .no=>.no
def Slot.noAl:Slot->Slot
 | .al _ _=>.no
 | .own t=>.own t
 | .no=>.no
noncomputable def setS (s:Sl)(i:Nat)(x:Slot):Sl:=(s.map (Slot.killR i)).set i x
noncomputable def putS (s:Sl)(i:Nat)(p:Lc)(t:T):Sl:=
 match s[i]? with
 | some (.own r)=>(s.map (Slot.kill i p)).set i (.own (setT r p t))
 | _=>s
inductive MU where
 | append | pop | insert | popI
 deriving DecidableEq
noncomputable def muT (m:MU)(x:T)(as:List T):Option (T×T):=
 match x,as with
 | .ls xs,[y]=>match m with
  | .append=>if xs.length<16777216 then some (.ls (xs++[y]),.non) else none
  | .popI=>if xs.length<=16777216 then(intO y).bind fun i=>(ixN xs.length i).bind fun j=>(xs[j]?).map fun d=>(.ls (xs.eraseIdx j),d) else none
  | _=>none
 | .ls xs,[]=>match m with
  | .pop=>(xs[xs.length - 1]?).map fun d=>(.ls xs.dropLast,d)
  | _=>none
 | _,_=>none
noncomputable def putO (x y o:T):Option T:=
 match x with
 | .ls xs=>(intO y).bind fun n=>(ixN xs.length n).map fun j=>.ls (xs.set j o)
 | .dc ks xs=>(keyT y).bind fun k=>if ks.length<16777216/\(shr o=true\/(ks.any fun k'=>decide (k' = k))=false) then some (.dc (dput ks xs k o).1 (dput ks xs k o).2) else none
 | _=>none
noncomputable def yb:Lh->List T->Str->T->List Str×List T
 | g::fs,x::xs,f,o=>if g=f then(g::fs,o::xs) else(g::(yb fs xs f o).1,x::(yb fs xs f o).2)
 | fs,xs,f,o=>(fs++[f],xs++[o])
noncomputable def Wc (x:T)(c':Nat)(f:Str)(o:T):Option T:=
 match x with
 | .ob c fs xs=>if c=c'/\fs.length<1000 then some (.ob c (yb fs xs f o).1 (yb fs xs f o).2) else none
 | _=>none
structure Wd where
 K:Le
 cl:Nat->Addr
 mg:Str->Option Value
variable {W:Wd}
mutual
noncomputable def IsV (W:Wd)(F:Hp):T->V->Prop
 | .non,v=>v=.non
 | .bl b,v=>v=.bl b
 | .int i,v=>v=.int i
 | .str t,v=>v=.str (S t)/\t.length<=16777216
 | .tp ts,v=>∃ p vs,v=.ref p/\F p=some (.tup vs)/\IsVs W F ts vs
 | .ls ts,v=>∃ p vs,v=.ref p/\F p=some (.lst vs)/\IsVs W F ts vs
 | .dc ks ts,v=>∃ p kvs,v=.ref p/\F p=some (.dK kvs)/\kvs.map (·.1)=ks/\IsVs W F ts (kvs.map (·.2))
 | .ob c fs ts,v=>∃ p dx kvs,v=.ref p/\F p=some (.ins (W.cl c) dx kvs)/\kvs.map (·.1)=fs/\IsVs W F ts (kvs.map (·.2))
 | .fz t,v=>IsV W F t v
 | .hol u,v=>v=u
 | .any,_=>True
 | .ks l ts,v=>∃ p vs,v=.ref p/\(if l=true then SqL W.K F p vs else SqT W.K F p vs)/\IsVs W F ts vs
noncomputable def IsVs (W:Wd)(F:Hp):List T->List V->Prop
 | [],vs=>vs=[]
 | d::ds,vs=>∃ v r,vs=v::r/\IsV W F d v/\IsVs W F ds r
end
theorem yN {K:Le}{H H':Hp}(g:Same H H'){a:Addr}{xs:List V}(h:SqL K H a xs):SqL K H' a xs:=by
 rcases h with(h | ⟨o,h⟩) | h
 ·exact .inl (.inl (g _ _ h))
 ·exact .inl (.inr ⟨o,g _ _ h⟩)
 ·exact .inr h
theorem ZH {K:Le}{H H':Hp}(g:Same H H'){a:Addr}{xs:List V}(h:SqT K H a xs):SqT K H' a xs:=by
 rcases h with(h | ⟨o,h⟩) | h
 ·exact .inl (.inl (g _ _ h))
 ·exact .inl (.inr ⟨o,g _ _ h⟩)
 ·exact .inr h
mutual
theorem IsV.mono {F F':Hp}(g:Same F F'):∀ {d:T} {v:V},IsV W F d v->IsV W F' d v
 | .non,_,h=>h
 | .bl _,_,h=>h
 | .int _,_,h=>h
 | .str _,_,h=>h
 | .hol _,_,h=>h
 | .any,_,h=>h
 | .fz t,v,h=>IsV.mono g (d:=t) (v:=v) h
 | .tp ts,_,⟨p,vs,e,h1,h2⟩=>⟨p,vs,e,g _ _ h1,IsVs.mono g h2⟩
 | .ls ts,_,⟨p,vs,e,h1,h2⟩=>⟨p,vs,e,g _ _ h1,IsVs.mono g h2⟩
 | .ks true ts,_,⟨p,vs,e,h1,h2⟩=>⟨p,vs,e,yN g h1,IsVs.mono g h2⟩
 | .ks false ts,_,⟨p,vs,e,h1,h2⟩=>⟨p,vs,e,ZH g h1,IsVs.mono g h2⟩
 | .dc ks ts,_,⟨p,vs,e,h1,h2,h3⟩=>⟨p,vs,e,g _ _ h1,h2,IsVs.mono g h3⟩
 | .ob c fs ts,_,⟨p,dx,vs,e,h1,h2,h3⟩=>⟨p,dx,vs,e,g _ _ h1,h2,IsVs.mono g h3⟩
theorem IsVs.mono {F F':Hp}(g:Same F F'):∀ {ds:List T} {vs:List V},IsVs W F ds vs->IsVs W F' ds vs
 | [],_,h=>h
 | d::ds,_,⟨v,r,e,h1,h2⟩=>⟨v,r,e,IsV.mono g h1,IsVs.mono g h2⟩
end
mutual
theorem IsV.strip {F:Hp}:∀ {d:T} {v:V},IsV W F d v->IsV W F (strip d) v
 | .non,_,h=>h
 | .bl _,_,h=>h
 | .int _,_,h=>h
 | .str _,_,h=>h
 | .hol _,_,h=>h
 | .any,_,h=>h
 | .ks _ _,_,h=>h
 | .fz t,v,h=>by simp only [L4.strip];exact IsV.strip (d:=t) (v:=v) h
 | .tp ts,_,⟨p,vs,e,h1,h2⟩=>by simp only [L4.strip,IsV];exact⟨p,vs,e,h1,IsVs.strip h2⟩
 | .ls ts,_,⟨p,vs,e,h1,h2⟩=>by simp only [L4.strip,IsV];exact⟨p,vs,e,h1,IsVs.strip h2⟩
 | .dc ks ts,_,⟨p,vs,e,h1,h2,h3⟩=>by simp only [L4.strip,IsV];exact⟨p,vs,e,h1,h2,IsVs.strip h3⟩
 | .ob c fs ts,_,⟨p,dx,vs,e,h1,h2,h3⟩=>by simp only [L4.strip,IsV];exact⟨p,dx,vs,e,h1,h2,IsVs.strip h3⟩
theorem IsVs.strip {F:Hp}:∀ {ds:List T} {vs:List V},IsVs W F ds vs->IsVs W F (ze ds) vs
 | [],_,h=>h
 | d::ds,_,⟨v,r,e,h1,h2⟩=>by simp only [ze,IsVs];exact⟨v,r,e,IsV.strip h1,IsVs.strip h2⟩
end
mutual
noncomputable def Tr (W:Wd)(F H:Hp):T->V->List Addr->Prop
 | .tp ts,v,A=>∃ p vs,v=.ref p/\F p=some (.tup vs)/\TrL W F H ts vs A
 | .ls ts,v,A=>∃ p vs B,v=.ref p/\H p=some (.lst vs)/\A=p::B/\TrL W F H ts vs B
 | .dc ks ts,v,A=>∃ p kvs B,v=.ref p/\H p=some (.dK kvs)/\A=p::B/\kvs.map (·.1)=ks/\TrL W F H ts (kvs.map (·.2)) B
 | .ob c fs ts,v,A=>∃ p dx kvs B,v=.ref p/\H p=some (.ins (W.cl c) dx kvs)/\A=p::B/\kvs.map (·.1)=fs/\TrL W F H ts (kvs.map (·.2)) B
 | .fz t,v,A=>A=[]/\IsV W F t v
 | .non,v,A=>A=[]/\v=.non
 | .bl b,v,A=>A=[]/\v=.bl b
 | .int i,v,A=>A=[]/\v=.int i
 | .str t,v,A=>A=[]/\v=.str (S t)/\t.length<=16777216
 | .hol u,v,A=>A=[]/\v=u
 | .any,_,A=>A=[]
 | .ks l ts,v,A=>A=[]/\IsV W F (.ks l ts) v
noncomputable def TrL (W:Wd)(F H:Hp):List T->List V->List Addr->Prop
 | [],vs,A=>vs=[]/\A=[]
 | o::os,vs,A=>∃ v r A1 A2,vs=v::r/\A=A1++A2/\Tr W F H o v A1/\TrL W F H os r A2
end
mutual
theorem Tr.frame {F F' H H':Hp}(g:Same F F'):∀ {o:T} {v:V} {A:Ld},Tr W F H o v A->(∀ b∈A,∀ x,H b=some x->H' b=some x)->Tr W F' H' o v A
 | .non,_,_,h,_=>h
 | .bl _,_,_,h,_=>h
 | .int _,_,_,h,_=>h
 | .str _,_,_,h,_=>h
 | .hol _,_,_,h,_=>h
 | .any,_,_,h,_=>h
 | .fz t,_,_,⟨e,h⟩,_=>⟨e,IsV.mono g h⟩
 | .ks l ts,_,_,⟨e,h⟩,_=>⟨e,IsV.mono g h⟩
 | .tp os,_,_,⟨p,vs,e,h1,h2⟩,k=>⟨p,vs,e,g _ _ h1,TrL.frame g h2 k⟩
 | .ls os,_,_,⟨p,vs,B,e,h1,ea,h2⟩,k=>⟨p,vs,B,e,k p (by rw [ea];exact ue) _ h1,ea,TrL.frame g h2 fun b hb=>k b (by rw [ea];exact ug _ hb)⟩
 | .dc ks os,_,_,⟨p,vs,B,e,h1,ea,h2,h3⟩,k=>⟨p,vs,B,e,k p (by rw [ea];exact ue) _ h1,ea,h2,TrL.frame g h3 fun b hb=>k b (by rw [ea];exact ug _ hb)⟩
 | .ob c fs os,_,_,⟨p,dx,vs,B,e,h1,ea,h2,h3⟩,k=>⟨p,dx,vs,B,e,k p (by rw [ea];exact ue) _ h1,ea,h2,TrL.frame g h3 fun b hb=>k b (by rw [ea];exact ug _ hb)⟩
theorem TrL.frame {F F' H H':Hp}(g:Same F F'):∀ {os:List T} {vs:List V} {A:Ld},TrL W F H os vs A->(∀ b∈A,∀ x,H b=some x->H' b=some x)->TrL W F' H' os vs A
 | [],_,_,h,_=>h
 | o::os,_,_,⟨v,r,A1,A2,e,ea,h1,h2⟩,k=>⟨v,r,A1,A2,e,ea,Tr.frame g h1 fun b hb=>k b (by rw [ea];exact uj _ hb),TrL.frame g h2 fun b hb=>k b (by rw [ea];exact uc _ hb)⟩
end
mutual
theorem Tr.cell {F H:Hp}:∀ {o:T} {v:V} {A:Ld},Tr W F H o v A->∀ b∈A,∃ x,H b=some x
 | .non,_,_,h,b,hb=>by rw [h.1] at hb;cases hb
 | .bl _,_,_,h,b,hb=>by rw [h.1] at hb;cases hb
 | .int _,_,_,h,b,hb=>by rw [h.1] at hb;cases hb
 | .str _,_,_,h,b,hb=>by rw [h.1] at hb;cases hb
 | .hol _,_,_,h,b,hb=>by rw [h.1] at hb;cases hb
 | .any,_,_,h,b,hb=>by rw [show _=[] from h] at hb;cases hb
 | .fz _,_,_,h,b,hb=>by rw [h.1] at hb;cases hb
 | .ks _ _,_,_,h,b,hb=>by rw [h.1] at hb;cases hb
 | .tp os,_,_,⟨p,vs,e,h1,h2⟩,b,hb=>TrL.cell h2 b hb
 | .ls os,_,_,⟨p,vs,B,e,h1,ea,h2⟩,b,hb=>by
  rw [ea] at hb
  rcases um.mp hb with rfl | hb
  ·exact⟨_,h1⟩
  ·exact TrL.cell h2 b hb
 | .dc ks os,_,_,⟨p,vs,B,e,h1,ea,h2,h3⟩,b,hb=>by
  rw [ea] at hb
  rcases um.mp hb with rfl | hb
  ·exact⟨_,h1⟩
  ·exact TrL.cell h3 b hb
 | .ob c fs os,_,_,⟨p,dx,vs,B,e,h1,ea,h2,h3⟩,b,hb=>by
  rw [ea] at hb
  rcases um.mp hb with rfl | hb
  ·exact⟨_,h1⟩
  ·exact TrL.cell h3 b hb
theorem TrL.cell {F H:Hp}:∀ {os:List T} {vs:List V} {A:Ld},TrL W F H os vs A->∀ b∈A,∃ x,H b=some x
 | [],_,_,h,b,hb=>by rw [h.2] at hb;cases hb
 | o::os,_,_,⟨v,r,A1,A2,e,ea,h1,h2⟩,b,hb=>by
  rw [ea] at hb
  rcases ud.mp hb with hb | hb
  ·exact Tr.cell h1 b hb
  ·exact TrL.cell h2 b hb
end
mutual
theorem Tr.isv {F F' H:Hp}(g:Same F F'):∀ {o:T} {v:V} {A:Ld},Tr W F H o v A->(∀ b∈A,∀ x,H b=some x->F' b=some x)->IsV W F' o v
 | .non,_,_,h,_=>h.2
 | .bl _,_,_,h,_=>h.2
 | .int _,_,_,h,_=>h.2
 | .str _,_,_,h,_=>h.2
 | .hol _,_,_,h,_=>h.2
 | .any,_,_,_,_=>trivial
 | .fz t,v,_,h,_=>IsV.mono g (d:=t) h.2
 | .ks l ts,_,_,h,_=>IsV.mono g h.2
 | .tp os,_,_,⟨p,vs,e,h1,h2⟩,k=>⟨p,vs,e,g _ _ h1,TrL.isv g h2 k⟩
 | .ls os,_,_,⟨p,vs,B,e,h1,ea,h2⟩,k=>⟨p,vs,e,k p (by rw [ea];exact ue) _ h1,TrL.isv g h2 fun b hb=>k b (by rw [ea];exact ug _ hb)⟩
 | .dc ks os,_,_,⟨p,vs,B,e,h1,ea,h2,h3⟩,k=>⟨p,vs,e,k p (by rw [ea];exact ue) _ h1,h2,TrL.isv g h3 fun b hb=>k b (by rw [ea];exact ug _ hb)⟩
 | .ob c fs os,_,_,⟨p,dx,vs,B,e,h1,ea,h2,h3⟩,k=>⟨p,dx,vs,e,k p (by rw [ea];exact ue) _ h1,h2,TrL.isv g h3 fun b hb=>k b (by rw [ea];exact ug _ hb)⟩
theorem TrL.isv {F F' H:Hp}(g:Same F F'):∀ {os:List T} {vs:List V} {A:Ld},TrL W F H os vs A->(∀ b∈A,∀ x,H b=some x->F' b=some x)->IsVs W F' os vs
 | [],_,_,h,_=>h.1
 | o::os,_,_,⟨v,r,A1,A2,e,ea,h1,h2⟩,k=>⟨v,r,e,Tr.isv g h1 fun b hb=>k b (by rw [ea];exact uj _ hb),TrL.isv g h2 fun b hb=>k b (by rw [ea];exact uc _ hb)⟩
end
theorem Tr.now {F H:Hp}(g:Same F H){o:T}{v:V}{A:Ld}(h:Tr W F H o v A):IsV W H o v:=h.isv g fun _ _ _ e=>e
theorem Kn {F H:Hp}{t:T}{v:V}(h:IsV W F t v):Tr W F H (fzi t) v []:=by
 cases t with
 | tp _=>exact⟨rfl,h⟩
 | ls _=>exact⟨rfl,h⟩
 | dc _ _=>exact⟨rfl,h⟩
 | ob _ _ _=>exact⟨rfl,h⟩
 | fz _=>exact⟨rfl,h⟩
 | any=>exact rfl
 | _=>exact⟨rfl,h⟩
theorem kC {F H:Hp}{t:T}{v:V}(h:IsV W F t v):Tr W F H (fzn t) v []:=Kn h.strip
theorem je {F H:Hp}:∀ {ts:List T} {vs:List V},IsVs W F ts vs->TrL W F H (ts.map fzi) vs []
 | [],_,h=>⟨h,rfl⟩
 | t::ts,_,⟨v,r,e,h1,h2⟩=>⟨v,r,[],[],e,rfl,Kn h1,je h2⟩
mutual
theorem vV {F H:Hp}:∀ {o:T} {v:V} {A:Ld},shr o=true->Tr W F H o v A->A=[]
 | .non,_,_,_,h=>h.1
 | .bl _,_,_,_,h=>h.1
 | .int _,_,_,_,h=>h.1
 | .str _,_,_,_,h=>h.1
 | .hol _,_,_,_,h=>h.1
 | .any,_,_,_,h=>h
 | .fz _,_,_,_,h=>h.1
 | .ks _ _,_,_,_,h=>h.1
 | .tp os,_,_,s,⟨p,vs,e,h1,h2⟩=>ZI (by simpa only [shr] using s) h2
 | .ls _,_,_,s,_=>by simp [shr] at s
 | .dc _ _,_,_,s,_=>by simp [shr] at s
 | .ob _ _ _,_,_,s,_=>by simp [shr] at s
theorem ZI {F H:Hp}:∀ {os:List T} {vs:List V} {A:Ld},shrs os=true->TrL W F H os vs A->A=[]
 | [],_,_,_,h=>h.2
 | o::os,_,_,s,⟨v,r,A1,A2,e,ea,h1,h2⟩=>by
  simp only [shrs,ub] at s
  rw [ea,vV s.1 h1,ZI s.2 h2];rfl
end
theorem TrL.len {F H:Hp}:∀ {ds:List T} {vs:List V} {A:Ld},TrL W F H ds vs A->vs.length=ds.length
 | [],_,_,h=>by rw [h.1];rfl
 | d::ds,_,_,⟨v,r,A1,A2,e,_,_,h2⟩=>by rw [e,ua,ua,TrL.len h2]
theorem TrL.app {F H:Hp}:∀ {ds es:List T} {vs us:List V} {A B:Ld},TrL W F H ds vs A->TrL W F H es us B->TrL W F H (ds++es) (vs++us) (A++B)
 | [],_,_,_,_,_,h,k=>by rw [h.1,h.2];exact k
 | d::ds,_,_,_,_,_,⟨v,r,A1,A2,e,ea,h1,h2⟩,k=>⟨v,_,A1,A2++_,by rw [e];rfl,by rw [ea,uM],h1,TrL.app h2 k⟩
theorem TrL.one {F H:Hp}{d:T}{v:V}{A:Ld}(h:Tr W F H d v A):TrL W F H [d] [v] A:=⟨v,[],A,[],rfl,(ux _).symm,h,rfl,rfl⟩
theorem TrL.get {F H:Hp}:∀ {ds:List T} {vs:List V} {A:Ld} {j:Nat} {d:T},TrL W F H ds vs A->ds[j]? = some d->∃ v A1 A2 A3,vs[j]? = some v/\A=A1++(A2++A3)/\Tr W F H d v A2 /\
  ∀ {F' H':Hp} {d':T} {v':V} {A':Ld},Same F F'->(∀ b∈A1,∀ x,H b=some x->H' b=some x)->(∀ b∈A3,∀ x,H b=some x->H' b=some x)->Tr W F' H' d' v' A'->TrL W F' H' (ds.set j d') (vs.set j v') (A1++(A'++A3))
 | [],_,_,_,_,_,e=>by simp at e
 | d::ds,_,_,0,_,⟨v,r,A1,A2,e,ea,h1,h2⟩,k=>by
  simp only [List.getElem?_cons_zero,uw] at k
  subst k e
  exact⟨v,[],A1,A2,rfl,ea,h1,fun g _ k3 t=>⟨_,r,_,A2,rfl,rfl,t,h2.frame g k3⟩⟩
 | d::ds,_,_,j+1,_,⟨v,r,A1,A2,e,ea,h1,h2⟩,k=>by
  subst e
  obtain⟨u,B1,B2,B3,e1,e2,e3,e4⟩:=TrL.get (j:=j) h2 (by simpa using k)
  refine⟨u,A1++B1,B2,B3,by simpa using e1,by rw [ea,e2,uM],e3,fun g k1 k3 t=>?_⟩
  rw [uM]
  exact⟨v,_,A1,_,rfl,rfl,h1.frame g fun b hb=>k1 b (uj _ hb),e4 g (fun b hb=>k1 b (uc _ hb)) k3 t⟩
noncomputable def adds (F H:Hp)(A:Ld):Hp:=fun b=>if b∈A then H b else F b
theorem jz {F H:Hp}{A:Ld}(h:∀ b∈A,F b=none):Same F (adds F H A):=fun b o e=>by
 unfold adds
 rw [uy (fun z=>by rw [h b z] at e;cases e)];exact e
theorem Jj {F H:Hp}{A:Ld}:∀ b∈A,∀ x,H b=some x->adds F H A b=some x:=fun b hb x e=>by unfold adds;rw [uz hb];exact e
theorem Vh {F H:Hp}{A:Ld}(g:Same F H):Same (adds F H A) H:=fun b o e=>by
 unfold adds at e
 split at e
 ·exact e
 ·exact g _ _ e
mutual
theorem zbE {F H:Hp}:∀ {o:T} {v:V} {A:Ld},Tr W F H o v A->Tr W F H (view o) v []
 | .non,_,_,h=>⟨rfl,h.2⟩
 | .bl _,_,_,h=>⟨rfl,h.2⟩
 | .int _,_,_,h=>⟨rfl,h.2⟩
 | .str _,_,_,h=>⟨rfl,h.2⟩
 | .hol _,_,_,_=>rfl
 | .any,_,_,_=>rfl
 | .fz _,_,_,h=>⟨rfl,h.2⟩
 | .ks _ _,_,_,h=>⟨rfl,h.2⟩
 | .ls _,_,_,_=>rfl
 | .dc _ _,_,_,_=>rfl
 | .ob _ _ _,_,_,_=>rfl
 | .tp os,_,_,⟨p,vs,e,h1,h2⟩=>⟨p,vs,e,h1,yO h2⟩
theorem yO {F H:Hp}:∀ {os:List T} {vs:List V} {A:Ld},TrL W F H os vs A->TrL W F H (views os) vs []
 | [],_,_,h=>⟨h.1,rfl⟩
 | o::os,_,_,⟨v,r,A1,A2,e1,e2,h1,h2⟩=>⟨v,r,[],[],e1,rfl,zbE h1,yO h2⟩
end
end L4
namespace L4
open PySem L2 PySem.Spec PyProof.Rows
variable {W:Wd}
noncomputable def hk:HO->Option (List V)
 | .lst vs=>some vs
 | .tup vs=>some vs
 | .dK kvs=>some (kvs.map (·.2))
 | .ins _ _ kvs=>some (kvs.map (·.2))
 | _=>none
noncomputable def kAt (H:Hp)(v:V)(j:Nat):Option V:=match v with
 | .ref p=>(H p).bind fun o=>(hk o).bind fun vs=>vs[j]?
 | _=>none
noncomputable def vAt (H:Hp):V->Lc->Option V
 | v,[]=>some v
 | v,j::q=>(kAt H v j).bind fun w=>vAt H w q
theorem Tr.kids {F H:Hp}(g:Same F H){t:T}{v:V}{A:Ld}{ts:List T}(h:Tr W F H t v A)(e:kids t=some ts):∃ p vs o pre B,v=.ref p/\H p=some o/\hk o=some vs/\A=pre++B/\TrL W F H ts vs B /\
  ∀ {F' H':Hp},Same F F'->Same F' H'->(∀ b∈pre,∀ x,H b=some x->H' b=some x)->H' p=some o/\∀ {ts':List T} {B':Ld},TrL W F' H' ts' vs B'->Tr W F' H' (ZG t ts') v (pre++B'):=by
 cases t<;>simp only [L4.kids,uw,reduceCtorEq] at e
 ·subst e
  obtain⟨p,vs,rfl,h1,h2⟩:=h
  exact⟨p,vs,_,[],A,rfl,g _ _ h1,rfl,rfl,h2,fun g1 g2 _=>⟨g2 _ _ (g1 _ _ h1),fun h=>⟨p,vs,rfl,g1 _ _ h1,h⟩⟩⟩
 ·subst e
  obtain⟨p,vs,B,rfl,h1,rfl,h2⟩:=h
  exact⟨p,vs,_,[p],B,rfl,h1,rfl,rfl,h2,fun g1 g2 k=>⟨k p (ui.mpr rfl) _ h1,fun h=>⟨p,vs,_,rfl,k p (ui.mpr rfl) _ h1,rfl,h⟩⟩⟩
 ·subst e
  obtain⟨p,vs,B,rfl,h1,rfl,h2,h3⟩:=h
  exact⟨p,_,_,[p],B,rfl,h1,rfl,rfl,h3,fun g1 g2 k=>⟨k p (ui.mpr rfl) _ h1,fun h=>⟨p,vs,_,rfl,k p (ui.mpr rfl) _ h1,rfl,h2,h⟩⟩⟩
 ·subst e
  obtain⟨p,dx,vs,B,rfl,h1,rfl,h2,h3⟩:=h
  exact⟨p,_,_,[p],B,rfl,h1,rfl,rfl,h3,fun g1 g2 k=>⟨k p (ui.mpr rfl) _ h1,fun h=>⟨p,dx,vs,_,rfl,k p (ui.mpr rfl) _ h1,rfl,h2,h⟩⟩⟩
theorem ZJ {α:Type}{l:List α}{j:Nat}{x:α}(h:l[j]? = some x):l.set j x=l:=by
 apply UI
 intro i
 rw [List.getElem?_set]
 split
 ·subst j
  rw [← h]
  split
  ·exact h.symm ▸ rfl
  ·rw [Ug (by lia)]
 ·rfl
theorem yP {t:T}{j:Nat}{p:Lc}{u:T}(h:getT t (j::p)=some u):∃ ts x,kids t=some ts/\ts[j]? = some x/\getT x p=some u/\∀ n,setT t (j::p) n=ZG t (ts.set j (setT x p n)):=by
 simp only [getT] at h
 cases e:kids t with
 | none=>rw [e] at h;cases h
 | some ts=>
  simp only [e] at h
  cases e2:ts[j]? with
  | none=>rw [e2] at h;cases h
  | some x=>
   rw [e2] at h
   exact⟨ts,x,rfl,e2,h,fun n=>by simp only [setT,e,e2]⟩
theorem Tr.focus {F H:Hp}(g:Same F H):∀ (q:Lc) {t:T} {v:V} {A:Ld} {u:T},Tr W F H t v A->getT t q=some u->∃ w A1 A2 A3,vAt H v q=some w/\A=A1++(A2++A3)/\Tr W F H u w A2 /\
  ∀ {F' H':Hp},Same F F'->Same F' H'->(∀ b∈A1,∀ x,H b=some x->H' b=some x)->(∀ q' r,q=q'++r->vAt H' v q' = vAt H v q') /\
   ((∀ b∈A3,∀ x,H b=some x->H' b=some x)->∀ {u':T} {A':Ld},Tr W F' H' u' w A'->Tr W F' H' (setT t q u') v (A1++(A'++A3)))
 | [],t,v,A,u,h,e=>by
  cases e
  refine⟨v,[],A,[],rfl,by simp,h,fun g1 g2 _=>⟨fun q' r hq=>?_,fun _ u' A' t'=>?_⟩⟩
  ·have:q' = []:=(Uo.mp hq.symm).1
   subst this;rfl
  ·simpa [setT] using t'
 | j::q,t,v,A,u,h,e=>by
  obtain⟨ts,x,e1,e2,e3,e4⟩:=yP e
  obtain⟨p,vs,o,pre,B,rfl,hp,ho,rfl,hl,put⟩:=h.kids g e1
  obtain⟨w0,B1,B2,B3,i1,rfl,i3,i4⟩:=hl.get e2
  obtain⟨w,A1,A2,A3,f1,rfl,f3,f4⟩:=Tr.focus g q i3 e3
  refine⟨w,pre++(B1++A1),A2,A3++B3,?_,by simp only [uM],f3,fun g1 g2 k1=>?_⟩
  ·simp only [vAt,kAt,hp,ho,uJ,i1];exact f1
  ·obtain⟨hp',put⟩:=put g1 g2 fun b hb=>k1 b (uj _ hb)
   obtain⟨f5,f6⟩:=f4 g1 g2 fun b hb=>k1 b (uc _ (uc _ hb))
   refine⟨fun q' r hq=>?_,fun k3 u' A' t'=>?_⟩
   ·cases q' with
    | nil=>rfl
    | cons j' q'=>
     simp only [UN,List.cons.injEq] at hq
     obtain⟨rfl,hq⟩:=hq
     simp only [vAt,kAt,hp',hp,ho,uJ,i1]
     exact f5 q' r hq
   ·rw [e4]
    have tt:=i4 g1 (fun b hb=>k1 b (uc _ (uj _ hb))) (fun b hb=>k3 b (uc _ hb)) (f6 (fun b hb=>k3 b (uj _ hb)) t')
    rw [ZJ i1] at tt
    have:=put tt
    simpa only [uM] using this
theorem We:∀ (q:Lc) {t u:T} (r:Lc),getT t (q++r)=some u->∃ x,getT t q=some x/\getT x r=some u
 | [],t,u,r,h=>⟨t,rfl,h⟩
 | j::q,t,u,r,h=>by
  obtain⟨ts,x,e1,e2,e3,_⟩:=yP (p:=q++r) h
  obtain⟨y,h1,h2⟩:=We q r e3
  exact⟨y,by simp only [getT,e1,e2];exact h1,h2⟩
theorem Wf:∀ (q:Lc) {t x:T} (r:Lc),getT t q=some x->getT t (q++r)=getT x r
 | [],t,x,r,h=>by cases h;rfl
 | j::q,t,x,r,h=>by
  obtain⟨ts,y,e1,e2,e3,_⟩:=yP h
  simp only [UN,getT,e1,e2]
  exact Wf q r e3
theorem ZK {t:T}{ts ys:List T}(h:kids t=some ts):kids (ZG t ys)=some ys:=by cases t<;>simp only [kids,reduceCtorEq] at h<;>rfl
theorem Wg {t:T}{ys zs:List T}:ZG (ZG t ys) zs=ZG t zs:=by cases t<;>rfl
theorem wZ:∀ (q:Lc) {t u n:T},getT t q=some u->getT (setT t q n) q=some n
 | [],t,u,n,h=>rfl
 | j::q,t,u,n,h=>by
  obtain⟨ts,y,e1,e2,e3,e4⟩:=yP h
  have hj:j<ts.length:=by
   rcases gn j ts.length with z | z
   ·exact z
   ·rw [Ug z] at e2;cases e2
  rw [e4]
  simp only [getT,ZK e1,uP hj]
  exact wZ q e3
theorem QW:∀ (q:Lc) {t u n m:T},getT t q=some u->setT (setT t q n) q m=setT t q m
 | [],t,u,n,m,h=>rfl
 | j::q,t,u,n,m,h=>by
  obtain⟨ts,y,e1,e2,e3,e4⟩:=yP h
  have hj:j<ts.length:=by
   rcases gn j ts.length with z | z
   ·exact z
   ·rw [Ug z] at e2;cases e2
  rw [e4,e4]
  simp only [setT,ZK e1,uP hj,Wg,List.set_set]
  rw [QW q e3]
theorem Ko {q r:Lc}{t u n:T}(h:getT t (q++r)=some u):∃ x,getT (setT t (q++r) n) q=some x:=by
 have:=wZ (q++r) (n:=n) h
 obtain⟨x,h1,_⟩:=We q r this
 exact⟨x,h1⟩
structure Rep (W:Wd)(F H:Hp)(s:Sl)(σ:L2.St)(A:Lb):Prop where
 fh:Same F H
 slot:∀ (i:Nat) (t:T),s[i]? = some (.own t)->∃ v,σ[i]? = some (some v)/\Tr W F H t v (A i)
 al:∀ (j i:Nat) (q:Lc),s[j]? = some (.al i q)->∃ t u w v,s[i]? = some (.own t)/\getT t q=some u/\σ[i]? = some (some w)/\σ[j]? = some (some v)/\vAt H w q=some v
 emp:∀ i:Nat,(∀ t:T,s[i]?≠some (.own t))->A i=[]
 own:∀ i,∀ a∈A i,F a=none
 dis:∀ i j,∀ a∈A i,a∈A j->i=j
 nd:∀ i,(A i).Nodup
 len:s.length=σ.length
def Ow (A:Lb)(b:Addr):Prop:=∃ i,b∈A i
def Tch (A:Lb)(tl:Lc)(b:Addr):Prop:=∃ j∈tl,b∈A j
theorem Rep.cell {F H:Hp}{s:Sl}{σ:L2.St}{A:Lb}(R:Rep W F H s σ A){i:Nat}{b:Addr}(h:b∈A i):∃ x,H b=some x:=by
 by_cases e:∃ t,s[i]? = some (.own t)
 ·obtain⟨t,e⟩:=e
  obtain⟨v,_,h1⟩:=R.slot i t e
  exact h1.cell b h
 ·rw [R.emp i fun t z=>e ⟨t,z⟩] at h;cases h
structure Mv (F H:Hp)(s:Sl)(A:Lb)(tl:Lc)(F' H':Hp)(s':Sl)(A':Lb):Prop where
 sF:Same F F'
 keep:∀ b o,H b=some o->¬ Tch A tl b->H' b=some o
 dom:∀ b o,H b=some o->∃ o',H' b=some o'
 frz:∀ b o,F' b=some o->(∃ o',F b=some o')\/H b=none\/Tch A tl b
 cells:∀ j b,j∈tl->b∈A' j->H b=none\/Tch A tl b
 slot:∀ j,j∉tl->(∀ t:T,s[j]? = some (.own t)->s'[j]? = some (.own t))/\A' j=A j
theorem Mv.refl {F H:Hp}{s:Sl}{A:Lb}{tl:Lc}:Mv F H s A tl F H s A:=⟨fun _ _ h=>h,fun _ _ h _=>h,fun _ o h=>⟨o,h⟩,fun _ o h=>.inl ⟨o,h⟩,fun j b h k=>.inr ⟨j,h,k⟩,fun _ _=>⟨fun _ h=>h,rfl⟩⟩
theorem Mv.none {F H F' H':Hp}{s s':Sl}{A A':Lb}{tl:Lc}(m:Mv F H s A tl F' H' s' A'){b:Addr}(h:H' b=none):H b=none:=by
 cases q:H b with
 | none=>rfl
 | some o=>obtain⟨o',z⟩:=m.dom b o q;rw [h] at z;cases z
theorem Mv.mono {F H F' H':Hp}{s s':Sl}{A A':Lb}{tl tl':Lc}(m:Mv F H s A tl F' H' s' A')(h:∀ j∈tl,j∈tl'):Mv F H s A tl' F' H' s' A':=by
 have up:∀ {b},Tch A tl b->Tch A tl' b:=fun⟨j,h1,h2⟩=>⟨j,h j h1,h2⟩
 refine⟨m.sF,fun b o e n=>m.keep b o e fun z=>n (up z),m.dom,fun b o e=>?_,fun j b hj hb=>?_,fun j hj=>m.slot j fun z=>hj (h j z)⟩
 ·rcases m.frz b o e with z | z | z
  ·exact .inl z
  ·exact .inr (.inl z)
  ·exact .inr (.inr (up z))
 ·by_cases z:j∈tl
  ·rcases m.cells j b z hb with y | y
   ·exact .inl y
   ·exact .inr (up y)
  ·rw [(m.slot j z).2] at hb
   exact .inr ⟨j,hj,hb⟩
theorem Mv.ta {F H F' H':Hp}{s s':Sl}{A A':Lb}{tl:Lc}(m:Mv F H s A tl F' H' s' A'){b:Addr}(h:Tch A' tl b):H b=Option.none\/Tch A tl b:=by
 obtain⟨j,h1,h2⟩:=h
 exact m.cells j b h1 h2
theorem Mv.trans' {F H F1 H1 F2 H2:Hp}{s s1 s2:Sl}{A A1 A2:Lb}{tl:Lc}(a:Mv F H s A tl F1 H1 s1 A1)(b:Mv F1 H1 s1 A1 tl F2 H2 s2 A2):Mv F H s A tl F2 H2 s2 A2:=by
 refine⟨a.sF.trans b.sF,fun x o h n=>?_,fun x o h=>?_,fun x o h=>?_,fun j x hj h=>?_,fun j hj=>?_⟩
 ·refine b.keep x o (a.keep x o h n) fun z=>?_
  rcases a.ta z with z | z
  ·rw [h] at z;cases z
  ·exact n z
 ·obtain⟨o',h'⟩:=a.dom x o h
  exact b.dom x o' h'
 ·rcases b.frz x o h with⟨o',z⟩ | z | z
  ·exact a.frz x o' z
  ·exact .inr (.inl (a.none z))
  ·rcases a.ta z with z | z
   ·exact .inr (.inl z)
   ·exact .inr (.inr z)
 ·rcases b.cells j x hj h with z | z
  ·exact .inl (a.none z)
  ·exact a.ta z
 ·obtain⟨h1,h2⟩:=a.slot j hj
  obtain⟨h3,h4⟩:=b.slot j hj
  exact⟨fun t z=>h3 t (h1 t z),h4.trans h2⟩
theorem Mv.trans {F H F1 H1 F2 H2:Hp}{s s1 s2:Sl}{A A1 A2:Lb}{tl tl':Lc}(a:Mv F H s A tl F1 H1 s1 A1)(b:Mv F1 H1 s1 A1 tl' F2 H2 s2 A2):Mv F H s A (tl++tl') F2 H2 s2 A2:=
 (a.mono fun _ h=>uj _ h).trans' (b.mono fun _ h=>uc _ h)
structure Vd (A:Lb)(F H:Hp)(rl:Lc)(B:Ld):Prop where
 fr:∀ b∈B,F b=none
 ob:∀ b∈B,∃ x,H b=some x
 at_:∀ b∈B,¬ Ow A b\/∃ j∈rl,b∈A j
theorem Vd.not {A:Lb}{F H:Hp}{rl tl:Lc}{B:Ld}(d:Vd A F H rl B)(hd:∀ i j a,a∈A i->a∈A j->i=j)(h:∀ j∈rl,j∉tl):∀ b∈B,¬ Tch A tl b:=by
 rintro b hb ⟨j,h1,h2⟩
 rcases d.at_ b hb with z | ⟨i,z1,z2⟩
 ·exact z ⟨j,h2⟩
 ·have:=hd i j b z2 h2
  subst this
  exact h i z1 h1
theorem Vd.mv {A A':Lb}{F H F' H':Hp}{s s':Sl}{rl tl:Lc}{B:Ld}(d:Vd A F H rl B)(hd:∀ i j a,a∈A i->a∈A j->i=j)(h:∀ j∈rl,j∉tl)(m:Mv F H s A tl F' H' s' A'):Vd A' F' H' rl B:=by
 have nt:=d.not hd h
 refine⟨fun b hb=>?_,fun b hb=>?_,fun b hb=>?_⟩
 ·cases q:F' b with
  | none=>rfl
  | some o=>
   obtain⟨x,hx⟩:=d.ob b hb
   rcases m.frz b o q with⟨o',z⟩ | z | z
   ·rw [d.fr b hb] at z;cases z
   ·rw [hx] at z;cases z
   ·exact absurd z (nt b hb)
 ·obtain⟨x,hx⟩:=d.ob b hb
  exact m.dom b x hx
 ·rcases d.at_ b hb with z | ⟨i,z1,z2⟩
  ·refine .inl fun⟨j,y⟩=>?_
   by_cases hj:j∈tl
   ·rcases m.cells j b hj y with w | w
    ·obtain⟨x,hx⟩:=d.ob b hb
     rw [hx] at w;cases w
    ·exact nt b hb w
   ·rw [(m.slot j hj).2] at y
    exact z ⟨j,y⟩
  ·exact .inr ⟨i,z1,by rw [(m.slot i (h i z1)).2];exact z2⟩
theorem Vd.tr {A A':Lb}{F H F' H':Hp}{s s':Sl}{rl tl:Lc}{B:Ld}{t:T}{v:V}(d:Vd A F H rl B)(hd:∀ i j a,a∈A i->a∈A j->i=j)(h:∀ j∈rl,j∉tl)(m:Mv F H s A tl F' H' s' A')(x:Tr W F H t v B):Tr W F' H' t v B:=
 x.frame m.sF fun b hb o ho=>m.keep b o ho (d.not hd h b hb)
theorem Vd.trL {A A':Lb}{F H F' H':Hp}{s s':Sl}{rl tl:Lc}{B:Ld}{t:List T}{v:List V}(d:Vd A F H rl B)(hd:∀ i j a,a∈A i->a∈A j->i=j)(h:∀ j∈rl,j∉tl)(m:Mv F H s A tl F' H' s' A')(x:TrL W F H t v B):TrL W F' H' t v B:=
 x.frame m.sF fun b hb o ho=>m.keep b o ho (d.not hd h b hb)
theorem Vd.nil {A:Lb}{F H:Hp}{rl:Lc}:Vd A F H rl []:=⟨(fun _ h=>by cases h),(fun _ h=>by cases h),(fun _ h=>by cases h)⟩
theorem Vd.app {A:Lb}{F H:Hp}{rl rl':Lc}{B C:Ld}(h:Vd A F H rl B)(k:Vd A F H rl' C):Vd A F H (rl++rl') (B++C):=
 ⟨fun b hb=>(ud.mp hb).elim (h.fr b) (k.fr b),fun b hb=>(ud.mp hb).elim (h.ob b) (k.ob b),fun b hb=>(ud.mp hb).elim (fun z=>(h.at_ b z).imp id fun⟨j,h1,h2⟩=>⟨j,uj _ h1,h2⟩) fun z=>(k.at_ b z).imp id fun⟨j,h1,h2⟩=>⟨j,uc _ h1,h2⟩⟩
theorem Vd.imp {A:Lb}{F H:Hp}{rl rl':Lc}{B:Ld}(h:Vd A F H rl B)(k:∀ j∈rl,j∈rl'):Vd A F H rl' B:=⟨h.fr,h.ob,fun b hb=>(h.at_ b hb).imp id fun⟨j,h1,h2⟩=>⟨j,k j h1,h2⟩⟩
theorem Vd.sub {A:Lb}{F H:Hp}{rl:Lc}{B C:Ld}(h:Vd A F H rl B)(k:∀ b∈C,b∈B):Vd A F H rl C:=⟨fun b hb=>h.fr b (k b hb),fun b hb=>h.ob b (k b hb),fun b hb=>h.at_ b (k b hb)⟩
structure Al (F H F' H':Hp)(B:Ld):Prop where
 sF:Same F F'
 sH:Same H H'
 fh:Same F' H'
 frz:∀ b o,F' b=some o->(∃ o',F b=some o')\/H b=none
 nB:∀ b∈B,H b=none/\F' b=none/\∃ x,H' b=some x
 nd:B.Nodup
theorem Al.refl {F H:Hp}(g:Same F H):Al F H F H []:=⟨fun _ _ h=>h,fun _ _ h=>h,g,fun _ o h=>.inl ⟨o,h⟩,(fun _ h=>by cases h),.nil⟩
theorem Wh {H H':Hp}(g:Same H H'):∀ (q:Lc) {v w:V},vAt H v q=some w->vAt H' v q=some w
 | [],_,_,h=>h
 | j::q,v,w,h=>by
  simp only [vAt] at h ⊢
  have:∀ u,kAt H v j=some u->kAt H' v j=some u:=fun u e=>by
   cases v with
   | ref p=>
    simp only [kAt] at e ⊢
    cases y:H p with
    | none=>rw [y] at e;cases e
    | some o=>rw [g _ _ y];rw [y] at e;exact e
   | _=>cases e
  cases e:kAt H v j with
  | none=>rw [e] at h;cases h
  | some u=>
   rw [this u e]
   rw [e] at h
   exact Wh g q h
theorem Al.rep {F H F' H':Hp}{B:Ld}{s:Sl}{σ:L2.St}{A:Lb}(a:Al F H F' H' B)(R:Rep W F H s σ A):Rep W F' H' s σ A:=by
 refine⟨a.fh,fun i t h=>?_,fun j i q h=>?_,R.emp,fun i b hb=>?_,R.dis,R.nd,R.len⟩
 ·obtain⟨v,h1,h2⟩:=R.slot i t h
  exact⟨v,h1,h2.frame a.sF fun b _ x hx=>a.sH _ _ hx⟩
 ·obtain⟨t,u,w,v,h1,h2,h3,h4,h5⟩:=R.al j i q h
  exact⟨t,u,w,v,h1,h2,h3,h4,Wh a.sH q h5⟩
 ·cases q:F' b with
  | none=>rfl
  | some o=>
   rcases a.frz b o q with⟨o',z⟩ | z
   ·rw [R.own i b hb] at z;cases z
   ·obtain⟨x,h2⟩:=R.cell hb
    rw [h2] at z;cases z
theorem Al.mv {F H F' H':Hp}{B:Ld}{s:Sl}{A:Lb}{tl:Lc}(a:Al F H F' H' B):Mv F H s A tl F' H' s A:=
 ⟨a.sF,fun b o h _=>a.sH _ _ h,fun b o h=>⟨o,a.sH _ _ h⟩,fun b o h=>(a.frz b o h).imp id .inl,fun j b h k=>.inr ⟨j,h,k⟩,fun _ _=>⟨fun _ h=>h,rfl⟩⟩
theorem Al.vd {F H F' H':Hp}{B:Ld}{s:Sl}{σ:L2.St}{A:Lb}(a:Al F H F' H' B)(R:Rep W F H s σ A):Vd A F' H' [] B:=by
 refine⟨fun b hb=>(a.nB b hb).2.1,fun b hb=>(a.nB b hb).2.2,fun b hb=>.inl fun⟨i,z⟩=>?_⟩
 obtain⟨x,h⟩:=R.cell z
 rw [(a.nB b hb).1] at h;cases h
theorem ZL {F H:Hp}(g:Same F H){p:Addr}(hp:H p=none):F p=none:=by
 cases q:F p with
 | none=>rfl
 | some u=>rw [g _ _ q] at hp;cases hp
theorem Al.cell {F H:Hp}{p:Addr}{o:HO}(g:Same F H)(hp:H p=none):Al F H F (upd H p o) [p]:=by
 have sH:Same H (upd H p o):=Zz hp
 exact⟨fun _ _ h=>h,sH,fun b u h=>sH _ _ (g _ _ h),fun b u h=>.inl ⟨u,h⟩,fun b hb=>by rw [ui.mp hb];exact⟨hp,ZL g hp,_,zw⟩,List.pairwise_singleton _ _⟩
theorem Al.froz {F H:Hp}{p:Addr}{o:HO}(g:Same F H)(hp:H p=none):Al F H (upd F p o) (upd H p o) []:=by
 refine⟨Zz (ZL g hp),Zz hp,fun b u h=>?_,fun b u h=>?_,(fun _ h=>by cases h),.nil⟩
 ·unfold upd at h ⊢
  split
  ·rw [uz (by assumption)] at h;exact h
  ·rw [uy (by assumption)] at h;exact g _ _ h
 ·by_cases e:b=p
  ·subst e;exact .inr hp
  ·rw [zt e] at h;exact .inl ⟨u,h⟩
end L4
namespace L4
open PySem L2 PySem.Spec PyProof.Rows
variable {W:Wd} {F H:Hp} {s:Sl} {σ:L2.St} {A:Lb}
noncomputable def setA (A:Lb)(i:Nat)(B:Ld):Nat->List Addr:=fun j=>if j=i then B else A j
theorem zI {i:Nat}{B:Ld}:setA A i B i=B:=uz rfl
theorem zq {i j:Nat}{B:Ld}(h:j≠i):setA A i B j=A j:=uy h
theorem vW {i:Nat}{B:Ld}{b:Addr}(h:Ow (setA A i B) b):b∈B\/∃ j,j≠i/\b∈A j:=by
 obtain⟨j,h⟩:=h
 by_cases e:j=i
 ·subst e;rw [zI] at h;exact .inl h
 ·rw [zq e] at h;exact .inr ⟨j,e,h⟩
theorem Yn {i:Nat}{x:Slot}{t:T}:x.killR i=.own t↔x=.own t:=by
 cases x<;>simp only [Slot.killR,Slot.own.injEq,reduceCtorEq]
 split<;>simp
theorem Kq {i:Nat}{p:Lc}{x:Slot}{t:T}:x.kill i p=.own t↔x=.own t:=by
 cases x<;>simp only [Slot.kill,Slot.own.injEq,reduceCtorEq]
 split<;>simp
theorem Kr {i k:Nat}{x:Slot}{q:Lc}(h:x.killR i=.al k q):x=.al k q/\k≠i:=by
 cases x<;>simp only [Slot.killR,reduceCtorEq] at h
 split at h
 ·cases h
 ·cases h;exact⟨rfl,by assumption⟩
theorem zbF {i k:Nat}{p:Lc}{x:Slot}{q:Lc}(h:x.kill i p=.al k q):x=.al k q/\(k=i->∃ r,p=q++r):=by
 cases x<;>simp only [Slot.kill,reduceCtorEq] at h
 split at h
 ·cases h
 ·rename_i n
  cases h
  refine⟨rfl,fun e=>?_⟩
  have:q.isPrefixOf p=true:=by
   cases z:q.isPrefixOf p with
   | true=>rfl
   | false=>exact absurd ⟨e,z⟩ n
  obtain⟨r,hr⟩:=List.isPrefixOf_iff_prefix.mp this
  exact⟨r,hr.symm⟩
theorem xZ {i:Nat}{x:Slot}:(setS s i x).length=s.length:=by simp [setS]
theorem jf {i:Nat}{x:Slot}(h:i<s.length):(setS s i x)[i]? = some x:=by
 unfold setS;rw [uP];simpa using h
theorem jV {i j:Nat}{x:Slot}(h:j≠i):(setS s i x)[j]? = (s[j]?).map (Slot.killR i):=by
 unfold setS;rw [uN (Ne.symm h),uD]
theorem wb {i j:Nat}{x:Slot}{t:T}(h:j≠i):(setS s i x)[j]? = some (.own t)↔s[j]? = some (.own t):=by
 rw [jV h]
 cases s[j]? with
 | none=>simp
 | some y=>simp only [uT,uw];exact Yn
theorem zbG {i j k:Nat}{x:Slot}{q:Lc}(h:j≠i)(e:(setS s i x)[j]? = some (.al k q)):s[j]? = some (.al k q)/\k≠i:=by
 rw [jV h] at e
 cases y:s[j]? with
 | none=>rw [y] at e;cases e
 | some z=>
  rw [y] at e
  simp only [uT,uw] at e
  obtain⟨rfl,h2⟩:=Kr e
  exact⟨rfl,h2⟩
theorem ZM {i:Nat}{x:Slot}(h:s[i]? = some x):i<s.length:=by
 rcases gn i s.length with z | z
 ·exact z
 ·rw [Ug z] at h;cases h
theorem Rep.setX (R:Rep W F H s σ A){i:Nat}(hi:i<s.length){x:Slot}{v:Option V}{B:Ld}(hx:(x=.no/\B=[])\/∃ t u,x=.own t/\v=some u/\Tr W F H t u B)(fr:∀ b∈B,F b=none)(nB:∀ b∈B,∀ j,j≠i->b∉A j)(nd:B.Nodup):Rep W F H (setS s i x) (σ.set i v) (setA A i B):=by
 have hs:i<σ.length:=by rw [← R.len];exact hi
 refine⟨R.fh,fun j t h=>?_,fun j k q h=>?_,fun j h=>?_,fun j b hb=>?_,fun j k b hb hc=>?_,fun j=>?_,by rw [xZ,uZ,R.len]⟩
 ·by_cases e:j=i
  ·subst e
   rw [jf hi] at h
   cases h
   rcases hx with⟨z,_⟩ | ⟨t',u,z,rfl,h1⟩
   ·cases z
   ·cases z
    exact⟨u,by rw [uP hs],by rw [zI];exact h1⟩
  ·obtain⟨u,h1,h2⟩:=R.slot j t ((wb e).mp h)
   exact⟨u,by rw [uN (Ne.symm e)];exact h1,by rw [zq e];exact h2⟩
 ·by_cases e:j=i
  ·subst e
   rw [jf hi] at h
   cases h
   rcases hx with⟨z,_⟩ | ⟨t',u,z,_,h1⟩<;>cases z
  ·obtain⟨h1,h2⟩:=zbG e h
   obtain⟨t,u,w,v',e1,e2,e3,e4,e5⟩:=R.al j k q h1
   exact⟨t,u,w,v',(wb h2).mpr e1,e2,by rw [uN (Ne.symm h2)];exact e3,by rw [uN (Ne.symm e)];exact e4,e5⟩
 ·by_cases e:j=i
  ·subst e
   rw [zI]
   rcases hx with⟨_,z⟩ | ⟨t',u,rfl,_,_⟩
   ·exact z
   ·exact absurd (jf hi) (h t')
  ·rw [zq e]
   exact R.emp j fun t z=>h t ((wb e).mpr z)
 ·by_cases e:j=i
  ·subst e;rw [zI] at hb;exact fr b hb
  ·rw [zq e] at hb;exact R.own j b hb
 ·by_cases e:j=i
  ·by_cases e2:k=i
   ·rw [e,e2]
   ·subst e;rw [zI] at hb;rw [zq e2] at hc;exact absurd hc (nB b hb k e2)
  ·by_cases e2:k=i
   ·subst e2;rw [zI] at hc;rw [zq e] at hb;exact absurd hb (nB b hc j e)
   ·rw [zq e] at hb;rw [zq e2] at hc;exact R.dis j k b hb hc
 ·by_cases e:j=i
  ·subst e;rw [zI];exact nd
  ·rw [zq e];exact R.nd j
theorem Rep.set (R:Rep W F H s σ A){i:Nat}(hi:i<s.length){t:T}{v:V}{B:Ld}(h:Tr W F H t v B)(d:Vd A F H [] B)(nd:B.Nodup):Rep W F H (setS s i (.own t)) (σ.set i (some v)) (setA A i B):=
 R.setX hi (.inr ⟨t,v,rfl,rfl,h⟩) d.fr (fun b hb j _ z=>(d.at_ b hb).elim (fun n=>n ⟨j,z⟩) fun⟨_,n,_⟩=>by cases n) nd
theorem Rep.del (R:Rep W F H s σ A){i:Nat}{t:T}(h:s[i]? = some (.own t)):∃ v,σ[i]? = some (some v)/\Tr W F H t v (A i)/\Rep W F H (setS s i .no) σ (setA A i [])/\Vd (setA A i []) F H [] (A i):=by
 obtain⟨v,h1,h2⟩:=R.slot i t h
 have R':=R.setX (ZM h) (x:=.no) (v:=some v) (B:=[]) (.inl ⟨rfl,rfl⟩) (fun _ z=>by cases z) (fun _ z=>by cases z) .nil
 rw [ZJ h1] at R'
 refine⟨v,h1,h2,R',R.own i,fun b hb=>h2.cell b hb,fun b hb=>.inl fun z=>?_⟩
 rcases vW z with z | ⟨j,z1,z2⟩
 ·cases z
 ·exact z1 (R.dis j i b z2 hb)
theorem Rep.adds (R:Rep W F H s σ A){B:Ld}(d:Vd A F H [] B):Rep W (adds F H B) H s σ A:=by
 have g:=jz (H:=H) d.fr
 refine⟨Vh R.fh,fun i t h=>?_,R.al,R.emp,fun i b hb=>?_,R.dis,R.nd,R.len⟩
 ·obtain⟨v,h1,h2⟩:=R.slot i t h
  exact⟨v,h1,h2.frame g fun _ _ _ e=>e⟩
 ·unfold L4.adds
  rw [uy fun z=>?_]
  ·exact R.own i b hb
  ·exact(d.at_ b z).elim (fun n=>n ⟨i,hb⟩) fun⟨_,n,_⟩=>by cases n
theorem Vd.frozen {B:Ld}{t:T}{v:V}(d:Vd A F H [] B)(h:Tr W F H t v B):IsV W (L4.adds F H B) t v:=h.isv (jz d.fr) Jj
theorem Rep.frz (R:Rep W F H s σ A){i:Nat}{t:T}(h:s[i]? = some (.own t)):∃ v,σ[i]? = some (some v)/\IsV W (L4.adds F H (A i)) t v/\Rep W (L4.adds F H (A i)) H (setS s i (.own (fzn t))) σ (setA A i []):=by
 obtain⟨v,h1,h2,R1,d⟩:=R.del h
 have iv:=d.frozen h2
 have R2:=(R1.adds d).set (i:=i) (by rw [xZ];exact ZM h) (kC iv) Vd.nil .nil
 rw [ZJ h1] at R2
 have e1:setS (setS s i .no) i (.own (fzn t))=setS s i (.own (fzn t)):=by
  apply UI
  intro j
  by_cases e:j=i
  ·subst e;rw [jf (by rw [xZ];exact ZM h),jf (ZM h)]
  ·rw [jV e,jV e,jV e,gr]
   congr 1
   funext y
   cases y with
   | al k q=>by_cases z:k=i<;>simp [Function.comp,Slot.killR,z]
   | _=>rfl
 have e2:setA (setA A i []) i []=setA A i []:=by funext j;by_cases e:j=i<;>simp [setA,e]
 rw [e1,e2] at R2
 exact⟨v,h1,iv,R2⟩
theorem Rep.ext {F' H':Hp}(R:Rep W F H s σ A)(sF:Same F F')(fh:Same F' H')(keep:∀ b,Ow A b->∀ x,H b=some x->H' b=some x)(fr:∀ b,Ow A b->F' b=none):Rep W F' H' s σ A:=by
 refine⟨fh,fun i t h=>?_,fun j i q h=>?_,R.emp,fun i b hb=>fr b ⟨i,hb⟩,R.dis,R.nd,R.len⟩
 ·obtain⟨v,h1,h2⟩:=R.slot i t h
  exact⟨v,h1,h2.frame sF fun b hb=>keep b ⟨i,hb⟩⟩
 ·obtain⟨t,u,w,v,h1,h2,h3,h4,h5⟩:=R.al j i q h
  obtain⟨v',k1,k2⟩:=R.slot i t h1
  rw [h3] at k1
  cases k1
  obtain⟨w',A1,A2,A3,f1,f2,f3,f4⟩:=k2.focus R.fh q h2
  have:=(f4 sF fh fun b hb=>keep b ⟨i,by rw [f2];exact uj _ hb⟩).1 q [] (by simp)
  exact⟨t,u,w,v,h1,h2,h3,h4,by rw [this];exact h5⟩
theorem ql {i:Nat}{p:Lc}{r t:T}(h:s[i]? = some (.own r)):(putS s i p t)[i]? = some (.own (setT r p t)):=by
 unfold putS
 rw [h]
 dsimp only
 rw [uP (by rw [uh];exact ZM h)]
theorem jg {i j:Nat}{p:Lc}{r t:T}(h:s[i]? = some (.own r))(n:j≠i):(putS s i p t)[j]? = (s[j]?).map (Slot.kill i p):=by
 unfold putS
 rw [h]
 dsimp only
 rw [uN (Ne.symm n),uD]
theorem Ks {i:Nat}{p:Lc}{t:T}:(putS s i p t).length=s.length:=by
 unfold putS
 split<;>simp
theorem z8 {i j:Nat}{p:Lc}{r t u:T}(h:s[i]? = some (.own r))(n:j≠i):(putS s i p t)[j]? = some (.own u)↔s[j]? = some (.own u):=by
 rw [jg h n]
 cases s[j]? with
 | none=>simp
 | some y=>simp only [uT,uw];exact Kq
theorem Rep.put (R:Rep W F H s σ A){i:Nat}{p:Lc}{r u t:T}(hs:s[i]? = some (.own r))(hg:getT r p=some u){w:V}{C:Ld}(hw:σ[i]? = some (some w))(ht:Tr W F H (setT r p t) w C)(fr:∀ b∈C,F b=none)(nC:∀ b∈C,∀ j,j≠i->b∉A j)(nd:C.Nodup):Rep W F H (putS s i p t) σ (setA A i C):=by
 refine⟨R.fh,fun j x h=>?_,fun j k q h=>?_,fun j h=>?_,fun j b hb=>?_,fun j k b hb hc=>?_,fun j=>?_,by rw [Ks,R.len]⟩
 ·by_cases e:j=i
  ·subst e
   rw [ql hs] at h
   cases h
   exact⟨w,hw,by rw [zI];exact ht⟩
  ·obtain⟨v,h1,h2⟩:=R.slot j x ((z8 hs e).mp h)
   exact⟨v,h1,by rw [zq e];exact h2⟩
 ·by_cases e:j=i
  ·subst e;rw [ql hs] at h;cases h
  ·rw [jg hs e] at h
   cases y:s[j]? with
   | none=>rw [y] at h;cases h
   | some z=>
    rw [y] at h
    simp only [uT,uw] at h
    obtain⟨rfl,h2⟩:=zbF h
    obtain⟨t',u',w',v',e1,e2,e3,e4,e5⟩:=R.al j k q y
    by_cases ek:k=i
    ·subst ek
     rw [hs] at e1
     cases e1
     obtain⟨r',rfl⟩:=h2 rfl
     obtain⟨x,hx⟩:=Ko (n:=t) hg
     exact⟨_,x,w',v',ql hs,hx,e3,e4,e5⟩
    ·exact⟨t',u',w',v',(z8 hs ek).mpr e1,e2,e3,e4,e5⟩
 ·by_cases e:j=i
  ·subst e;exact absurd (ql hs) (h _)
  ·rw [zq e];exact R.emp j fun x z=>h x ((z8 hs e).mpr z)
 ·by_cases e:j=i
  ·subst e;rw [zI] at hb;exact fr b hb
  ·rw [zq e] at hb;exact R.own j b hb
 ·by_cases e:j=i
  ·by_cases e2:k=i
   ·rw [e,e2]
   ·subst e;rw [zI] at hb;rw [zq e2] at hc;exact absurd hc (nC b hb k e2)
  ·by_cases e2:k=i
   ·subst e2;rw [zI] at hc;rw [zq e] at hb;exact absurd hb (nC b hc j e)
   ·rw [zq e] at hb;rw [zq e2] at hc;exact R.dis j k b hb hc
 ·by_cases e:j=i
  ·subst e;rw [zI];exact nd
  ·rw [zq e];exact R.nd j
theorem zF {α:Type}{a b:List α}(h1:a.Nodup)(h2:b.Nodup)(h:∀ x∈a,x∉b):(a++b).Nodup:=uB.mpr ⟨h1,h2,fun x hx y hy e=>h x hx (e ▸ hy)⟩
theorem Rep.detach (R:Rep W F H s σ A){i:Nat}{p:Lc}{r u:T}(hs:s[i]? = some (.own r))(hg:getT r p=some u):∃ w v A1 A2,σ[i]? = some (some w)/\vAt H w p=some v/\(∀ b,b∈A i↔b∈A1\/b∈A2)/\Tr W F H u v A2/\A2.Nodup/\Vd (setA A i A1) F H [] A2/\Rep W F H (putS s i p (.hol v)) σ (setA A i A1):=by
 obtain⟨w,hw,h⟩:=R.slot i r hs
 obtain⟨v,A1,A2,A3,f1,f2,f3,f4⟩:=h.focus R.fh p hg
 have nd:=R.nd i
 rw [f2,uB] at nd
 obtain⟨n1,n2,n3⟩:=nd
 rw [uB] at n2
 obtain⟨n4,n5,n6⟩:=n2
 have nd':(A1++A3).Nodup:=uB.mpr ⟨n1,n5,fun a ha b hb=>n3 a ha b (uc _ hb)⟩
 have up:∀ b,b∈A1++A3->b∈A i:=fun b hb=>by
  rw [f2]
  rcases ud.mp hb with z | z
  ·exact uj _ z
  ·exact uc _ (uc _ z)
 have tr:Tr W F H (setT r p (.hol v)) w (A1++A3):=by
  have:=(f4 (F':=F) (H':=H) (fun _ _ h=>h) R.fh fun _ _ _ h=>h).2 (fun _ _ _ h=>h) (u':=.hol v) (A':=[]) ⟨rfl,rfl⟩
  simpa using this
 have in2:∀ b∈A2,b∈A i:=fun b hb=>by rw [f2];exact uc _ (uj _ hb)
 refine⟨w,v,A1++A3,A2,hw,f1,fun b=>?_,f3,n4,⟨fun b hb=>R.own i b (in2 b hb),fun b hb=>f3.cell b hb,fun b hb=>.inl fun z=>?_⟩,R.put hs hg hw tr (fun b hb=>R.own i b (up b hb)) (fun b hb j e z=>e (R.dis j i b z (up b hb))) nd'⟩
 ·rw [f2];simp only [ud]
  constructor
  ·rintro(z | z | z)
   ·exact .inl (.inl z)
   ·exact .inr z
   ·exact .inl (.inr z)
  ·rintro((z | z) | z)
   ·exact .inl z
   ·exact .inr (.inr z)
   ·exact .inr (.inl z)
 ·rcases vW z with z | ⟨j,z1,z2⟩
  ·rcases ud.mp z with z | z
   ·exact n3 b z b (uj _ hb) rfl
   ·exact n6 b hb b z rfl
  ·exact z1 (R.dis j i b z2 (in2 b hb))
theorem Rep.attach (R:Rep W F H s σ A){i:Nat}{p:Lc}{r u:T}{v:V}{B:Ld}(hs:s[i]? = some (.own r))(hg:getT r p=some (.hol v))(t:Tr W F H u v B)(d:Vd A F H [] B)(nd:B.Nodup):∃ C,Rep W F H (putS s i p u) σ (setA A i C)/\∀ b,b∈C↔b∈A i\/b∈B:=by
 obtain⟨w,hw,h⟩:=R.slot i r hs
 obtain⟨v',A1,A2,A3,f1,f2,f3,f4⟩:=h.focus R.fh p hg
 obtain⟨rfl,rfl⟩:=f3
 have nB:∀ b∈B,∀ j,b∉A j:=fun b hb j z=>(d.at_ b hb).elim (fun n=>n ⟨j,z⟩) fun⟨_,n,_⟩=>by cases n
 have ni:=R.nd i
 rw [f2,gq,uB] at ni
 obtain⟨n1,n2,n3⟩:=ni
 have tr:=(f4 (F':=F) (H':=H) (fun _ _ h=>h) R.fh fun _ _ _ h=>h).2 (fun _ _ _ h=>h) t
 have mem:∀ b,b∈A1++(B++A3)↔b∈A i\/b∈B:=fun b=>by
  rw [f2,gq];simp only [ud]
  constructor
  ·rintro(z | z | z)
   ·exact .inl (.inl z)
   ·exact .inr z
   ·exact .inl (.inr z)
  ·rintro((z | z) | z)
   ·exact .inl z
   ·exact .inr (.inr z)
   ·exact .inr (.inl z)
 refine⟨_,R.put hs hg hw tr (fun b hb=>?_) (fun b hb j e z=>?_) ?_,mem⟩
 ·rcases(mem b).mp hb with z | z
  ·exact R.own i b z
  ·exact d.fr b z
 ·rcases(mem b).mp hb with y | y
  ·exact e (R.dis j i b z y)
  ·exact nB b y j z
 ·refine zF n1 (zF nd n2 fun x hx hy=>?_) fun x hx hy=>?_
  ·exact nB x hx i (by rw [f2];exact uc _ hy)
  ·rcases ud.mp hy with z | z
   ·exact nB x z i (by rw [f2];exact uj _ hx)
   ·exact n3 x hx x z rfl
end L4
namespace L4
open PySem L2 PySem.Spec PyProof.Rows
inductive IK where
 | seq | rng | enumS
 deriving DecidableEq
inductive BI where
 | len | int | tuple | all
 deriving DecidableEq
inductive TyK where
 | str | int | bool | list | tuple | dict
 deriving DecidableEq
inductive ME where
 | join | get2 | split | find
 deriving DecidableEq
inductive Xp where
 | b (i:Nat)
 | a (j i:Nat)
 | v (i:Nat)
 | m (i:Nat)
 | c (t:T)
 | g (x:Str) (t:T)
 | frz (e:Xp)
 | fp (e:Xp)
 | bin (op:BO) (a b:Xp)
 | neg (a:Xp)
 | cmp (op:CO) (a b:Xp)
 | chn (o1 o2:CO) (a b c:Xp)
 | bo (k:Bool) (es:List Xp)
 | not (a:Xp)
 | t (a:Xp)
 | tn (a:Xp)
 | tb (k:Bool) (es:List Xp)
 | ife (t a b:Xp)
 | lst (es:List Xp)
 | tup (es:List Xp)
 | dct (es:List Xp)
 | ix (a k:Xp)
 | sl (a:Xp) (lo hi:List Xp)
 | at (a:Xp) (c:Nat) (f:Str)
 | call (x:Str) (ms:List Md) (ln:Bool) (f:Fn) (es:List Xp)
 | meth (c:Nat) (x:Str) (ms:List Md) (ln:Bool) (f:Fn) (es:List Xp)
 | make (c:Nat) (x:Str) (ms:List Md) (f:Fn) (es:List Xp)
 | bi (b:BI) (es:List Xp)
 | isi (a:Xp) (ks:List TyK)
 | me (m:ME) (o:Xp) (es:List Xp)
 | mu (m:MU) (p:Xp) (es:List Xp)
 | lc (elt:Xp) (n:Nat) (k:IK) (its ifs:List Xp)
 | tpl (e:Xp)
 | kget (x:Str) (d:List (Lc×T)) (es:List Xp)
 | isc (a:Xp) (x:Str) (c:Nat)
inductive Tg where
 | v (i:Nat)
 | tup (is:Lc)
 | sub (p k:Xp)
 | fld (p:Xp) (c:Nat) (f:Str)
 | al (j:Nat)
inductive Cm where
 | ret (e:Xp)
 | asg (t:Tg) (e:Xp)
 | aug (i:Nat) (op:BO) (e:Xp)
 | ife (t:Xp) (a b:List Cm)
 | loop (t:Tg) (k:IK) (its:List Xp) (b:List Cm)
 | loopA (j:Nat) (h:Option Nat) (i:Nat) (b:List Cm)
 | whl (t:Xp) (b:List Cm)
 | ex (e:Xp)
 | never
structure Ends where
 nx:Sl->Prop
 rt:T->Sl->Prop
 bk:Sl->Prop
 ct:Sl->Prop
 ex:XP
mutual
noncomputable def root:Xp->Lc
 | .b i=>[i]
 | .a j i=>[i,j]
 | .ix a _=>root a
 | .at a _ _=>root a
 | .ife _ a b=>root a++root b
 | _=>[]
noncomputable def zp:Xp->Lc
 | .b _=>[]
 | .a _ _=>[]
 | .v i=>[i]
 | .m i=>[i]
 | .c _=>[]
 | .g _ _=>[]
 | .frz e=>zp e
 | .fp e=>root e++zp e
 | .bin _ a b=>zp a++zp b
 | .neg a=>zp a
 | .cmp _ a b=>zp a++zp b
 | .chn _ _ a b c=>zp a++(zp b++zp c)
 | .bo _ es=>zu es
 | .not a=>zp a
 | .t a=>zp a
 | .tn a=>zp a
 | .tb _ es=>zu es
 | .ife t a b=>zp t++(zp a++zp b)
 | .lst es=>zu es
 | .tup es=>zu es
 | .dct es=>zu es
 | .ix a k=>zp a++zp k
 | .sl a lo hi=>zp a++(zu lo++zu hi)
 | .at a _ _=>zp a
 | .call _ ms _ _ es=>zS ms es
 | .meth _ _ ms _ _ es=>zS ms es
 | .make _ _ ms _ es=>zS ms es
 | .bi _ es=>zu es
 | .isi a _=>zp a
 | .me _ o es=>zp o++zu es
 | .mu _ p es=>root p++(zp p++zu es)
 | .tpl e=>zp e
 | .kget _ _ es=>zu es
 | .isc a _ _=>zp a
 | .lc elt n _ its ifs=>zu its++((zp elt++zu ifs).filterMap fun i=>if i<n then none else some (i - n))
noncomputable def zu:List Xp->Lc
 | []=>[]
 | e::es=>zp e++zu es
noncomputable def zS:List Md->List Xp->Lc
 | _,[]=>[]
 | .mu::ms,e::es=>root e++(zp e++zS ms es)
 | _::ms,e::es=>zp e++zS ms es
 | [],e::es=>zp e++zS [] es
end
noncomputable def biO (b:BI)(ts:List T):Option T:=
 match ts with
 | [x]=>match b with
  | .len=>orE ((strO x).map fun t=>.int t.length) ((seqV x).map fun xs=>.int xs.length)
  | .int=>orE ((blO x).map fun b=>.int (if b then 1 else 0)) ((intO x).map .int)
  | .tuple=>(shO (orE (lsK x) (tpV x))).map .tp
  | .all=>(lsV x).bind fun xs=>(bls xs).map fun bs=>.bl (bs.all id)
 | _=>none
where bls:List T->Option (List Bool)
 | []=>some []
 | d::ds=>two (blO d) (bls ds) fun x xs=>some (x::xs)
noncomputable def txts:List T->Option (List (Lc))
 | []=>some []
 | d::ds=>two (strO d) (txts ds) fun x xs=>some (x::xs)
noncomputable def splits (l y:Lc):List (Lc):=(Txt.split (S l) (S y)).map fun s=>s.cps.toList
noncomputable def kgO:List (Lc×T)->Lc->T->T
 | [],_,w=>w
 | p::d,t,w=>if p.1=t then p.2 else kgO d t w
noncomputable def meO (m:ME)(x:T)(ts:List T):Option T:=
 match m,ts with
 | .join,[y]=>two (strO x) ((lsV y).bind txts) fun a ts=>if a=[]/\ts.flatten.length<=16777216 then some (.str ts.flatten) else none
 | .get2,[y,z]=>two (dcV x) (keyT y) fun d k=>if shr ((dget d.1 d.2 k).getD z)=true then some ((dget d.1 d.2 k).getD z) else none
 | .split,[y]=>two (strO x) (strO y) fun l y=>if y≠[]/\l.length<=1000000 then some (.ls ((splits l y).map .str)) else none
 | .find,[y,z]=>two (strO x) (two (strO y) (intO z) fun u i=>some (u,i)) fun l p=>some (.int (Txt.find3 (S l) (S p.1) p.2))
 | _,_=>none
def meK (m:ME)(x:T):Bool:=match m with
 | .get2=>(dcV x).isSome
 | _=>(strO x).isSome
noncomputable def isLs:T->Bool
 | .ls _=>true
 | _=>false
def ckT:Option (Nat×Str)->T->Prop
 | none,_=>True
 | some cx,t=>∃ o,obV t=some o/\o.1=cx.1/\cx.2∉o.2.1
noncomputable def tyOf:T->Option TyK
 | .bl _=>some .bool
 | .int _=>some .int
 | .str _=>some .str
 | .tp _=>some .tuple
 | .ls _=>some .list
 | .dc _ _=>some .dict
 | .fz t=>tyOf t
 | _=>none
noncomputable def isiO (x:T)(ks:List TyK):Option Bool:=
 match tyOf x with
 | some .bool=>some (ks.contains .bool||ks.contains .int)
 | some k=>some (ks.contains k)
 | none=>match x with
  | .non=>some false
  | _=>none
@[irreducible] noncomputable def rngT:List T->Option (List T)
 | [.int j]=>if -(2 ^ 62)<=j/\j<2 ^ 62 then some ((List.range j.toNat).map fun(k:Nat)=>.int (k:Int)) else none
 | [.int i,.int j]=>if (-(2 ^ 62)<=i/\i<2 ^ 62)/\(-(2 ^ 62)<=j/\j<2 ^ 62) then some ((List.range (j - i).toNat).map fun(k:Nat)=>.int (i+(k:Int))) else none
 | _=>none
noncomputable def yc (n:Nat):List T->List T
 | []=>[]
 | d::ds=>.tp [.int n,d]::yc (n+1) ds
noncomputable def signs (t:Lc):List T:=t.map fun c=>.str [c]
noncomputable def itT (k:IK)(ts:List T):Option (List T):=
 match k with
 | .rng=>rngT ts
 | .seq=>match ts with
  | [x]=>orE (shO (seqV x)) (orE ((lsV x).map views) ((strO x).map signs))
  | _=>none
 | .enumS=>match ts with
  | [x]=>(strO x).map fun t=>yc 0 (signs t)
  | _=>none
noncomputable def Vi:List T->Option (List Key×List T)
 | []=>some ([],[])
 | k::x::ts=>two (keyT k) (Vi ts) fun k r=>some (k::r.1,x::r.2)
 | _=>none
def Wi (n:Nat)(d:T):Option Sl:=
 if n=1 then some [.own d] else(shO (tpV d)).bind fun xs=>if xs.length=n then some (xs.map .own) else none
noncomputable def xS (n:Nat)(tt:Sl->(Bool->Sl->Prop)->Prop)(fe:Sl->QP->Prop):List T->List T->Sl->QP->Prop
 | [],acc,s,Q=>Q (.ls acc) s
 | d::ds,acc,s,Q=>∃ l,Wi n d=some l/\tt (l++s) fun b s1=>if b=true then fe s1 fun t s2=>acc.length<16777216/\xS n tt fe ds (acc++[t]) ((s2.drop n).map Slot.noAl) Q else xS n tt fe ds acc ((s1.drop n).map Slot.noAl) Q
noncomputable def putBack:List Md->List (Nat×Lc)->List T->Sl->Sl
 | .mu::ms,ip::ps,t::ts,s=>putBack ms ps ts (putS s ip.1 ip.2 t)
 | .fz::ms,ps,_::ts,s=>putBack ms ps ts s
 | .mv::ms,ps,_::ts,s=>putBack ms ps ts s
 | _,_,_,s=>s
noncomputable def getP (s:Sl)(i:Nat)(p:Lc):Option T:=match s[i]? with
 | some (.own r)=>getT r p
 | _=>none
def atA (j i:Nat)(s:Sl)(k:Nat)(p:Lc):Prop:=(k=i/\s[j]? = some (.al i p))\/(k=j/\p=[]/\∃ r,s[j]? = some (.own r))
mutual
noncomputable def WE:Bool->Xp->Sl->QP->XP->Prop
 | md,.b i=>fun s Q _=>∃ t,s[i]? = some (.own t)/\(md=true\/shr t=true)/\Q t s
 | md,.a j i=>fun s Q _=>∃ k p t,atA j i s k p/\getP s k p=some t/\(md=true\/shr t=true)/\Q t s
 | _,.v i=>fun s Q _=>∃ t,s[i]? = some (.own t)/\Q (fzn t) (setS s i (.own (fzn t)))
 | _,.m i=>fun s Q _=>∃ t,s[i]? = some (.own t)/\Q t (setS s i .no)
 | _,.c t=>fun s Q _=>Q t s
 | _,.g _ t=>fun s Q _=>Q (fzi t) s
 | _,.frz e=>fun s Q X=>WE false e s (fun t s1=>Q (fzn t) s1) X
 | _,.fp e=>fun s Q X=>WP e s (fun i p s1=>∃ t,getP s1 i p=some t/\Q (fzn t) (putS s1 i p (fzn t))) X
 | _,.bin op a b=>fun s Q X=>WE true a s (fun x s1=>WE true b s1 (fun y s2=>∃ z,binO op x y=some z/\Q z s2) X) X
 | _,.neg a=>fun s Q X=>WE true a s (fun x s1=>∃ i,intO x=some i/\Q (.int (-i)) s1) X
 | _,.cmp op a b=>fun s Q X=>WE true a s (fun x s1=>WE true b s1 (fun y s2=>∃ z,cmpO op x y=some z/\Q (.bl z) s2) X) X
 | _,.chn o1 o2 a b c=>fun s Q X=>WE true a s (fun x s1=>WE true b s1 (fun y s2=>∃ i j,intO x=some i/\intO y=some j/\∃ z,cmpI o1 i j=some z /\
   if z=true then WE true c s2 (fun w s3=>∃ k,intO w=some k/\∃ z,cmpI o2 j k=some z/\Q (.bl z) s3) X else Q (.bl false) s2) X) X
 | _,.bo k es=>fun s Q X=>WB k es s Q X
 | _,.not a=>fun s Q X=>WE true a s (fun x s1=>∃ b,blO x=some b/\Q (.bl (!b)) s1) X
 | _,.t a=>fun s Q X=>WE true a s (fun x s1=>∃ b,truT x=some b/\Q (.bl b) s1) X
 | _,.tn a=>fun s Q X=>WE true a s (fun x s1=>∃ b,blO x=some b/\Q (.bl (!b)) s1) X
 | _,.tb k es=>fun s Q X=>WTb k es s (fun b s1=>Q (.bl b) s1) X
 | md,.ife t a b=>fun s Q X=>WE true t s (fun x s1=>∃ z,blO x=some z/\if z=true then WE md a s1 Q X else WE md b s1 Q X) X
 | _,.lst es=>fun s Q X=>WEs false es s (fun ts s1=>ts.length<=16777216/\Q (.ls ts) s1) X
 | _,.tup es=>fun s Q X=>WEs false es s (fun ts s1=>ts.length<=16777216/\Q (.tp ts) s1) X
 | _,.dct es=>fun s Q X=>WEs false es s (fun ts s1=>∃ d,Vi ts=some d/\d.1.length<=15/\Q (.dc (Km [] [] d.1 d.2).1 (Km [] [] d.1 d.2).2) s1) X
 | md,.ix a k=>fun s Q X=>WE true a s (fun x s1=>WE true k s1 (fun y s2=>∃ z,ixO x y=some z/\(md=true\/shr z=true)/\Q z s2) X) X
 | _,.sl a lo hi=>fun s Q X=>WE true a s (fun x s1=>WO lo s1 (fun l s2=>WO hi s2 (fun h s3=>∃ z,slO x l h=some z/\Q z s3) X) X) X
 | md,.at a c f=>fun s Q X=>WE true a s (fun x s1=>∃ z,fldO x c f=some z/\(md=true\/shr z=true)/\Q z s1) X
 | _,.call _ ms ln f es=>fun s Q X=>WA ln none ms es s (fun ts ps s1=>f ts (fun r ts'=>(ln=true->cln r=true)/\Q r (putBack ms ps ts' s1)) fun x ts'=>(ln=true->mfrs x.ts=true)/\X x (putBack ms ps ts' s1)) X
 | _,.meth c x ms ln f es=>fun s Q X=>WA ln (some (c,x)) ms es s (fun ts ps s1=>f ts (fun r ts'=>(ln=true->cln r=true)/\Q r (putBack ms ps ts' s1)) fun x ts'=>(ln=true->mfrs x.ts=true)/\X x (putBack ms ps ts' s1)) X
 | _,.make c _ ms f es=>fun s Q X=>WA false none ms es s (fun ts ps s1=>f (.ob c [] []::ts) (fun r ts'=>r=.non/\∃ o os',ts' = o::os'/\Q o (putBack ms ps os' s1)) fun x ts'=>X x (putBack ms ps ts'.tail s1)) X
 | _,.bi b es=>fun s Q X=>WEs true es s (fun ts s1=>∃ z,biO b ts=some z/\Q z s1) X
 | _,.isi a ks=>fun s Q X=>WE true a s (fun x s1=>∃ b,isiO x ks=some b/\Q (.bl b) s1) X
 | _,.me m o es=>fun s Q X=>WE true o s (fun x s1=>meK m x=true/\WEs true es s1 (fun ts s2=>∃ z,meO m x ts=some z/\Q z s2) X) X
 | _,.mu m p es=>fun s Q X=>WP p s (fun i q s1=>(∃ t,getP s1 i q=some t/\isLs t=true)/\WEs false es s1 (fun ts s2=>∃ t r,getP s2 i q=some t/\muT m t ts=some r/\Q r.2 (putS s2 i q r.1)) X) X
 | _,.tpl e=>fun s Q X=>WE false e s (fun x s1=>∃ xs,x=.ls xs/\Q (.tp xs) s1) X
 | _,.kget _ d es=>fun s Q X=>WEs false es s (fun ts s1=>∃ y w t,ts=[y,w]/\strO y=some t/\Q (kgO d t w) s1) X
 | _,.isc a _ c=>fun s Q X=>WE true a s (fun x s1=>∃ o,obV x=some o/\o.1=c/\Q (.bl true) s1) X
 | _,.lc elt n k its ifs=>fun s Q X=>WEs true its s (fun ts s1=>∃ ds,itT k ts=some ds/\xS n (fun s K=>WTb true ifs s K fun _ _=>False) (fun s K=>WE false elt s K fun _ _=>False) ds [] (s1.map Slot.noAl) Q) X
noncomputable def WEs:Bool->List Xp->Sl->(List T->Sl->Prop)->XP->Prop
 | _,[],s,Q,_=>Q [] s
 | md,e::es,s,Q,X=>WE md e s (fun t s1=>WEs md es s1 (fun ts s2=>Q (t::ts) s2) X) X
noncomputable def WA:Bool->Option (Nat×Str)->List Md->List Xp->Sl->(List T->List (Nat×Lc)->Sl->Prop)->XP->Prop
 | _,_,_,[],s,Q,_=>Q [] [] s
 | ln,ck,.mu::ms,e::es,s,Q,X=>WP e s (fun i p s1=>(∃ t,getP s1 i p=some t/\ckT ck t)/\WA ln none ms es s1 (fun ts ps s2=>∃ t,getP s2 i p=some t/\Q (t::ts) ((i,p)::ps) s2) X) X
 | ln,ck,.fz::ms,e::es,s,Q,X=>WE ln e s (fun t s1=>ckT ck t/\WA ln none ms es s1 (fun ts ps s2=>Q (fzn t::ts) ps s2) X) X
 | ln,ck,.mv::ms,e::es,s,Q,X=>WE false e s (fun t s1=>ckT ck t/\WA ln none ms es s1 (fun ts ps s2=>Q (t::ts) ps s2) X) X
 | _,_,[],_::_,_,_,_=>False
noncomputable def WP:Xp->Sl->(Nat->Lc->Sl->Prop)->XP->Prop
 | .b i,s,Q,_=>(∃ t,s[i]? = some (.own t))/\Q i [] s
 | .a j i,s,Q,_=>∃ k p,atA j i s k p/\Q k p s
 | .ix a k,s,Q,X=>WP a s (fun i p s1=>WE true k s1 (fun y s2=>∃ t j,getP s2 i p=some t/\stepI t y=some j/\Q i (p++[j]) s2) X) X
 | .at a c f,s,Q,X=>WP a s (fun i p s1=>∃ t j,getP s1 i p=some t/\Vg t c f=some j/\Q i (p++[j]) s1) X
 | _,_,_,_=>False
noncomputable def WO:List Xp->Sl->(Option Int->Sl->Prop)->XP->Prop
 | [],s,Q,_=>Q none s
 | e::es,s,Q,X=>es=[]/\WE true e s (fun x s1=>∃ i,intO x=some i/\Q (some i) s1) X
noncomputable def WB:Bool->List Xp->Sl->QP->XP->Prop
 | _,[],_,_,_=>False
 | k,e::es,s,Q,X=>WE true e s (fun x s1=>∃ b,blO x=some b/\(es=[]/\Q (.bl b) s1\/es≠[]/\if b=k then WB k es s1 Q X else Q (.bl b) s1)) X
noncomputable def WTb:Bool->List Xp->Sl->(Bool->Sl->Prop)->XP->Prop
 | k,[],s,Q,_=>Q k s
 | k,e::es,s,Q,X=>WE true e s (fun x s1=>∃ b,blO x=some b/\if b=k then WTb k es s1 Q X else Q b s1) X
end
noncomputable def setN:Lc->List T->Sl->Option Sl
 | [],[],s=>some s
 | i::is,o::os,s=>setN is os (setS s i (.own o))
 | _,_,_=>none
def unT (t:T):Option (List T):=tpV t
def Wj (t:Tg)(d:T)(s:Sl):Option Sl:=
 match t with
 | .v i=>some (setS s i (.own d))
 | .tup is=>(unT d).bind fun ds=>setN is ds s
 | _=>none
def WT (t:Tg)(o:T)(s:Sl)(Q:Sl->Prop)(X:XP):Prop:=
 match t with
 | .v i=>Q (setS s i (.own o))
 | .tup is=>∃ ds s1,unT o=some ds/\setN is ds s=some s1/\Q s1
 | .sub p k=>WP p s (fun i q s1=>WE true k s1 (fun y s2=>∃ t t',getP s2 i q=some t/\putO t y o=some t'/\Q (putS s2 i q t')) X) X
 | .fld p c f=>WP p s (fun i q s1=>∃ t t',getP s1 i q=some t/\Wc t c f o=some t'/\Q (putS s1 i q t')) X
 | .al _=>False
def ve (bd:T->Sl->Option Sl)(body:Sl->Ends->Prop)(D:Ends):List T->Sl->Prop
 | [],s=>D.nx s
 | d::ds,s=>∃ s1,bd d s=some s1/\body s1 { D with nx:=ve bd body D ds,ct:=ve bd body D ds,bk:=D.nx }
def seqK:T->Option (List T)
 | .ls xs=>some xs
 | .tp xs=>some xs
 | .fz (.tp xs)=>some (xs.map fzi)
 | _=>none
def Vj (h:Option Nat)(i:Nat)(p:Lc)(s:Sl):Prop:=match h with
 | none=>p=[]
 | some k=>s[k]? = some (.al i p)
noncomputable def jh (j:Nat)(h:Option Nat)(i:Nat)(p:Lc)(il:Bool)(body:Sl->Ends->Prop)(D:Ends)(n:Nat):Nat->Sl->Prop
 | 0,s=>(Vj h i p s/\∃ t xs,getP s i p=some t/\isLs t=il/\seqK t=some xs/\xs.length=n)/\D.nx s
 | m+1,s=>Vj h i p s/\∃ t xs x,getP s i p=some t/\isLs t=il/\seqK t=some xs/\xs.length=n/\xs[n - (m+1)]? = some x /\
   ∃ sl,((kids t).isSome=true/\sl=.al i (p++[n - (m+1)])\/shr x=true/\sl=.own x)/\body (setS s j sl) { D with nx:=jh j h i p il body D n m,ct:=jh j h i p il body D n m,bk:=D.nx }
def vf (t:Sl->(Bool->Sl->Prop)->Prop)(body:Sl->Ends->Prop)(D:Ends):Nat->Sl->Prop
 | 0,_=>False
 | n+1,s=>t s fun b s1=>if b=true then body s1 { D with nx:=vf t body D n,ct:=vf t body D n,bk:=D.nx } else D.nx s1
mutual
noncomputable def WS:Cm->Sl->Ends->Prop
 | .ret e,s,D=>WE false e s D.rt D.ex
 | .asg t e,s,D=>match t with
  | .al j=>WP e s (fun i p s1=>j≠i/\D.nx (setS s1 j (.al i p))) D.ex
  | t=>WE false e s (fun o s1=>WT t o s1 D.nx D.ex) D.ex
 | .aug i op e,s,D=>∃ x,s[i]? = some (.own x)/\WE true e s (fun y s1=>∃ z,binO op x y=some z/\(intO x).isSome=true/\(intO y).isSome=true/\D.nx (setS s1 i (.own z))) D.ex
 | .ife t a b,s,D=>WE true t s (fun x s1=>∃ z,blO x=some z/\if z=true then WSs a s1 D else WSs b s1 D) D.ex
 | .loop t k its b,s,D=>WEs true its s (fun ts s1=>∃ ds,itT k ts=some ds/\ve (Wj t) (fun s D=>WSs b s D) D ds s1) D.ex
 | .loopA j h i b,s,D=>∃ p t xs,Vj h i p s/\getP s i p=some t/\seqK t=some xs/\jh j h i p (isLs t) (fun s D=>WSs b s D) D xs.length xs.length s
 | .whl t b,s,D=>∃ n,vf (fun s K=>WE true t s (fun x s1=>∃ z,blO x=some z/\K z s1) D.ex) (fun s D=>WSs b s D) D n s
 | .ex e,s,D=>WE true e s (fun _ s1=>D.nx s1) D.ex
 | .never,_,_=>False
noncomputable def WSs:List Cm->Sl->Ends->Prop
 | [],s,D=>D.nx s
 | c::cs,s,D=>WS c s { D with nx:=fun s1=>WSs cs s1 D }
end
def Jk:Tg->Lc
 | .v i=>[i]
 | .tup is=>is
 | .sub p k=>root p++(zp p++zp k)
 | .fld p _ _=>root p++zp p
 | .al j=>[j]
mutual
noncomputable def Kt:Cm->Lc
 | .ret e=>zp e
 | .asg t e=>zp e++Jk t
 | .aug i _ e=>zp e++[i]
 | .ife t a b=>zp t++(jW a++jW b)
 | .loop t _ its b=>zu its++(Jk t++jW b)
 | .loopA j _ _ b=>[j]++jW b
 | .whl t b=>zp t++jW b
 | .ex e=>zp e
 | _=>[]
noncomputable def jW:List Cm->Lc
 | []=>[]
 | c::cs=>Kt c++jW cs
end
noncomputable def retA:List Md->Sl->Option (List T)
 | [],_=>some []
 | .mu::ms,.own t::s=>(retA ms s).map (t::·)
 | .mu::_,_=>none
 | .fz::ms,_::s=>(retA ms s).map (.non::·)
 | .mv::ms,_::s=>(retA ms s).map (.non::·)
 | _,[]=>none
noncomputable def fnD (ms:List Md)(nl:Nat)(body:List Cm):Fn:=fun ts Q X=>
 ts.length=ms.length/\WSs body (ts.map .own++List.replicate (nl - ms.length) .no) { nx:=fun s=>∃ r,retA ms s=some r/\Q .non r,rt:=fun t s=>∃ r,retA ms s=some r/\Q t r,bk:=fun _=>False,ct:=fun _=>False,ex:=fun x s=>∃ r,retA ms s=some r/\X x r }
def zcx:R2:=fun x y H Q=>∃ a b xs ys,x=.ref a/\y=.ref b/\H a=some (.tup xs)/\H b=some (.tup ys)/\xs.length+ys.length<=1000000 /\
 (ys=[]->Q (.ref a) H)/\(xs=[]->Q (.ref b) H)/\∀ p,H p=none->Q (.ref p) (upd H p (.tup (xs++ys)))
theorem zbH {X:Cx}:OpR X (binaryOp .Add) zcx:=by
 intro pins s σ H x y v u Q I rx ry h
 obtain⟨a,b,xs,ys,rfl,rfl,ha,hb,hz,q1,q2,q3⟩:=h
 by_cases hx:xs=[]
 ·subst hx
  cases rx
  cases ry
  obtain⟨its,r1,p1,_⟩:=I.tuple (SqT.of ha)
  obtain⟨its2,r2,p2,_⟩:=I.tuple (SqT.of hb)
  obtain⟨⟨cls,dd,data,sl⟩,ho,hc,n,hd⟩:=id p1
  obtain⟨⟨cls2,dd2,data2,sl2⟩,ho2,hc2,n2,hd2⟩:=id p2
  simp only at hc hd hc2 hd2
  subst hc hd hc2 hd2
  have e0:its=[]:=r1.nil_iff.mpr rfl
  exact concat_meets ⟨_,ho,rfl⟩ ⟨_,ho2,rfl⟩ noFill_tuple_add seq_tuple_add gk U6 (U3 _ _)
   (tuple_addW0 a b its.toArray its2.toArray n n2 dd dd2 sl sl2 (by simp [e0])) ⟨ho,ho2,.ref b,H,I,rfl,q2 rfl⟩
 ·exact zbo pins s σ H _ _ v u Q I rx ry ⟨a,b,xs,ys,rfl,rfl,SqT.of ha,SqT.of hb,hx,by rw [sizeLine_eq];lia,fun e=>q1 e,fun _ p hp=>q3 p hp⟩
def addR:R2:=fun x y H Q=>rI0 (fun i j=>.int (i+j)) x y H Q\/(∃ i j,x=.str (S i)/\y=.str (S j)/\i.length+j.length<=sizeLine/\Q (.str (S (i++j))) H)\/zcx x y H Q\/rCat x y H Q
def mulR:R2:=fun x y H Q=>rI IntMulOk (fun i j=>.int (i * j)) x y H Q
def binR:BO->R2
 | .add=>addR
 | .sub=>rI0 fun i j=>.int (i - j)
 | .mul=>mulR
 | .fdiv=>rI CDiv fun i j=>.int (i / j)
 | .mod=>rI (fun _ j=>0<j) fun i j=>.int (i % j)
 | .pow=>rI CPow fun i j=>.int (i ^ j.toNat)
noncomputable def binC:BO->Operator
 | .add=>.Add
 | .sub=>.Sub
 | .mul=>.Mult
 | .fdiv=>.FloorDiv
 | .mod=>.Mod
 | .pow=>.Pow
theorem wc {X:Cx}{f:Value->Value->Sem Value}{r r':R2}(h:OpR X f r)(k:OpR X f r'):OpR X f (fun x y H Q=>r x y H Q\/r' x y H Q):=by
 intro pins s σ H x y v u Q I rx ry z
 rcases z with z | z
 ·exact h pins s σ H x y v u Q I rx ry z
 ·exact k pins s σ H x y v u Q I rx ry z
theorem zdN {X:Cx}(op:BO):OpR X (binaryOp (binC op)) (binR op):=by
 cases op
 ·exact wc zdp (wc zbu (wc zbH zdB))
 ·exact zdq
 ·exact zbv
 ·exact zbe
 ·exact zdr
 ·exact zds
noncomputable def cmpC:CO->CmpOp
 | .eq=>.Eq
 | .ne=>.NotEq
 | .lt=>.Lt
 | .le=>.LtE
 | .gt=>.Gt
 | .ge=>.GtE
 | .isin=>.In
 | .notin=>.NotIn
 | .is=>.Is
 | .isnot=>.IsNot
theorem Ku {X:Cx}{r r':R2}(h:IxR X r)(k:IxR X r'):IxR X (fun x y H Q=>r x y H Q\/r' x y H Q):=by
 intro value slice pins s σ H x y v u Q I rx ry z hs
 rcases z with z | z
 ·exact h value slice pins s σ H x y v u Q I rx ry z hs
 ·exact k value slice pins s σ H x y v u Q I rx ry z hs
def ixR (K:Le):R2:=fun x y H Q=>rIxL K x y H Q\/rIxT K x y H Q\/zcr x y H Q
theorem Kv {X:Cx}{K:Le}(hK:X.K=K)(hu:X.A.units+64<cLine):IxR X (ixR K):=Ku (Y8 hK) (Ku (zbw hK) ix_S)
theorem zdO {X:Cx}{r r':V->Option Int->Option Int->Hp->VK->Prop}(h:SlR X r)(k:SlR X r'):SlR X (fun x lo hi H Q=>r x lo hi H Q\/r' x lo hi H Q):=by
 intro pins s σ H x v vl vu lo hi sl Q I rx hs pl pu z
 rcases z with z | z
 ·exact h pins s σ H x v vl vu lo hi sl Q I rx hs pl pu z
 ·exact k pins s σ H x v vl vu lo hi sl Q I rx hs pl pu z
def slR (K:Le):V->Option Int->Option Int->Hp->VK->Prop:=fun x lo hi H Q=>(∃ l,x=.str (S l)/\l.length<=sizeLine/\Q (.str (S (cutN l lo hi))) H)\/rSlL K x lo hi H Q
theorem zdP {X:Cx}{K:Le}(hK:X.K=K):SlR X (slR K):=zdO sl_S (Y9 hK)
theorem Kw {X:Cx}{f:Value}{r r':List V->Hp->VK->Prop}(h:jc X f r)(k:jc X f r'):jc X f (fun xs H Q=>r xs H Q\/r' xs H Q):=by
 intro pins s σ H xs us Q I rx z
 rcases z with z | z
 ·exact h pins s σ H xs us Q I rx z
 ·exact k pins s σ H xs us Q I rx z
theorem Kx {α β:Type}{vs:List α}{xs:List β}(h:vs.length=xs.length):(!xs.isEmpty) = !vs.isEmpty:=by
 cases vs<;>cases xs<;>first | rfl | cases h
def rInD (n:Bool):R2:=fun x y H Q=>∃ a o,y=.ref a/\DGet H a x o/\Q (.bl (if n=true then !o.isSome else o.isSome)) H
theorem zdQ {X:Cx}(hu:X.A.units+1<cLine):OpR X (compareOp .In) (rInD false):=by
 intro pins s σ H x y v u Q I rx ry h
 obtain⟨a,o,rfl,g,q⟩:=h
 cases ry
 exact d_in hu I g rx fun s' I'=>⟨.bl o.isSome,H,I',rfl,q⟩
theorem Yo {X:Cx}(hu:X.A.units+1<cLine):OpR X (compareOp .NotIn) (rInD true):=by
 intro pins s σ H x y v u Q I rx ry h
 obtain⟨a,o,rfl,g,q⟩:=h
 cases ry
 exact zbC hu I g rx fun s' I'=>⟨.bl !o.isSome,H,I',rfl,q⟩
noncomputable def cmpR (K:Le):CO->R2
 | .eq=>fun x y H Q=>rEq x y H Q\/rEqD x y H Q
 | .ne=>fun x y H Q=>rNe x y H Q\/rNeD x y H Q
 | .lt=>rI0 fun i j=>.bl (decide (i<j))
 | .le=>rI0 fun i j=>.bl (decide (i<=j))
 | .gt=>rI0 fun i j=>.bl (decide (j<i))
 | .ge=>rI0 fun i j=>.bl (decide (j<=i))
 | .isin=>fun x y H Q=>(∃ i j,x=.str i/\y=.str j/\Q (.bl !(Builtin.Str.occurrences j i 0 j.length 1).isEmpty) H)\/rIn K false x y H Q\/rInD false x y H Q
 | .notin=>fun x y H Q=>(∃ i j,x=.str i/\y=.str j/\Q (.bl !(!(Builtin.Str.occurrences j i 0 j.length 1).isEmpty)) H)\/rIn K true x y H Q\/rInD true x y H Q
 | .is=>fun x y H Q=>(y=.non/\Q (.bl (decide (x=.non))) H)\/rIsB x y H Q
 | .isnot=>fun x y H Q=>(y=.non/\Q (.bl (!decide (x=.non))) H)\/Ve x y H Q
theorem kD {X:Cx}{K:Le}(hK:X.K=K)(hu:X.A.units+64<cLine)(op:CO):OpR X (compareOp (cmpC op)) (cmpR K op):=by
 cases op
 ·exact wc zfh (zdI hu)
 ·exact wc zfi (zdJ hu)
 ·exact zfj
 ·exact zfk
 ·exact zfl
 ·exact zfm
 ·exact wc V2 (wc (zbB hK) (zdQ (by lia)))
 ·exact wc Ja (wc (Xu hK) (Yo (by lia)))
 ·exact wc zdu zdL
 ·exact wc zbf Yk
variable {W:Wd} {F H:Hp} {B:Ld} {x y z:T} {v u:V}
theorem zJ {α:Type}{a b:Option α}{z:α}(h:orE a b=some z):a=some z\/b=some z:=by
 cases a with
 | none=>exact .inr h
 | some x=>exact .inl h
theorem zz {α β γ:Type}{a:Option α}{b:Option β}{f:α->β->Option γ}{z:γ}(h:two a b f=some z):∃ x y,a=some x/\b=some y/\f x y=some z:=by
 cases a with
 | none=>cases h
 | some x=>
  cases b with
  | none=>cases h
  | some y=>exact⟨x,y,rfl,rfl,h⟩
theorem jO {o:Option (List T)}{xs:List T}(h:shO o=some xs):o=some xs/\shrs xs=true:=by
 cases o with
 | none=>cases h
 | some ys=>
  simp only [shO,uJ] at h
  split at h
  ·cases h;exact⟨rfl,by assumption⟩
  ·cases h
theorem zK {i:Int}(h:Tr W F H x v B)(e:intO x=some i):v=.int i:=by
 cases x<;>simp only [intO,uw,reduceCtorEq] at e
 subst e;exact h.2
theorem vg {i:Bool}(h:Tr W F H x v B)(e:blO x=some i):v=.bl i:=by
 cases x<;>simp only [blO,uw,reduceCtorEq] at e
 subst e;exact h.2
theorem qm {t:Lc}(h:Tr W F H x v B)(e:strO x=some t):v=.str (S t)/\t.length<=16777216:=by
 cases x<;>simp only [strO,uw,reduceCtorEq] at e
 subst e;exact h.2
theorem vh {i:Int}:Tr W F H (.int i) (.int i) []:=⟨rfl,rfl⟩
theorem yd {i:Bool}:Tr W F H (.bl i) (.bl i) []:=⟨rfl,rfl⟩
theorem yo:Tr W F H .non .non []:=⟨rfl,rfl⟩
theorem xn {t:Lc}(h:t.length<=16777216):Tr W F H (.str t) (.str (S t)) []:=⟨rfl,rfl,h⟩
theorem kE {xs:List T}(g:Same F H)(h:Tr W F H x v B)(e:lsV x=some xs):∃ p vs C,v=.ref p/\H p=some (.lst vs)/\TrL W F H xs vs C/\C.Sublist B:=by
 unfold lsV at e
 split at e
 ·cases e
  obtain⟨p,vs,C,e,h1,rfl,h2⟩:=h
  exact⟨p,vs,C,e,h1,h2,UJ _ _⟩
 ·cases e
  obtain⟨_,p,vs,e,h1,h2⟩:=h
  exact⟨p,vs,[],e,g _ _ h1,je h2,Uv _⟩
 ·cases e
theorem vi {xs:List T}(h:Tr W F H x v B)(e:tpV x=some xs):∃ p vs C,v=.ref p/\F p=some (.tup vs)/\TrL W F H xs vs C/\C.Sublist B:=by
 unfold tpV at e
 split at e
 ·cases e
  obtain⟨p,vs,e,h1,h2⟩:=h
  exact⟨p,vs,B,e,h1,h2,U1 _⟩
 ·cases e
  obtain⟨_,p,vs,e,h1,h2⟩:=h
  exact⟨p,vs,[],e,h1,je h2,Uv _⟩
 ·cases e
theorem zdR {xs:List T}(g:Same F H)(h:Tr W F H x v B)(e:ksV x=some xs):∃ p vs C,v=.ref p/\(SqL W.K H p vs\/SqT W.K H p vs)/\TrL W F H xs vs C/\C.Sublist B:=by
 cases x<;>simp only [ksV,uw,reduceCtorEq] at e
 subst e
 rename_i l ys
 obtain⟨_,p,vs,e,h1,h2⟩:=h
 refine⟨p,vs,[],e,?_,je h2,Uv _⟩
 cases l
 ·exact .inr (ZH g h1)
 ·exact .inl (yN g h1)
theorem Zf {xs:List T}(g:Same F H)(h:Tr W F H x v B)(e:seqV x=some xs):∃ p vs C,v=.ref p/\(SqL W.K H p vs\/SqT W.K H p vs)/\TrL W F H xs vs C/\C.Sublist B:=by
 rcases zJ e with e | e
 ·obtain⟨p,vs,C,e,h1,h2⟩:=kE g h e
  exact⟨p,vs,C,e,.inl (SqL.of h1),h2⟩
 ·rcases zJ e with e | e
  ·obtain⟨p,vs,C,e,h1,h2⟩:=vi h e
   exact⟨p,vs,C,e,.inr (SqT.of (g _ _ h1)),h2⟩
  ·exact zdR g h e
theorem Ky {xs:List T}(g:Same F H)(h:Tr W F H x v B)(e:lsK x=some xs):∃ p vs C,v=.ref p/\SqL W.K H p vs/\TrL W F H xs vs C/\C.Sublist B:=by
 rcases zJ e with e | e
 ·obtain⟨p,vs,C,e,h1,h2⟩:=kE g h e
  exact⟨p,vs,C,e,SqL.of h1,h2⟩
 ·unfold ksL at e
  split at e
  ·cases e
   obtain⟨_,p,vs,e,h1,h2⟩:=h
   exact⟨p,vs,[],e,yN g h1,je h2,Uv _⟩
  ·cases e
theorem Kz {d:List Key×List T}(g:Same F H)(h:Tr W F H x v B)(e:dcV x=some d):∃ p kvs C,v=.ref p/\H p=some (.dK kvs)/\kvs.map (·.1)=d.1/\TrL W F H d.2 (kvs.map (·.2)) C/\C.Sublist B:=by
 unfold dcV at e
 split at e
 ·cases e
  obtain⟨p,vs,C,e,h1,rfl,h2,h3⟩:=h
  exact⟨p,vs,C,e,h1,h2,h3,UJ _ _⟩
 ·cases e
  obtain⟨_,p,vs,e,h1,h2,h3⟩:=h
  exact⟨p,vs,[],e,g _ _ h1,h2,je h3,Uv _⟩
 ·cases e
theorem KA {d:Nat×Lh×List T}(g:Same F H)(h:Tr W F H x v B)(e:obV x=some d):∃ p dx kvs C,v=.ref p/\H p=some (.ins (W.cl d.1) dx kvs)/\kvs.map (·.1)=d.2.1/\TrL W F H d.2.2 (kvs.map (·.2)) C/\C.Sublist B:=by
 unfold obV at e
 split at e
 ·cases e
  obtain⟨p,dx,vs,C,e,h1,rfl,h2,h3⟩:=h
  exact⟨p,dx,vs,C,e,h1,h2,h3,UJ _ _⟩
 ·cases e
  obtain⟨_,p,dx,vs,e,h1,h2,h3⟩:=h
  exact⟨p,dx,vs,[],e,g _ _ h1,h2,je h3,Uv _⟩
 ·cases e
theorem TrL.sh {C:Ld}{xs:List T}{vs:List V}(h:TrL W F H xs vs C)(s:shrs xs=true):TrL W F H xs vs []:=by rw [ZI s h] at h;exact h
theorem TrL.hp {H':Hp}{xs:List T}{vs:List V}(h:TrL W F H xs vs []){F':Hp}(g:Same F F'):TrL W F' H' xs vs []:=h.frame g fun _ hb=>by cases hb
theorem TrL.uncons {t:T}{ts:List T}{vs:List V}(h:TrL W F H (t::ts) vs []):∃ v r,vs=v::r/\Tr W F H t v []/\TrL W F H ts r []:=by
 obtain⟨v,r,A1,A2,e,ea,h1,h2⟩:=h
 obtain⟨rfl,rfl⟩:=Uo.mp ea.symm
 exact⟨v,r,e,h1,h2⟩
theorem TrL.cons0 {t:T}{ts:List T}{v:V}{r:List V}(h1:Tr W F H t v [])(h2:TrL W F H ts r []):TrL W F H (t::ts) (v::r) []:=⟨v,r,[],[],rfl,rfl,h1,h2⟩
theorem TrL.drop0:∀ {ts:List T} {vs:List V} (n:Nat),TrL W F H ts vs []->TrL W F H (ts.drop n) (vs.drop n) []
 | _,_,0,h=>h
 | [],_,n+1,h=>by rw [h.1];exact⟨rfl,rfl⟩
 | _::ts,_,n+1,h=>by obtain⟨v,r,rfl,_,h2⟩:=h.uncons;exact TrL.drop0 n h2
theorem TrL.take0:∀ {ts:List T} {vs:List V} (n:Nat),TrL W F H ts vs []->TrL W F H (ts.take n) (vs.take n) []
 | _,_,0,_=>by simp only [List.take_zero];exact⟨rfl,rfl⟩
 | [],_,n+1,h=>by rw [h.1];exact⟨rfl,rfl⟩
 | _::ts,_,n+1,h=>by obtain⟨v,r,rfl,h1,h2⟩:=h.uncons;exact TrL.cons0 h1 (TrL.take0 n h2)
theorem TrL.cut0 {ts:List T}{vs:List V}(h:TrL W F H ts vs [])(lo hi:Option Int):TrL W F H (cutL ts lo hi) (cutV vs lo hi) []:=by
 unfold cutL cutV
 rw [← h.len]
 exact(h.drop0 _).take0 _
theorem KC {α:Type}(xs:List α)(lo hi:Option Int):(cutL xs lo hi).length<=xs.length:=by
 unfold cutL
 rw [Us,Uh]
 lia
theorem TrL.at {ts:List T}{vs:List V}{A:Ld}{i:Int}{t:T}(h:TrL W F H ts vs A)(e:atI ts i=some t):∃ v C,atI vs i=some v/\Tr W F H t v C/\C.Sublist A:=by
 unfold atI at e ⊢
 rw [h.len]
 cases q:ixN ts.length i with
 | none=>rw [q] at e;cases e
 | some j=>
  rw [q] at e
  obtain⟨v,A1,A2,A3,h1,h2,h3,_⟩:=h.get (show ts[j]? = some t from e)
  exact⟨v,A2,h1,h3,by rw [h2];exact(UC _ _).trans (UA _ _)⟩
theorem Xv {ts:List T}{vs:List V}{Q:VK}(g:Same F H)(h:TrL W F H ts vs [])(q:∀ w F' H' B,Al F H F' H' B->Tr W F' H' (.ls ts) w B->Q w H'):∀ p,H p=none->Q (.ref p) (upd H p (.lst vs)):=fun p hp=>q _ F _ [p] (Al.cell g hp) ⟨p,vs,[],rfl,zw,rfl,h.hp fun _ _ h=>h⟩
theorem KD {ts:List T}{vs:List V}{Q:VK}(g:Same F H)(h:TrL W F H ts vs [])(q:∀ w F' H' B,Al F H F' H' B->Tr W F' H' (.tp ts) w B->Q w H'):∀ p,H p=none->Q (.ref p) (upd H p (.tup vs)):=fun p hp=>q _ _ _ [] (Al.froz g hp) ⟨p,vs,rfl,zw,h.hp (Al.froz (F:=F) g hp).sF⟩
def OS (W:Wd)(r:R2)(f:T->T->Option T):Prop:=∀ (F H:Hp) (x y:T) (v u:V) (B1 B2:Ld) (z:T) (Q:VK),Same F H->Tr W F H x v B1->Tr W F H y u B2->f x y=some z ->
 (∀ w F' H' B,Al F H F' H' B->Tr W F' H' z w B->Q w H')->r v u H Q
theorem zdS (op:BO):OS W (binR op) (binO op):=by
 intro F H x y v u B1 B2 z Q g hx hy e q
 have fin:∀ k,z=.int k->Q (.int k) H:=fun k e=>by subst e;exact q _ F H [] (Al.refl g) vh
 unfold binO at e
 rcases zJ e with e | e
 ·obtain⟨i,j,e1,e2,e⟩:=zz e
  have hv:=zK hx e1
  have hu:=zK hy e2
  subst hv;subst hu
  cases op<;>simp only [intOp,uw,uC] at e
  ·exact .inl ⟨i,j,rfl,rfl,fin _ e.symm⟩
  ·exact⟨i,j,rfl,rfl,fin _ e.symm⟩
  ·exact⟨i,j,rfl,rfl,e.1,fin _ e.2.symm⟩
  ·exact⟨i,j,rfl,rfl,e.1,fin _ e.2.symm⟩
  ·exact⟨i,j,rfl,rfl,e.1,fin _ e.2.symm⟩
  ·exact⟨i,j,rfl,rfl,e.1,fin _ e.2.symm⟩
 rcases zJ e with e | e
 ·obtain⟨a,b,e1,e2,e⟩:=zz e
  obtain⟨hv,la⟩:=qm hx e1
  obtain⟨hu,lb⟩:=qm hy e2
  subst hv;subst hu
  simp only [Kk,uC,uw] at e
  obtain⟨⟨rfl,h⟩,rfl⟩:=e
  exact .inr (.inl ⟨a,b,rfl,rfl,by rw [PySem.sizeLine_eq];exact h,q _ F H [] (Al.refl g) (xn (by rw [uf];exact h))⟩)
 rcases zJ e with e | e
 ·obtain⟨a,b,e1,e2,e⟩:=zz e
  obtain⟨e1,s1⟩:=jO e1
  obtain⟨e2,s2⟩:=jO e2
  obtain⟨p1,v1,C1,rfl,h1,t1,_⟩:=kE g hx e1
  obtain⟨p2,v2,C2,rfl,h2,t2,_⟩:=kE g hy e2
  simp only [Wb,uC,uw] at e
  obtain⟨⟨rfl,hl⟩,rfl⟩:=e
  exact .inr (.inr (.inr ⟨p1,p2,v1,v2,rfl,rfl,h1,h2,by rw [t1.len,t2.len,PySem.sizeLine_eq];exact hl,Xv g ((t1.sh s1).app (t2.sh s2)) q⟩))
 ·obtain⟨a,b,e1,e2,e⟩:=zz e
  obtain⟨e1,s1⟩:=jO e1
  obtain⟨e2,s2⟩:=jO e2
  obtain⟨p1,v1,C1,rfl,h1,t1,_⟩:=vi hx e1
  obtain⟨p2,v2,C2,rfl,h2,t2,_⟩:=vi hy e2
  simp only [Kl,uC,uw] at e
  obtain⟨⟨rfl,hl⟩,rfl⟩:=e
  have tt:=(t1.sh s1).app (t2.sh s2)
  refine .inr (.inr (.inl ⟨p1,p2,v1,v2,rfl,rfl,g _ _ h1,g _ _ h2,by rw [t1.len,t2.len];exact hl,fun e=>?_,fun e=>?_,KD g tt q⟩))
  ·subst e
   rw [ux] at tt
   exact q _ F H [] (Al.refl g) ⟨p1,v1,rfl,h1,tt⟩
  ·subst e
   exact q _ F H [] (Al.refl g) ⟨p2,v2,rfl,h2,tt⟩
theorem Jl {a:V}(h:Tr W F H x v B)(e:scT x=some a):v=a/\zH a=true:=by
 cases x<;>simp only [scT,uw,reduceCtorEq] at e<;>subst e
 ·exact⟨h.2,rfl⟩
 ·exact⟨h.2,rfl⟩
 ·exact⟨h.2,rfl⟩
 ·exact⟨h.2.1,rfl⟩
theorem Vk:∀ {ts:List T} {vs xs:List V} {C:Ld},TrL W F H ts vs C->scTs ts=some xs->vs=xs/\xs.all zH=true
 | [],_,_,_,h,e=>by cases e;exact⟨h.1,rfl⟩
 | t::ts,_,_,_,⟨v,r,A1,A2,e0,ea,h1,h2⟩,e=>by
  obtain⟨a,as,e1,e2,e⟩:=zz e
  cases e
  obtain⟨rfl,f1⟩:=Jl h1 e1
  obtain⟨rfl,f2⟩:=Vk h2 e2
  exact⟨e0,by rw [Up,f1,f2];rfl⟩
mutual
theorem Zg {H:Hp}:∀ {t:T} {v:V} {e:Dat},IsV W H t v->datT t=some e->IsDt H e v
 | .non,_,_,h,e=>by cases e;cases h;exact⟨rfl,rfl⟩
 | .bl _,_,_,h,e=>by cases e;cases h;exact⟨rfl,rfl⟩
 | .int _,_,_,h,e=>by cases e;cases h;exact⟨rfl,rfl⟩
 | .str _,_,_,h,e=>by cases e;obtain⟨rfl,_⟩:=h;exact⟨rfl,rfl⟩
 | .fz t,v,_,h,e=>Zg (t:=t) (v:=v) h (by simpa only [datT] using e)
 | .tp ds,_,_,⟨p,vs,e0,h1,h2⟩,e=>by
  simp only [datT,uo] at e
  obtain⟨es,e,rfl⟩:=e
  exact⟨p,vs,e0,h1,ZN h2 e⟩
 | .ls ds,_,_,⟨p,vs,e0,h1,h2⟩,e=>by
  simp only [datT,uo] at e
  obtain⟨es,e,rfl⟩:=e
  exact⟨p,vs,e0,h1,ZN h2 e⟩
 | .dc _ _,_,_,_,e=>by simp only [datT,reduceCtorEq] at e
 | .ob _ _ _,_,_,_,e=>by simp only [datT,reduceCtorEq] at e
 | .hol _,_,_,_,e=>by simp only [datT,reduceCtorEq] at e
 | .ks _ _,_,_,_,e=>by simp only [datT,reduceCtorEq] at e
theorem ZN {H:Hp}:∀ {ts:List T} {vs:List V} {es:List Dat},IsVs W H ts vs->jx ts=some es->IsDs H es vs
 | [],_,_,h,e=>by cases e;exact h
 | t::ts,_,_,⟨v,r,e0,h1,h2⟩,e=>by
  simp only [jx] at e
  obtain⟨a,as,e1,e2,e⟩:=zz e
  cases e
  exact⟨v,r,e0,Zg h1 e1,ZN h2 e2⟩
end
theorem Wk (h:Tr W F H x v B)(e:cont x=true):∃ a,v=.ref a:=by
 unfold cont at e
 split at e
 ·obtain⟨p,vs,e,_⟩:=h;exact⟨p,e⟩
 ·obtain⟨p,vs,C,e,_⟩:=h;exact⟨p,e⟩
 ·obtain⟨_,p,vs,e,_⟩:=h;exact⟨p,e⟩
 ·obtain⟨_,p,vs,e,_⟩:=h;exact⟨p,e⟩
 ·cases e
theorem Vl {H:Hp}{b:Bool}:∀ {x:T} {v:V},IsV W H x v->nonT x=some b->decide (v=.non)=b
 | .non,_,h,e=>by cases e;rw [show _=V.non from h];rfl
 | .fz t,v,h,e=>Vl (x:=t) (v:=v) h (by simpa only [nonT] using e)
 | .hol _,_,h,e=>by cases e
 | .bl _,_,h,e=>by cases e;rw [show _=V.bl _ from h];rfl
 | .int _,_,h,e=>by cases e;rw [show _=V.int _ from h];rfl
 | .str _,_,h,e=>by cases e;rw [h.1];rfl
 | .tp _,_,⟨p,vs,e0,_⟩,e=>by cases e;rw [e0];rfl
 | .ls _,_,⟨p,vs,e0,_⟩,e=>by cases e;rw [e0];rfl
 | .dc _ _,_,⟨p,vs,e0,_⟩,e=>by cases e;rw [e0];rfl
 | .ob _ _ _,_,⟨p,dx,vs,e0,_⟩,e=>by cases e;rw [e0];rfl
 | .ks _ _,_,⟨p,vs,e0,_⟩,e=>by cases e;rw [e0];rfl
theorem zcy {B1 B2:Ld}{b:Bool}(g:Same F H)(hx:Tr W F H x v B1)(hy:Tr W F H y u B2)(e:eqT x y=some b) :
  (scal v u=true/\decide (v=u)=b)\/∃ d e a c,v=.ref a/\u=.ref c/\IsDt H d (.ref a)/\IsDt H e (.ref c)/\depD d<=50/\eqD d e=b:=by
 rcases zJ e with e | e
 ·obtain⟨x',y',e1,e2,e⟩:=zz e
  obtain⟨rfl,_⟩:=Jl hx e1
  obtain⟨rfl,_⟩:=Jl hy e2
  simp only [uC,uw] at e
  exact .inl e
 ·split at e
  ·rename_i hc
   rw [ub] at hc
   obtain⟨d,e',e1,e2,e⟩:=zz e
   simp only [uC,uw] at e
   obtain⟨a,rfl⟩:=Wk hx hc.1
   obtain⟨c,rfl⟩:=Wk hy hc.2
   exact .inr ⟨d,e',a,c,rfl,rfl,Zg (hx.now g) e1,Zg (hy.now g) e2,e.1,e.2⟩
  ·cases e
theorem Vm {k:Key}(h:Tr W F H x v B)(e:keyT x=some k):v=kV k:=by
 cases x<;>simp only [keyT,uw,reduceCtorEq] at e<;>subst e
 ·exact h.2
 ·exact h.2.1
theorem KG {ks:List Key}{kvs:List (Key×V)}{k:Key}(e:kvs.map (·.1)=ks):(valV kvs k).isSome=ks.any fun k'=>decide (k' = k):=by
 subst e
 unfold valV
 induction kvs with
 | nil=>rfl
 | cons a l ih=>
  rw [Ur,uA,Ui]
  cases h:decide (a.1=k) with
  | true=>rfl
  | false=>rw [gz];exact ih
theorem zcz {B1 B2:Ld}{b:Bool}(g:Same F H)(hx:Tr W F H x v B1)(hy:Tr W F H y u B2)(e:inT x y=some b) :
  (∃ i j,v=.str i/\u=.str j/\(!(Builtin.Str.occurrences j i 0 j.length 1).isEmpty)=b)\/(∃ p xs,u=.ref p/\(SqL W.K H p xs\/SqT W.K H p xs)/\zH v=true/\xs.all zH=true/\inV v xs=b)\/∃ a o,u=.ref a/\DGet H a v o/\o.isSome=b:=by
 rcases zJ e with e | e
 ·obtain⟨a,l,e1,e2,e⟩:=zz e
  obtain⟨rfl,_⟩:=qm hx e1
  obtain⟨rfl,_⟩:=qm hy e2
  refine .inl ⟨S a,S l,rfl,rfl,?_⟩
  simp only [uw] at e
  rw [← e]
  split
  ·exact StrLaws.found_one (S l) _
  ·rfl
 rcases zJ e with e | e
 ·obtain⟨x',vs,e1,e2,e⟩:=zz e
  cases e
  obtain⟨rfl,f1⟩:=Jl hx e1
  rw [uO] at e2
  obtain⟨ys,e2,e3⟩:=e2
  obtain⟨p,us,C,rfl,h3,h4,_⟩:=Zf g hy e2
  obtain⟨rfl,f2⟩:=Vk h4 e3
  exact .inr (.inl ⟨p,us,rfl,h3,f1,f2,rfl⟩)
 ·obtain⟨k,d,e1,e2,e⟩:=zz e
  cases e
  have hk:=Vm hx e1
  subst hk
  obtain⟨p,kvs,C,rfl,h1,h2,h3,_⟩:=Kz g hy e2
  exact .inr (.inr ⟨p,_,rfl,DGet.k h1,KG h2⟩)
theorem zdT (op:CO):OS W (cmpR W.K op) (fun x y=>(cmpO op x y).map .bl):=by
 intro F H x y v u B1 B2 o Q g hx hy e q
 simp only [uo] at e
 obtain⟨b,e,rfl⟩:=e
 have fin:Q (.bl b) H:=q _ F H [] (Al.refl g) yd
 have isis:∀ b',isT x y=some b'->(u=.non/\decide (v=.non)=b')\/∃ c,u=.bl c/\∃ k,v=.bl k/\(k == c)=b':=fun b' e=>by
  unfold isT at e
  split at e
  ·exact .inl ⟨hy.2,Vl (hx.now g) e⟩
  ·rw [uo] at e
   obtain⟨k,e,rfl⟩:=e
   exact .inr ⟨_,hy.2,k,vg hx e,rfl⟩
  ·cases e
 cases op<;>simp only [cmpO] at e
 ·rcases zcy g hx hy e with⟨h1,h2⟩ | ⟨d,d',a,c,e1,e2,h1,h2,h3,h4⟩
  ·exact .inl ⟨h1,by rw [h2];exact fin⟩
  ·exact .inr ⟨d,d',a,c,e1,e2,h1,h2,h3,by rw [h4];exact fin⟩
 ·rw [uo] at e
  obtain⟨b',e,rfl⟩:=e
  rcases zcy g hx hy e with⟨h1,h2⟩ | ⟨d,d',a,c,e1,e2,h1,h2,h3,h4⟩
  ·exact .inl ⟨h1,by rw [h2];exact fin⟩
  ·exact .inr ⟨d,d',a,c,e1,e2,h1,h2,h3,by rw [h4];exact fin⟩
 ·obtain⟨i,j,e1,e2,e⟩:=zz e
  cases e
  exact⟨i,j,zK hx e1,zK hy e2,fin⟩
 ·obtain⟨i,j,e1,e2,e⟩:=zz e
  cases e
  exact⟨i,j,zK hx e1,zK hy e2,fin⟩
 ·obtain⟨i,j,e1,e2,e⟩:=zz e
  cases e
  exact⟨i,j,zK hx e1,zK hy e2,fin⟩
 ·obtain⟨i,j,e1,e2,e⟩:=zz e
  cases e
  exact⟨i,j,zK hx e1,zK hy e2,fin⟩
 ·rcases zcz g hx hy e with⟨i,j,e1,e2,h⟩ | ⟨p,xs,e1,h1,h2,h3,h⟩ | ⟨a,o,e1,h1,h⟩
  ·exact .inl ⟨i,j,e1,e2,by rw [h];exact fin⟩
  ·exact .inr (.inl ⟨p,xs,e1,h1,h2,h3,by rw [uy (by decide),h];exact fin⟩)
  ·exact .inr (.inr ⟨a,o,e1,h1,by rw [uy (by decide),h];exact fin⟩)
 ·rw [uo] at e
  obtain⟨b',e,rfl⟩:=e
  rcases zcz g hx hy e with⟨i,j,e1,e2,h⟩ | ⟨p,xs,e1,h1,h2,h3,h⟩ | ⟨a,o,e1,h1,h⟩
  ·exact .inl ⟨i,j,e1,e2,by rw [h];exact fin⟩
  ·exact .inr (.inl ⟨p,xs,e1,h1,h2,h3,by rw [uz rfl,h];exact fin⟩)
  ·exact .inr (.inr ⟨a,o,e1,h1,by rw [uz rfl,h];exact fin⟩)
 ·rcases isis _ e with⟨e1,h⟩ | ⟨c,e1,k,e2,h⟩
  ·exact .inl ⟨e1,by rw [h];exact fin⟩
  ·exact .inr ⟨c,e1,k,e2,by rw [h];exact fin⟩
 ·rw [uo] at e
  obtain⟨b',e,rfl⟩:=e
  rcases isis _ e with⟨e1,h⟩ | ⟨c,e1,k,e2,h⟩
  ·exact .inl ⟨e1,by rw [h];exact fin⟩
  ·exact .inr ⟨c,e1,k,e2,by rw [h];exact fin⟩
end L4
namespace L4
open PySem L2 PySem.Spec PyProof.Rows
variable {W:Wd} {F H:Hp} {B:Ld} {x y z:T} {v u:V}
theorem zfv {B1 B2:Ld}{Q:VK}(g:Same F H)(hx:Tr W F H x v B1)(hy:Tr W F H y u B2)(e:ixO x y=some z)(q:∀ w C,Tr W F H z w C->C.Sublist B1->Q w H):ixR W.K v u H Q:=by
 rcases zJ e with h0 | h0<;>(clear e;have e:=h0;clear h0)
 ·obtain⟨xs,i,e1,e2,e⟩:=zz e
  have hu:=zK hy e2
  subst hu
  obtain⟨p,vs,C,rfl,h1,h2,h3⟩:=Zf g hx e1
  obtain⟨w,D,h4,h5,h6⟩:=h2.at e
  have fin:=q w D h5 (h6.trans h3)
  rcases h1 with h1 | h1
  ·exact .inl ⟨p,vs,i,w,rfl,rfl,h1,h4,fin⟩
  ·exact .inr (.inl ⟨p,vs,i,w,rfl,rfl,h1,h4,fin⟩)
 ·obtain⟨t,i,e1,e2,e3⟩:=zz e
  have hu:=zK hy e2
  subst hu
  obtain⟨rfl,hl⟩:=qm hx e1
  simp only [uo] at e3
  obtain⟨c,e4,rfl⟩:=e3
  exact .inr (.inr ⟨t,i,c,rfl,rfl,by rw [sizeLine_eq];exact hl,e4,q _ [] (xn (by simp)) (Uv _)⟩)
theorem zfw {B1:Ld}{lo hi:Option Int}{Q:VK}(g:Same F H)(hx:Tr W F H x v B1)(e:slO x lo hi=some z)(q:∀ w F' H' B,Al F H F' H' B->Tr W F' H' z w B->Q w H'):slR W.K v lo hi H Q:=by
 rcases zJ e with h0 | h0<;>(clear e;have e:=h0;clear h0)
 ·rw [uo] at e
  obtain⟨t,e,rfl⟩:=e
  obtain⟨rfl,hl⟩:=qm hx e
  exact .inl ⟨t,rfl,by rw [sizeLine_eq];exact hl,q _ F H [] (Al.refl g) (xn (uW (KC t lo hi) hl))⟩
 ·rw [uo] at e
  obtain⟨xs,e,rfl⟩:=e
  obtain⟨e,s⟩:=jO e
  obtain⟨p,vs,C,rfl,h1,h2,_⟩:=Ky g hx e
  exact .inr ⟨p,vs,rfl,h1,Xv g ((h2.sh s).cut0 lo hi) q⟩
theorem zdU {b:Bool}(g:Same F H)(hx:Tr W F H x v B)(e:truT x=some b):TruV W.K v H b:=by
 unfold truT at e
 split at e
 ·cases e;rw [hx.2];rfl
 ·cases e;rw [hx.2];rfl
 ·cases e;rw [hx.2];rfl
 ·rename_i t
  cases e
  obtain⟨_,rfl,hl⟩:=hx
  have e1:(S t).length=t.length:=by simp [S,Str.length]
  refine⟨by rw [e1,sizeLine_eq];exact hl,?_⟩
  rw [e1]
  cases t<;>simp [bne]
  lia
 ·rcases zJ e with h0 | h0<;>(clear e;have e:=h0;clear h0)
  ·rw [uo] at e
   obtain⟨xs,e,rfl⟩:=e
   obtain⟨p,vs,C,rfl,h1,h2,_⟩:=Zf g hx e
   rcases h1 with h1 | h1
   ·exact .inl ⟨vs,h1,Kx h2.len⟩
   ·exact .inr (.inl ⟨vs,h1,Kx h2.len⟩)
  ·rw [uo] at e
   obtain⟨d,e,rfl⟩:=e
   obtain⟨p,kvs,C,rfl,h1,h2,h3,h4⟩:=Kz g hx e
   refine .inr (.inr ⟨kvs,h1,?_⟩)
   rw [← h2]
   cases kvs<;>simp
noncomputable def biR (K:Le):BI->List V->Hp->VK->Prop
 | .len=>fun xs H Q=>zct K xs H Q\/∃ l,xs=[.str (S l)]/\l.length<=sizeLine/\Q (.int l.length) H
 | .int=>fun xs H Q=>(∃ i,xs=[.int i]/\Q (.int i) H)\/∃ k,xs=[.bl k]/\Q (.int (if k then 1 else 0)) H
 | .tuple=>fun xs H Q=>∃ p ys,xs=[.ref p]/\((SqL K H p ys/\∀ l,H l=none->Q (.ref l) (upd H l (.tup ys)))\/(SqT K H p ys/\Q (.ref p) H))
 | .all=>zcw
noncomputable def biN:BI->Str
 | .len=>"len"
 | .int=>"int"
 | .tuple=>"tuple"
 | .all=>"all"
theorem zcA {X:Cx}{K:Le}{a:Expr}{es:Lg}{ta:TA}{p pos:Pos}(b:BI)(hK:X.K=K)(hc:X.calm=true)(hg:Gl X (biN b))(hm:X.mg (biN b)=none)(ha:PA X (a::es) ta)
  (hs:starEach (a::es) X.env=(false,eval a X.env)::starEach es X.env) (h:(backTo pos (starEach es X.env)).any (·.1)=false):PE X (.Call (.Name (biN b) p) (a::es) [] pos) (tCB (biR K b) ta):=by
 subst hK
 cases b
 ·exact yI (Kw (Xo rfl) Yb) hg hm zdD ha (by decide) (by decide) hs h
 ·exact QM V3 hg hm Ka ha (by decide) (by decide) hs h
 ·exact QM Qo hg hm J9 ha (by decide) (by decide) hs h
 ·exact yI (Yl hc) hg hm zdM ha (by decide) (by decide) hs h
theorem KI:∀ {ds:List T} {vs:List V} {bs:List Bool} {C:Ld},TrL W F H ds vs C->biO.bls ds=some bs->vs=bs.map V.bl
 | [],_,_,_,h,e=>by cases e;exact h.1
 | d::ds,_,_,_,⟨v,r,A1,A2,e0,_,h1,h2⟩,e=>by
  obtain⟨b,bs,e1,e2,e⟩:=zz e
  cases e
  rw [e0,vg h1 e1,KI h2 e2];rfl
theorem TrL.one' {t:T}{vs:List V}{C:Ld}(h:TrL W F H [t] vs C):∃ v,vs=[v]/\Tr W F H t v C:=by
 obtain⟨v,r,A1,A2,e,ea,h1,h2⟩:=h
 obtain⟨rfl,rfl⟩:=h2
 rw [ux] at ea
 exact⟨v,e,by rw [ea];exact h1⟩
theorem TrL.two' {t t':T}{vs:List V}{C:Ld}(h:TrL W F H [t,t'] vs C):∃ v v' A1 A2,vs=[v,v']/\C=A1++A2/\Tr W F H t v A1/\Tr W F H t' v' A2:=by
 obtain⟨v,r,A1,A2,e,ea,h1,h2⟩:=h
 obtain⟨v',rfl,h3⟩:=h2.one'
 exact⟨v,v',A1,A2,e,ea,h1,h3⟩
theorem zfx {b:BI}{ts:List T}{vs:List V}{Q:VK}(g:Same F H)(hx:TrL W F H ts vs B)(e:biO b ts=some z)(q:∀ w F' H' B,Al F H F' H' B->Tr W F' H' z w B->Q w H'):biR W.K b vs H Q:=by
 have qi:∀ i,z=.int i->Q (.int i) H:=fun i e=>by subst e;exact q _ F H [] (Al.refl g) vh
 unfold biO at e
 split at e
 ·rename_i x
  obtain⟨v,ev,hx1⟩:=hx.one'
  subst ev
  clear hx
  have hx:=hx1
  clear hx1
  cases b<;>dsimp only at e
  ·rcases zJ e with h0 | h0<;>(clear e;have e:=h0;clear h0)
   ·rw [uo] at e
    obtain⟨t,e,rfl⟩:=e
    obtain⟨rfl,hl⟩:=qm hx e
    exact .inr ⟨t,rfl,by rw [sizeLine_eq];exact hl,qi _ rfl⟩
   ·rw [uo] at e
    obtain⟨xs,e,rfl⟩:=e
    obtain⟨p,vs,C,rfl,h1,h2,_⟩:=Zf g hx e
    exact .inl ⟨p,vs,rfl,h1,by rw [h2.len];exact qi _ rfl⟩
  ·rcases zJ e with h0 | h0<;>(clear e;have e:=h0;clear h0)
   ·rw [uo] at e
    obtain⟨t,e,rfl⟩:=e
    exact .inr ⟨t,by rw [vg hx e],qi _ rfl⟩
   ·rw [uo] at e
    obtain⟨t,e,rfl⟩:=e
    exact .inl ⟨t,by rw [zK hx e],qi _ rfl⟩
  ·rw [uo] at e
   obtain⟨xs,e,rfl⟩:=e
   obtain⟨e,s⟩:=jO e
   rcases zJ e with h0 | h0<;>(clear e;have e:=h0;clear h0)
   ·obtain⟨p,vs,C,rfl,h1,h2,_⟩:=Ky g hx e
    exact⟨p,vs,rfl,.inl ⟨h1,KD g (h2.sh s) q⟩⟩
   ·obtain⟨p,vs,C,rfl,h1,h2,_⟩:=vi hx e
    exact⟨p,vs,rfl,.inr ⟨SqT.of (g _ _ h1),q _ F H [] (Al.refl g) ⟨p,vs,rfl,h1,h2.sh s⟩⟩⟩
  ·rw [uO] at e
   obtain⟨xs,e,e2⟩:=e
   rw [uo] at e2
   obtain⟨bs,e2,rfl⟩:=e2
   obtain⟨p,vs,C,rfl,h1,h2,_⟩:=kE g hx e
   rw [KI h2 e2] at h1
   exact⟨p,bs,rfl,h1,q _ F H [] (Al.refl g) yd⟩
 ·cases e
noncomputable def tyN:TyK->String
 | .str=>"str"
 | .int=>"int"
 | .bool=>"bool"
 | .list=>"list"
 | .tuple=>"tuple"
 | .dict=>"dict"
theorem KJ {H:Hp}{n:TyK}:∀ {t:T} {v:V},IsV W H t v->tyOf t=some n->TyOf W.K H v (.type (tyN n))
 | .bl _,_,h,e=>by cases e;rw [show _=V.bl _ from h];exact .bl _
 | .int _,_,h,e=>by cases e;rw [show _=V.int _ from h];exact .int _
 | .str _,_,h,e=>by cases e;rw [h.1];exact .str _
 | .tp _,_,⟨p,vs,e0,h1,_⟩,e=>by cases e;rw [e0];exact .tup h1
 | .ls _,_,⟨p,vs,e0,h1,_⟩,e=>by cases e;rw [e0];exact .lst h1
 | .dc _ _,_,⟨p,vs,e0,h1,_⟩,e=>by cases e;rw [e0];exact .dK h1
 | .fz t,v,h,e=>KJ (t:=t) (v:=v) h (by simpa only [tyOf] using e)
 | .non,_,_,e=>by cases e
 | .ob _ _ _,_,_,e=>by cases e
 | .hol _,_,_,e=>by cases e
 | .ks _ _,_,_,e=>by cases e
theorem KL {K:Le}{n k:TyK}:PySem.W.kitOne K (.type (tyN n)) (.type (tyN k))=some (if n=.bool then k == .bool||k == .int else k == n):=by cases n<;>cases k<;>rfl
theorem zdV {b:Bool}{ks:List TyK}(g:Same F H)(hx:Tr W F H x v B)(e:isiO x ks=some b):∃ t,TyOf W.K H v t/\∃ f:TyK->Bool,(∀ k,PySem.W.kitOne W.K t (.type (tyN k))=some (f k))/\ks.any f=b:=by
 have hn:=hx.now g
 unfold isiO at e
 split at e
 ·rename_i h
  cases e
  refine⟨_,KJ hn h,fun k=>k == .bool||k == .int,fun k=>by rw [KL];rfl,?_⟩
  induction ks with
  | nil=>rfl
  | cons k ks ih=>rw [Ui,ih];cases k<;>simp [List.contains_cons]<;>cases (ks.contains TyK.bool)<;>cases (ks.contains TyK.int)<;>rfl
 ·rename_i k' nb h
  cases e
  refine⟨_,KJ hn h,fun k=>k == k',fun k=>by rw [KL,uy nb],?_⟩
  induction ks with
  | nil=>rfl
  | cons k ks ih=>rw [Ui,List.contains_cons,ih,show(k == k')=(k' == k) from BEq.comm]
 ·split at e
  ·cases e
   refine⟨.type "NoneType",by rw [hx.2];exact .non,fun _=>false,fun k=>by cases k<;>rfl,?_⟩
   induction ks with
   | nil=>rfl
   | cons k ks ih=>rw [Ui,ih];rfl
  ·cases e
end L4
namespace L4
open PySem L2 PySem.Spec PyProof.Rows
variable {W:Wd} {F H:Hp} {B:Ld} {x y z:T} {v u:V}
def meR (K:Le):ME->V->List V->Hp->VK->Prop
 | .join=>rJoin K
 | .get2=>fun _ _ _ _=>False
 | .split=>Kj
 | .find=>Kh
theorem Vn:∀ {ds:List T} {vs:List V} {ts:List (Lc)} {C:Ld},TrL W F H ds vs C->txts ds=some ts->vs=ts.map fun l=>V.str (S l)
 | [],_,_,_,h,e=>by cases e;exact h.1
 | d::ds,_,_,_,⟨v,r,A1,A2,e0,_,h1,h2⟩,e=>by
  obtain⟨b,bs,e1,e2,e⟩:=zz e
  cases e
  rw [e0,(qm h1 e1).1,Vn h2 e2];rfl
theorem Xw {l y:Lc}(hy:y≠[]):∀ t∈splits l y,t.length<=l.length:=fun t ht=>by
 obtain⟨s,hs,rfl⟩:=u0.mp ht
 have yp:0<(S y).length:=by
  rw [jw]
  cases y with
  | nil=>exact absurd rfl hy
  | cons _ _=>simp
 have h:=(ZE (S y) yp (Txt.split (S l) (S y))).2 s hs
 rw [StrLaws.join_split,jw] at h
 simpa [Str.length] using h
theorem Wl:∀ {ts:List (Lc)},(∀ t∈ts,t.length<=16777216)->TrL W F H (ts.map .str) (ts.map fun t=>V.str (S t)) []
 | [],_=>⟨rfl,rfl⟩
 | t::ts,h=>⟨_,_,[],[],rfl,rfl,xn (h t ue),Wl fun u hu=>h u (ug _ hu)⟩
theorem zfy {m:ME}{ts:List T}{vs:List V}{B1:Ld}{Q:VK}(hm:m≠.get2)(g:Same F H)(hx:Tr W F H x v B1)(ht:TrL W F H ts vs B)(e:meO m x ts=some z)(q:∀ w F' H' B,Al F H F' H' B->Tr W F' H' z w B->Q w H'):meR W.K m v vs H Q:=by
 unfold meO at e
 split at e
 ·obtain⟨u,rfl,hy⟩:=ht.one'
  obtain⟨a,ts,e1,e2,e3⟩:=zz e
  simp only [uC,uw] at e3
  obtain⟨⟨rfl,h⟩,rfl⟩:=e3
  rw [uO] at e2
  obtain⟨xs,e2,e4⟩:=e2
  obtain⟨p,us,C,rfl,h1,h2,_⟩:=kE g hy e2
  rw [Vn h2 e4] at h1
  exact⟨p,ts,(qm hx e1).1,rfl,SqL.of h1,h,q _ F H [] (Al.refl g) (xn h)⟩
 ·exact absurd rfl hm
 ·obtain⟨u,rfl,hy⟩:=ht.one'
  obtain⟨l,y,e1,e2,e3⟩:=zz e
  simp only [uC,uw] at e3
  obtain⟨⟨hne,hl⟩,rfl⟩:=e3
  obtain⟨rfl,_⟩:=qm hx e1
  obtain⟨rfl,_⟩:=qm hy e2
  have tt:=Wl (W:=W) (F:=F) (H:=H) (ts:=splits l y) fun t ht=>uW (Xw hne t ht) (by lia)
  have ee:(splits l y).map (fun t=>V.str (S t))=(Txt.split (S l) (S y)).map V.str:=by
   unfold splits
   rw [Ux]
   exact UR fun s _=>by show V.str (S s.cps.toList)=_;rw [S_of]
  rw [ee] at tt
  exact⟨l,y,rfl,rfl,hne,hl,Xv g tt q⟩
 ·obtain⟨u1,u2,A1,A2,rfl,_,hy,hz⟩:=ht.two'
  obtain⟨l,p,e1,e2,e3⟩:=zz e
  obtain⟨y,i,e4,e5,e6⟩:=zz e2
  cases e6
  cases e3
  obtain⟨rfl,_⟩:=qm hx e1
  obtain⟨rfl,_⟩:=qm hy e4
  have hu:=zK hz e5
  subst hu
  exact⟨l,y,i,rfl,rfl,q _ F H [] (Al.refl g) vh⟩
 ·cases e
structure Mu (W:Wd)(F H:Hp)(M B:Ld)(t' r:T)(v w:V)(H':Hp)(M' Br:Ld):Prop where
 keep:∀ b y,H b=some y->b∉M->H' b=some y
 dom:∀ b y,H b=some y->∃ y',H' b=some y'
 old:∀ b y,H' b=some y->∃ y',H b=some y'
 tx:Tr W F H' t' v M'
 tr:Tr W F H' r w Br
 sub:∀ b∈M'++Br,b∈M\/b∈B
 nd:(M'++Br).Nodup
def muR:MU->V->List V->Hp->VK->Prop
 | .append=>Va
 | .pop=>rPop
 | .insert=>fun _ _ _ _=>False
 | .popI=>Y2
theorem Mu.mk' {p:Addr}{o:HO}{M B M' Br:Ld}{t' r:T}{v w:V}(hp:∃ y,H p=some y)(hM:p∈M)(tx:Tr W F (upd H p o) t' v M')(tr:Tr W F (upd H p o) r w Br)(sub:∀ b∈M'++Br,b∈M\/b∈B)(nd:(M'++Br).Nodup):Mu W F H M B t' r v w (upd H p o) M' Br:=by
 refine⟨fun b y h n=>?_,fun b y h=>?_,fun b y h=>?_,tx,tr,sub,nd⟩
 ·rw [zt (fun e=>n (by rw [e];exact hM))];exact h
 ·by_cases e:b=p
  ·subst e;exact⟨_,zw⟩
  ·rw [zt e];exact⟨y,h⟩
 ·by_cases e:b=p
  ·subst e;exact hp
  ·rw [zt e] at h;exact⟨y,h⟩
theorem TrL.upd {ts:List T}{vs:List V}{C:Ld}{p:Addr}{o:HO}(h:TrL W F H ts vs C)(hp:p∉C):TrL W F (upd H p o) ts vs C:=h.frame (fun _ _ h=>h) fun b hb x hx=>by rw [zt (fun e:b=p=>hp (e ▸ hb))];exact hx
theorem Tr.upd {t:T}{v:V}{C:Ld}{p:Addr}{o:HO}(h:Tr W F H t v C)(hp:p∉C):Tr W F (L2.upd H p o) t v C:=h.frame (fun _ _ h=>h) fun b hb x hx=>by rw [zt (fun e:b=p=>hp (e ▸ hb))];exact hx
theorem TrL.last:∀ {ts:List T} {vs:List V} {A:Ld} {t:T},TrL W F H ts vs A->ts[ts.length - 1]? = some t->∃ v A1 A2,vs[vs.length - 1]? = some v/\A=A1++A2/\TrL W F H ts.dropLast vs.dropLast A1/\Tr W F H t v A2
 | [],_,_,_,_,e=>by simp at e
 | [o],_,_,_,h,e=>by
  obtain⟨v,rfl,h1⟩:=h.one'
  simp at e;subst e
  exact⟨v,[],_,rfl,rfl,⟨rfl,rfl⟩,h1⟩
 | o::o2::os,_,_,_,⟨v,r,A1,A2,e1,ea,h1,h2⟩,e=>by
  have hr:r≠[]:=fun z=>by subst z;have:=h2.len;cases this
  obtain⟨w,B1,B2,f1,f2,k1,k2⟩:=TrL.last h2 (by simpa using e)
  subst e1
  cases r with
  | nil=>exact absurd rfl hr
  | cons v2 r2=>exact⟨w,A1++B1,B2,by simpa using f1,by rw [ea,f2,uM],⟨v,_,A1,B1,rfl,rfl,h1,k1⟩,k2⟩
theorem TrL.erase:∀ {ts:List T} {vs:List V} {C:Ld} {j:Nat} {d:T},TrL W F H ts vs C->ts[j]? = some d->∃ w A1 A2 A3,vs[j]? = some w/\C=A1++(A2++A3)/\Tr W F H d w A2/\TrL W F H (ts.eraseIdx j) (vs.eraseIdx j) (A1++A3)
 | t::ts,_,_,0,d,⟨v,r,B1,B2,e1,e2,h1,h2⟩,e=>by
  cases e
  subst e1 e2
  exact⟨v,[],B1,B2,rfl,rfl,h1,h2⟩
 | t::ts,_,_,j+1,d,⟨v,r,B1,B2,e1,e2,h1,h2⟩,e=>by
  subst e1 e2
  obtain⟨w,A1,A2,A3,f1,rfl,f3,f4⟩:=TrL.erase h2 e
  exact⟨w,B1++A1,A2,A3,f1,by rw [uM],f3,⟨v,_,B1,A1++A3,rfl,by rw [uM],h1,f4⟩⟩
theorem zfz {m:MU}{t t' r:T}{M:Ld}{ts:List T}{us:List V}{Q:VK}(g:Same F H)(h:Tr W F H t v M)(ta:TrL W F H ts us B)(ndM:M.Nodup)(ndB:B.Nodup)(dis:∀ b∈M,b∉B)(e:muT m t ts=some (t',r))(q:∀ w H' M' Br,Mu W F H M B t' r v w H' M' Br->Q w H'):muR m v us H Q:=by
 unfold muT at e
 split at e
 ·rename_i xs y
  obtain⟨p,vs,M0,rfl,h1,rfl,h2⟩:=h
  obtain⟨n1,n2⟩:=uH.mp ndM
  obtain⟨u,rfl,hy⟩:=ta.one'
  split at e
  ·simp only [uC,uw,gy] at e
   obtain⟨hl,rfl,rfl⟩:=e
   have hpB:p∉B:=dis p ue
   refine⟨p,vs,u,rfl,rfl,h1,by rw [h2.len,sizeLine_eq];exact hl,q .non _ (p::(M0++B)) [] (Mu.mk' ⟨_,h1⟩ ue ⟨p,_,_,rfl,zw,rfl,(h2.upd n1).app (TrL.one (hy.upd hpB))⟩ yo (fun b hb=>?_) ?_)⟩
   ·simp only [ux,um,ud] at hb ⊢
    rcases hb with z | z | z
    ·exact .inl (.inl z)
    ·exact .inl (.inr z)
    ·exact .inr z
   ·rw [ux]
    refine uH.mpr ⟨fun z=>?_,zF n2 ndB fun b hb=>dis b (ug _ hb)⟩
    rcases ud.mp z with z | z
    ·exact n1 z
    ·exact hpB z
  ·rw [uC,uO] at e
   obtain⟨hl,i,e1,e⟩:=e
   rw [uO] at e
   obtain⟨j,e2,e⟩:=e
   rw [uo] at e
   obtain⟨d,e3,e4⟩:=e
   cases e4
   have hu:=zK hy e1
   subst hu
   obtain⟨w,A1,A2,A3,f1,rfl,f3,f4⟩:=h2.erase e3
   rw [← h2.len] at e2
   obtain⟨k1,k2,k3,k4⟩:=Jb e2
   have hlen:vs.length<=16777216:=by rw [h2.len];exact hl
   simp only [ud,UY] at n1
   refine⟨p,vs,i,j,w,rfl,rfl,h1,by lia,by lia,k1,f1,q w _ (p::(A1++A3)) A2 (Mu.mk' ⟨_,h1⟩ ue ⟨p,_,_,rfl,zw,rfl,f4.upd (fun z=>(ud.mp z).elim n1.1 n1.2.2)⟩ (f3.upd n1.2.1) (fun b hb=>.inl ?_) ?_)⟩
   ·simp only [um,ud] at hb ⊢
    rcases hb with(z | z | z) | z
    ·exact .inl z
    ·exact .inr (.inl z)
    ·exact .inr (.inr (.inr z))
    ·exact .inr (.inr (.inl z))
   ·rw [uB,uB] at n2
    obtain⟨m1,⟨m2,m3,m4⟩,m5⟩:=n2
    rw [UN]
    refine uH.mpr ⟨fun z=>?_,?_⟩
    ·simp only [ud] at z
     rcases z with(z | z) | z
     ·exact n1.1 z
     ·exact n1.2.2 z
     ·exact n1.2.1 z
    ·refine zF (zF m1 m3 fun b hb z=>m5 b hb b (uc _ z) rfl) m2 fun b hb z=>?_
     rcases ud.mp hb with y | y
     ·exact m5 b y b (uj _ z) rfl
     ·exact m4 b z b y rfl
  ·cases e
 ·rename_i xs
  obtain⟨p,vs,M0,rfl,h1,rfl,h2⟩:=h
  obtain⟨n1,n2⟩:=uH.mp ndM
  have hu:us=[]:=ta.1
  subst hu
  split at e
  ·rw [uo] at e
   obtain⟨d,e1,e2⟩:=e
   cases e2
   obtain⟨w,A1,A2,f1,rfl,k1,k2⟩:=h2.last e1
   rw [ud,UY] at n1
   refine⟨p,vs,w,rfl,rfl,h1,f1,q w _ (p::A1) A2 (Mu.mk' ⟨_,h1⟩ ue ⟨p,_,_,rfl,zw,rfl,k1.upd n1.1⟩ (k2.upd n1.2) (fun b hb=>.inl (by simpa using hb)) (by simpa using ndM))⟩
  ·cases e
 ·cases e
def putR (o i w:V)(H:Hp)(Q:Hp->Prop):Prop:=zcq o i w H Q\/∃ a H',o=.ref a/\DPut H a i w H'/\Q H'
theorem Vo {p:Addr}{o:HO}{w:V}{k:Key}{oT:T}:∀ {ks:List Key} {xs:List T} {kvs:List (Key×V)} {C:Ld},kvs.map (·.1)=ks->TrL W F H xs (kvs.map (·.2)) C->Tr W F H oT w []->∃ C',TrL W F H ((ks.zip xs).map fun kv=>if kv.1=k then oT else kv.2) ((kvs.map fun kv=>if kv.1=k then(kv.1,w) else kv).map (·.2)) C'/\(∀ b∈C',b∈C)/\(C.Nodup->C'.Nodup)
 | _,_,[],C,e,h,t=>by
  subst e
  exact⟨[],⟨rfl,rfl⟩,(fun _ h=>by cases h),fun _=>.nil⟩
 | _,xs,(k',v')::kvs,C,e,h,t=>by
  subst e
  cases xs with
  | nil=>have:=h.1;cases this
  | cons x xs=>
   obtain⟨u,r,A1,A2,e1,rfl,h1,h2⟩:=h
   cases e1
   obtain⟨C',f1,f2,f3⟩:=Vo (p:=p) (o:=o) (k:=k) rfl h2 t
   by_cases hk:k' = k
   ·subst hk
    refine⟨C',?_,fun b hb=>uc _ (f2 b hb),fun nd=>f3 (uB.mp nd).2.1⟩
    simp only [uA,List.zip_cons_cons,uz]
    exact⟨w,_,[],C',rfl,rfl,t,f1⟩
   ·refine⟨A1++C',?_,fun b hb=>?_,fun nd=>?_⟩
    ·simp only [uA,List.zip_cons_cons,uy hk]
     exact⟨v',_,A1,C',rfl,rfl,h1,f1⟩
    ·rcases ud.mp hb with z | z
     ·exact uj _ z
     ·exact uc _ (f2 b z)
    ·rw [uB] at nd
     exact uB.mpr ⟨nd.1,f3 nd.2.1,fun a ha b hb=>nd.2.2 a ha b (f2 b hb)⟩
theorem zdW {t t' oT:T}{M C:Ld}{w:V}{Q:Hp->Prop}(h:Tr W F H t v M)(hy:Tr W F H y u C)(ho:Tr W F H oT w B)(ndM:M.Nodup)(ndB:B.Nodup)(dis:∀ b∈M,b∉B)(e:putO t y oT=some t')(q:∀ H' M',Mu W F H M B t' .non v .non H' M' []->Q H'):putR v u w H Q:=by
 unfold putO at e
 split at e
 ·rename_i xs
  rw [uO] at e
  obtain⟨n,e1,e⟩:=e
  rw [uo] at e
  obtain⟨j,e2,rfl⟩:=e
  have hu:=zK hy e1
  subst hu
  obtain⟨p,vs,M0,rfl,h1,rfl,h2⟩:=h
  obtain⟨n1,n2⟩:=uH.mp ndM
  have hpB:p∉B:=dis p ue
  have hj:∃ d,xs[j]? = some d:=by
   have:j<xs.length:=by
    unfold ixN at e2
    split at e2
    ·split at e2
     ·cases e2;lia
     ·cases e2
    ·split at e2
     ·cases e2;lia
     ·cases e2
   exact⟨_,uq this⟩
  obtain⟨d,hd⟩:=hj
  obtain⟨w0,A1,A2,A3,f1,rfl,f3,f4⟩:=h2.get hd
  simp only [ud,UY] at n1
  have tt:=f4 (H':=upd H p (.lst (vs.set j w))) (fun _ _ h=>h) (fun b hb x hx=>by rw [zt (fun e:b=p=>n1.1 (e ▸ hb))];exact hx) (fun b hb x hx=>by rw [zt (fun e:b=p=>n1.2.2 (e ▸ hb))];exact hx) (ho.upd hpB)
  refine .inl ⟨p,vs,n,j,rfl,rfl,h1,by rw [h2.len];exact e2,q _ (p::(A1++(B++A3))) (Mu.mk' ⟨_,h1⟩ ue ⟨p,_,_,rfl,zw,rfl,tt⟩ yo (fun b hb=>?_) ?_)⟩
  ·simp only [ux,um,ud] at hb ⊢
   rcases hb with z | z | z | z
   ·exact .inl (.inl z)
   ·exact .inl (.inr (.inl z))
   ·exact .inr z
   ·exact .inl (.inr (.inr (.inr z)))
  ·rw [ux]
   rw [uB,uB] at n2
   obtain⟨m1,⟨m2,m3,m4⟩,m5⟩:=n2
   have dB:∀ b∈B,b∉A1/\b∉A3:=fun b hb=>⟨fun z=>dis b (by simp [z]) hb,fun z=>dis b (by simp [z]) hb⟩
   refine uH.mpr ⟨?_,zF m1 (zF ndB m3 fun b hb=>(dB b hb).2) fun b hb z=>?_⟩
   ·simp only [ud,UY];exact⟨n1.1,hpB,n1.2.2⟩
   ·rcases ud.mp z with z | z
    ·exact(dB b z).1 hb
    ·exact m5 b hb b (uc _ z) rfl
 ·rename_i ks xs
  rw [uO] at e
  obtain⟨k,e1,e⟩:=e
  simp only [uC,uw] at e
  obtain⟨⟨hl,hs⟩,rfl⟩:=e
  have hu:=Vm hy e1
  subst hu
  obtain⟨p,kvs,M0,rfl,h1,rfl,h2,h3⟩:=h
  obtain⟨n1,n2⟩:=uH.mp ndM
  have hpB:p∉B:=dis p ue
  refine .inr ⟨p,_,rfl,.inl ⟨kvs,k,h1,rfl,by rw [sizeLine_eq,← uh (f:=(·.1)),h2];exact hl,rfl⟩,?_⟩
  by_cases ha:(ks.any fun k'=>decide (k' = k))=true
  ·have hs:shr oT=true:=by
    rcases hs with z | z
    ·exact z
    ·rw [ha] at z;cases z
   have hB:=vV hs ho
   subst hB
   have ha':(kvs.any fun kv=>decide (kv.1=k))=true:=by rw [← h2,List.any_map] at ha;exact ha
   obtain⟨C',f1,f2,f3⟩:=Vo (p:=p) (o:=.dK (putK kvs k w)) (k:=k) h2 h3 ho
   have f1':=f1.upd (p:=p) (o:=.dK (putK kvs k w)) (fun z=>n1 (f2 _ z))
   refine q _ (p::C') (Mu.mk' ⟨_,h1⟩ ue ?_ yo (fun b hb=>?_) ?_)
   ·simp only [dput,uz ha]
    refine⟨p,_,_,rfl,zw,rfl,?_,?_⟩
    ·unfold putK
     rw [uz ha',Ux,← h2]
     congr 1
     funext kv
     simp only [Function.comp]
     split<;>rfl
    ·unfold putK at f1' ⊢
     rw [uz ha'] at f1' ⊢
     exact f1'
   ·simp only [ux,um] at hb ⊢
    exact .inl (hb.imp id (f2 b))
   ·rw [ux]
    exact uH.mpr ⟨fun z=>n1 (f2 _ z),f3 n2⟩
  ·have ha':¬ (kvs.any fun kv=>decide (kv.1=k))=true:=by rw [← h2,List.any_map] at ha;exact ha
   refine q _ (p::(M0++B)) (Mu.mk' ⟨_,h1⟩ ue ?_ yo (fun b hb=>?_) ?_)
   ·simp only [dput,uy ha]
    refine⟨p,_,_,rfl,zw,rfl,?_,?_⟩
    ·unfold putK
     rw [uy ha',Ue,h2];rfl
    ·unfold putK
     rw [uy ha',Ue]
     exact(h3.upd n1).app (TrL.one (ho.upd hpB))
   ·simp only [ux,um,ud] at hb ⊢
    rcases hb with z | z | z
    ·exact .inl (.inl z)
    ·exact .inl (.inr z)
    ·exact .inr z
   ·rw [ux]
    refine uH.mpr ⟨fun z=>?_,zF n2 ndB fun b hb=>dis b (ug _ hb)⟩
    rcases ud.mp z with z | z
    ·exact n1 z
    ·exact hpB z
 ·cases e
theorem Wm {f:Str}{oT:T}{w:V}(ho:Tr W F H oT w B)(ndB:B.Nodup):∀ {fs:Lh} {xs:List T} {kvs:List (Str×V)} {C:Ld},kvs.map (·.1)=fs->TrL W F H xs (kvs.map (·.2)) C->C.Nodup->(∀ b∈C,b∉B)->∃ C',(putF f w kvs).map (·.1)=(yb fs xs f oT).1/\TrL W F H (yb fs xs f oT).2 ((putF f w kvs).map (·.2)) C'/\(∀ b∈C',b∈C\/b∈B)/\C'.Nodup
 | _,xs,[],C,e,h,nd,dis=>by
  subst e
  have:xs=[]:=by have:=h.len;cases xs with | nil=>rfl | cons _ _=>cases this
  subst this
  exact⟨B,rfl,TrL.one ho,fun b hb=>.inr hb,ndB⟩
 | _,xs,(g,v')::kvs,C,e,h,nd,dis=>by
  subst e
  cases xs with
  | nil=>have:=h.1;cases this
  | cons x xs=>
   obtain⟨u,r,A1,A2,e1,rfl,h1,h2⟩:=h
   cases e1
   rw [uB] at nd
   by_cases hk:g=f
   ·refine⟨B++A2,?_,?_,fun b hb=>?_,zF ndB nd.2.1 fun b hb z=>dis b (uc _ z) hb⟩
    ·simp only [putF,uz hk,uA,yb]
    ·simp only [putF,uz hk,uA,yb]
     exact⟨w,_,B,A2,rfl,rfl,ho,h2⟩
    ·rcases ud.mp hb with z | z
     ·exact .inr z
     ·exact .inl (uc _ z)
   ·obtain⟨C',f0,f1,f2,f3⟩:=Wm (f:=f) ho ndB (fs:=kvs.map (·.1)) rfl h2 nd.2.1 fun b hb=>dis b (uc _ hb)
    refine⟨A1++C',?_,?_,fun b hb=>?_,zF nd.1 f3 fun b hb z=>?_⟩
    ·simp only [putF,uy hk,uA,yb,f0]
    ·simp only [putF,uy hk,uA,yb]
     exact⟨v',_,A1,C',rfl,rfl,h1,f1⟩
    ·rcases ud.mp hb with z | z
     ·exact .inl (uj _ z)
     ·exact(f2 b z).imp (fun y=>uc _ y) id
    ·rcases f2 b z with y | y
     ·exact nd.2.2 b hb b y rfl
     ·exact dis b (uj _ hb) y
theorem zdX {t t' oT:T}{M:Ld}{w:V}{c:Nat}{f:Str}(h:Tr W F H t v M)(ho:Tr W F H oT w B)(ndM:M.Nodup)(ndB:B.Nodup)(dis:∀ b∈M,b∉B)(e:Wc t c f oT=some t'):∃ fs xs p dx kvs,t=.ob c fs xs/\v=.ref p/\H p=some (.ins (W.cl c) dx kvs)/\kvs.map (·.1)=fs/\kvs.length<1000/\∃ M',Mu W F H M B t' .non v .non (upd H p (.ins (W.cl c) dx (putF f w kvs))) M' []:=by
 unfold Wc at e
 split at e
 ·rename_i c' fs xs
  simp only [uC,uw] at e
  obtain⟨⟨rfl,hl⟩,rfl⟩:=e
  obtain⟨p,dx,kvs,M0,rfl,h1,rfl,h2,h3⟩:=h
  obtain⟨n1,n2⟩:=uH.mp ndM
  have hpB:p∉B:=dis p ue
  have hu:p∉M0:=n1
  obtain⟨C',f0,f1,f2,f3⟩:=Wm (f:=f) (ho.upd (o:=.ins (W.cl c') dx (putF f w kvs)) hpB) ndB h2 (h3.upd (o:=.ins (W.cl c') dx (putF f w kvs)) hu) n2 fun b hb=>dis b (ug _ hb)
  refine⟨fs,xs,p,dx,kvs,rfl,rfl,h1,h2,by rw [← uh (f:=(·.1)),h2];exact hl,p::C',Mu.mk' ⟨_,h1⟩ ue ⟨p,dx,_,C',rfl,zw,rfl,f0,f1⟩ yo (fun b hb=>?_) ?_⟩
  ·simp only [ux,um] at hb ⊢
   rcases hb with z | z
   ·exact .inl (.inl z)
   ·exact(f2 b z).imp .inr id
  ·rw [ux]
   refine uH.mpr ⟨fun z=>?_,f3⟩
   rcases f2 p z with y | y
   ·exact n1 y
   ·exact hpB y
 ·cases e
end L4
namespace L4
open PySem L2 PySem.Spec PyProof.Rows
variable {W:Wd} {E:XS}
def IsX (W:Wd)(F:Hp)(x:Exn)(c:Value)(d:Option Addr):Prop:=c=.ref (W.cl x.c)/\∃ dd kvs,d=some dd/\F dd=some (.xd kvs)/\kvs.map (·.1)=x.fs/\IsVs W F x.ts (kvs.map (·.2))
structure EPo (W:Wd)(F H:Hp)(A:Lb)(s:Sl)(σ:L2.St)(tl rl:Lc)(t:T)(s':Sl)(v:V)(F' H':Hp)(A':Lb)(B:Ld):Prop where
 rep:Rep W F' H' s' σ A'
 mv:Mv F H s A tl F' H' s' A'
 tr:Tr W F' H' t v B
 vd:Vd A' F' H' rl B
 nd:B.Nodup
 new:∀ b∈B,¬ Ow A' b->H b=none\/Tch A tl b
structure LPo (W:Wd)(F H:Hp)(A:Lb)(s:Sl)(σ:L2.St)(tl rl:Lc)(t:List T)(s':Sl)(v:List V)(F' H':Hp)(A':Lb)(B:Ld):Prop where
 rep:Rep W F' H' s' σ A'
 mv:Mv F H s A tl F' H' s' A'
 tr:TrL W F' H' t v B
 vd:Vd A' F' H' rl B
 nd:rl=[]->B.Nodup
 new:∀ b∈B,¬ Ow A' b->H b=none\/Tch A tl b
structure XPo (W:Wd)(F H:Hp)(A:Lb)(s:Sl)(σ:L2.St)(tl:Lc)(x:Exn)(s':Sl)(c:Value)(d:Option Addr)(F' H':Hp)(A':Lb):Prop where
 rep:Rep W F' H' s' σ A'
 mv:Mv F H s A tl F' H' s' A'
 xr:IsX W F' x c d
structure BPo (W:Wd)(F H:Hp)(A:Lb)(s:Sl)(σ:L2.St)(tl:Lc)(s':Sl)(F' H':Hp)(A':Lb):Prop where
 rep:Rep W F' H' s' σ A'
 mv:Mv F H s A tl F' H' s' A'
structure PPo (W:Wd)(F H:Hp)(A:Lb)(s:Sl)(σ:L2.St)(tl rl:Lc)(i:Nat)(p:Lc)(s':Sl)(v:V)(F' H':Hp)(A':Lb):Prop where
 rep:Rep W F' H' s' σ A'
 mv:Mv F H s A tl F' H' s' A'
 at_:∃ r u w,s'[i]? = some (.own r)/\getT r p=some u/\σ[i]? = some (some w)/\vAt H' w p=some v
 rt:i∈rl
def XK4 (W:Wd)(E:XS)(F H:Hp)(A:Lb)(s:Sl)(σ:L2.St)(tl:Lc)(X4:XP):Prop:=∀ x s' c d F' H' A',XPo W F H A s σ tl x s' c d F' H' A'->X4 x s'->E c d σ H'
def SE (W:Wd)(E:XS)(tl rl:Lc)(t:TE)(m:Sl->QP->XP->Prop):Prop:=∀ (F H:Hp) (s:Sl) (σ:L2.St) (A:Lb) (Q4:QP) (X4:XP) (Q:VK),Rep W F H s σ A->m s Q4 X4 ->
 (∀ t' s' v F' H' A' B,EPo W F H A s σ tl rl t' s' v F' H' A' B->Q4 t' s'->Q v H')->XK4 W E F H A s σ tl X4->t σ H Q
def SA (W:Wd)(E:XS)(tl rl:Lc)(t:TA)(m:Sl->(List T->Sl->Prop)->XP->Prop):Prop:=∀ (F H:Hp) (s:Sl) (σ:L2.St) (A:Lb) (Q4:List T->Sl->Prop) (X4:XP) (Q:List V->Hp->Prop),Rep W F H s σ A->m s Q4 X4 ->
 (∀ t' s' v F' H' A' B,LPo W F H A s σ tl rl t' s' v F' H' A' B->Q4 t' s'->Q v H')->XK4 W E F H A s σ tl X4->t σ H Q
def ST (W:Wd)(E:XS)(tl:Lc)(t:TT)(m:Sl->(Bool->Sl->Prop)->XP->Prop):Prop:=∀ (F H:Hp) (s:Sl) (σ:L2.St) (A:Lb) (Q4:Bool->Sl->Prop) (X4:XP) (Q:Bool->Hp->Prop),Rep W F H s σ A->m s Q4 X4 ->
 (∀ b s' F' H' A',BPo W F H A s σ tl s' F' H' A'->Q4 b s'->Q b H')->XK4 W E F H A s σ tl X4->t σ H Q
def SP (W:Wd)(E:XS)(tl rl:Lc)(t:TE)(m:Sl->(Nat->Lc->Sl->Prop)->XP->Prop):Prop:=∀ (F H:Hp) (s:Sl) (σ:L2.St) (A:Lb) (Q4:Nat->Lc->Sl->Prop) (X4:XP) (Q:VK),Rep W F H s σ A->m s Q4 X4 ->
 (∀ i p s' v F' H' A',PPo W F H A s σ tl rl i p s' v F' H' A'->Q4 i p s'->Q v H')->XK4 W E F H A s σ tl X4->t σ H Q
section
variable {F H F1 H1 F2 H2:Hp} {A A1 A2:Lb} {s s1 s2:Sl} {σ:L2.St} {tl tl' rl:Lc} {B:Ld} {z:T} {w:V}
theorem EPo.al (m:Mv F H s A tl F1 H1 s1 A1)(R:Rep W F1 H1 s1 σ A1)(a:Al F1 H1 F2 H2 B)(t:Tr W F2 H2 z w B):EPo W F H A s σ tl rl z s1 w F2 H2 A1 B:=
 ⟨a.rep R,m.trans' a.mv,t,(a.vd R).imp (fun _ h=>by cases h),a.nd,fun b hb _=>.inl (m.none (a.nB b hb).1)⟩
theorem XK4.mono {X4:XP}(k:XK4 W E F H A s σ tl' X4)(m:Mv F H s A tl' F1 H1 s1 A1)(h:∀ j∈tl,j∈tl'):XK4 W E F1 H1 A1 s1 σ tl X4:=fun x s' c d F' H' A' p h4=>k x s' c d F' H' A' ⟨p.rep,m.trans' (p.mv.mono h),p.xr⟩ h4
theorem XK4.sub {X4:XP}(k:XK4 W E F H A s σ tl' X4)(h:∀ j∈tl,j∈tl'):XK4 W E F H A s σ tl X4:=k.mono Mv.refl h
theorem Jm {rl1:Lc}{B1:Ld}(R1:Rep W F1 H1 s1 σ A1)(d:Vd A1 F1 H1 rl1 B1)(n:∀ b∈B1,¬ Ow A1 b->H b=none\/Tch A tl b)(m:Mv F1 H1 s1 A1 tl' F2 H2 s2 A2)(dj:∀ j∈rl1,j∉tl'):∀ b∈B1,¬ Ow A2 b->H b=none\/Tch A (tl++tl') b:=fun b hb no=>by
 have:¬ Ow A1 b:=fun z=>by
  rcases d.at_ b hb with y | ⟨j,h1,h2⟩
  ·exact y z
  ·exact no ⟨j,by rw [(m.slot j (dj j h1)).2];exact h2⟩
 exact(n b hb this).imp id fun⟨j,h1,h2⟩=>⟨j,uj _ h1,h2⟩
end
theorem SE.mono {tl tl' rl:Lc}{t:TE}{m:Sl->QP->XP->Prop}(h:SE W E tl rl t m)(k:∀ j∈tl,j∈tl'):SE W E tl' rl t m:=fun F H s σ A Q4 X4 Q R e q x=>h F H s σ A Q4 X4 Q R e (fun t' s' v F' H' A' B p=>q t' s' v F' H' A' B ⟨p.rep,p.mv.mono k,p.tr,p.vd,p.nd,fun b hb no=>(p.new b hb no).imp id fun⟨j,h1,h2⟩=>⟨j,k j h1,h2⟩⟩) (x.sub k)
theorem ZO {s:Sl}{i:Nat}{p:Lc}{t:T}(h:getP s i p=some t):∃ r,s[i]? = some (.own r)/\getT r p=some t:=by
 unfold getP at h
 split at h
 ·exact⟨_,by assumption,h⟩
 ·cases h
theorem se_b {md:Bool}{i:Nat}:SE W E [] (if md=true then [i] else []) (tVar i) (WE md (.b i)):=by
 intro F H s σ A Q4 X4 Q R h q x
 obtain⟨t,h1,h2,h3⟩:=h
 obtain⟨v,e1,e2⟩:=R.slot i t h1
 refine⟨v,e1,q t s v F H A (A i) ⟨R,Mv.refl,e2,?_,R.nd i,fun b hb no=>absurd ⟨i,hb⟩ no⟩ h3⟩
 cases md with
 | true=>exact⟨R.own i,e2.cell,fun b hb=>.inr ⟨i,ui.mpr rfl,hb⟩⟩
 | false=>
  rw [vV (h2.resolve_left (by decide)) e2]
  exact Vd.nil
theorem zfA {F H:Hp}{s:Sl}{σ:L2.St}{A:Lb}(R:Rep W F H s σ A){j i k:Nat}{p:Lc}{t:T}(h1:atA j i s k p)(h2:getP s k p=some t):∃ r w v A2,s[k]? = some (.own r)/\getT r p=some t/\σ[k]? = some (some w)/\σ[j]? = some (some v)/\vAt H w p=some v/\Tr W F H t v A2/\A2.Nodup/\∀ b∈A2,b∈A k:=by
 obtain⟨r,e1,e2⟩:=ZO h2
 rcases h1 with⟨rfl,h1⟩ | ⟨rfl,rfl,_⟩
 ·obtain⟨t',u,w,v,k1,k2,k3,k4,k5⟩:=R.al j k p h1
  obtain⟨w',v',A1,A2,f1,f2,f3,f4,f5,_⟩:=R.detach e1 e2
  rw [k3] at f1
  cases f1
  rw [k5] at f2
  cases f2
  exact⟨r,w,v,A2,e1,e2,k3,k4,k5,f4,f5,fun b hb=>(f3 b).mpr (.inr hb)⟩
 ·cases e2
  obtain⟨v,k1,k2⟩:=R.slot k t e1
  exact⟨t,v,v,A k,e1,rfl,k1,k1,rfl,k2,R.nd k,fun b hb=>hb⟩
theorem KN {j i k:Nat}{s:Sl}{p:Lc}(h:atA j i s k p):k∈[i,j]:=by
 rcases h with⟨rfl,_⟩ | ⟨rfl,_⟩<;>simp
theorem se_a {md:Bool}{j i:Nat}:SE W E [] (if md=true then [i,j] else []) (tVar j) (WE md (.a j i)):=by
 intro F H s σ A Q4 X4 Q R h q x
 obtain⟨k,p,t,h1,h2,h3,h4⟩:=h
 obtain⟨r,w,v,A2,e1,e2,e3,e4,e5,e6,e7,e8⟩:=zfA R h1 h2
 refine⟨v,e4,q t s v F H A A2 ⟨R,Mv.refl,e6,?_,e7,fun b hb no=>absurd ⟨k,e8 b hb⟩ no⟩ h4⟩
 cases md with
 | true=>exact⟨fun b hb=>R.own k b (e8 b hb),e6.cell,fun b hb=>.inr ⟨k,KN h1,e8 b hb⟩⟩
 | false=>
  rw [vV (h3.resolve_left (by decide)) e6]
  exact Vd.nil
theorem KP {F H:Hp}{s:Sl}{A:Lb}{i:Nat}{x:Slot}{B:Ld}(h:∀ b∈B,H b=none\/b∈A i):Mv F H s A [i] F H (setS s i x) (setA A i B):=by
 refine⟨fun _ _ h=>h,fun _ _ h _=>h,fun _ o h=>⟨o,h⟩,fun _ o h=>.inl ⟨o,h⟩,fun j b hj hb=>?_,fun j hj=>?_⟩
 ·have:j=i:=ui.mp hj
  subst this
  rw [zI] at hb
  exact(h b hb).imp id fun z=>⟨j,hj,z⟩
 ·have:j≠i:=fun z=>hj (ui.mpr z)
  exact⟨fun t z=>(wb this).mpr z,zq this⟩
theorem zbI {F H:Hp}{s:Sl}{A:Lb}{B:Ld}{tl:Lc}(h:∀ b∈B,F b=none)(k:∀ b∈B,H b=none\/Tch A tl b):Mv F H s A tl (adds F H B) H s A:=by
 refine⟨jz h,fun _ _ h _=>h,fun _ o h=>⟨o,h⟩,fun b o e=>?_,fun j b hj hb=>.inr ⟨j,hj,hb⟩,fun _ _=>⟨fun _ h=>h,rfl⟩⟩
 unfold adds at e
 split at e
 ·exact .inr (k b (by assumption))
 ·exact .inl ⟨o,e⟩
theorem se_v {md:Bool}{i:Nat}:SE W E [i] [] (tVar i) (WE md (.v i)):=by
 intro F H s σ A Q4 X4 Q R h q x
 obtain⟨t,h1,h2⟩:=h
 obtain⟨v,e1,e2,R2⟩:=R.frz h1
 have m1:Mv F H s A [i] (adds F H (A i)) H s A:=zbI (R.own i) fun b hb=>.inr ⟨i,ui.mpr rfl,hb⟩
 exact⟨v,e1,q _ _ v _ H _ [] ⟨R2,m1.trans' (KP fun b hb=>by cases hb),kC e2,Vd.nil,.nil,fun b hb=>by cases hb⟩ h2⟩
theorem se_m {md:Bool}{i:Nat}:SE W E [i] [] (tVar i) (WE md (.m i)):=by
 intro F H s σ A Q4 X4 Q R h q x
 obtain⟨t,h1,h2⟩:=h
 obtain⟨v,e1,e2,R2,d⟩:=R.del h1
 exact⟨v,e1,q _ _ v F H _ (A i) ⟨R2,KP (fun b hb=>by cases hb),e2,d,R.nd i,fun b hb _=>.inr ⟨i,ui.mpr rfl,hb⟩⟩ h2⟩
theorem KQ {t:T}{v:V}{m:Sl->QP->XP->Prop}(hv:∀ F H:Hp,Tr W F H t v [])(hm:∀ s Q X,m s Q X->Q t s):SE W E [] [] (tC v) m:=by
 intro F H s σ A Q4 X4 Q R h q x
 exact q t s v F H A [] ⟨R,Mv.refl,hv F H,Vd.nil,.nil,fun b hb=>by cases hb⟩ (hm s Q4 X4 h)
theorem Mv.adds {F H F1 H1:Hp}{s s1:Sl}{A A1:Lb}{B:Ld}{tl:Lc}(m:Mv F H s A tl F1 H1 s1 A1)(h:∀ b∈B,F1 b=Option.none)(k:∀ b∈B,H b=Option.none\/Tch A tl b):Mv F H s A tl (adds F1 H1 B) H1 s1 A1:=by
 refine⟨m.sF.trans (jz h),m.keep,m.dom,fun b o e=>?_,m.cells,m.slot⟩
 unfold L4.adds at e
 split at e
 ·exact .inr (k b (by assumption))
 ·exact m.frz b o e
theorem zdY {md:Bool}{tl:Lc}{te:TE}{e:Xp}(he:SE W E tl [] te (WE false e)):SE W E tl [] te (WE md (.frz e)):=by
 intro F H s σ A Q4 X4 Q R h q x
 refine he F H s σ A _ X4 Q R h (fun t s1 v F1 H1 A1 B p h1=>?_) x
 have no:∀ b∈B,¬ Ow A1 b:=fun b hb=>(p.vd.at_ b hb).resolve_right fun⟨_,z,_⟩=>by cases z
 exact q (fzn t) s1 v _ H1 A1 [] ⟨p.rep.adds p.vd,p.mv.adds p.vd.fr fun b hb=>p.new b hb (no b hb),kC (p.vd.frozen p.tr),Vd.nil,.nil,fun b hb=>by cases hb⟩ h1
end L4
namespace L4
open PySem L2 PySem.Spec PyProof.Rows
variable {W:Wd} {E:XS}
theorem zb {α:Type}{a b:List α}:∀ j∈a,j∈a++b:=fun _ h=>uj _ h
theorem zc {α:Type}{a b:List α}:∀ j∈b,j∈a++b:=fun _ h=>uc _ h
theorem Xx {F H F1 H1 F2 H2:Hp}{A A1 A2:Lb}{s s1 s2:Sl}{σ:L2.St}{tl1 tl2 rl1 rl2:Lc}{x y:T}{v u:V}{B1 B2:Ld}(p1:EPo W F H A s σ tl1 rl1 x s1 v F1 H1 A1 B1)(p2:EPo W F1 H1 A1 s1 σ tl2 rl2 y s2 u F2 H2 A2 B2)(dj:∀ j∈rl1,j∉tl2) :
  Mv F H s A (tl1++tl2) F2 H2 s2 A2/\Tr W F2 H2 x v B1/\Vd A2 F2 H2 rl1 B1/\∀ b∈B1,¬ Ow A2 b->H b=none\/Tch A (tl1++tl2) b:=
 ⟨p1.mv.trans p2.mv,p1.vd.tr (fun i j a=>p1.rep.dis i j a) dj p2.mv p1.tr,p1.vd.mv (fun i j a=>p1.rep.dis i j a) dj p2.mv,Jm p1.rep p1.vd p1.new p2.mv dj⟩
theorem zdZ {tl1 tl2 rl1 rl2 rl:Lc}{ta tb:TE}{ma mb:Sl->QP->XP->Prop}{r:R2}{f:T->T->Option T}(ha:SE W E tl1 rl1 ta ma)(hb:SE W E tl2 rl2 tb mb)(dj:∀ j∈rl1,j∉tl2)(op:OS W r f) :
  SE W E (tl1++tl2) rl (tOp r ta tb) (fun s Q X=>ma s (fun x s1=>mb s1 (fun y s2=>∃ z,f x y=some z/\Q z s2) X) X):=by
 intro F H s σ A Q4 X4 Q R h q x
 refine ha F H s σ A _ X4 _ R h (fun x1 s1 v F1 H1 A1 B1 p1 h1=>?_) (x.sub zb)
 refine hb F1 H1 s1 σ A1 _ X4 _ p1.rep h1 (fun y s2 u F2 H2 A2 B2 p2 h2=>?_) (x.mono (p1.mv.mono zb) zc)
 obtain⟨z,e,h2⟩:=h2
 obtain⟨m,tx,_,_⟩:=Xx p1 p2 dj
 exact op F2 H2 x1 y v u B1 B2 z _ p2.rep.fh tx p2.tr e fun w F3 H3 B3 a t=>q z s2 w F3 H3 A2 B3 (EPo.al m p2.rep a t) h2
theorem zd0 {md:Bool}{tl1 tl2 rl1 rl2:Lc}{ta tb:TE}{a b:Xp}{op:BO}(ha:SE W E tl1 rl1 ta (WE true a))(hb:SE W E tl2 rl2 tb (WE true b))(dj:∀ j∈rl1,j∉tl2):SE W E (tl1++tl2) [] (tOp (binR op) ta tb) (WE md (.bin op a b)):=by
 intro F H s σ A Q4 X4 Q R h
 exact zdZ ha hb dj (zdS op) F H s σ A Q4 X4 Q R h
theorem KR {md:Bool}{tl1 tl2 rl1 rl2:Lc}{ta tb:TE}{a b:Xp}{op:CO}(ha:SE W E tl1 rl1 ta (WE true a))(hb:SE W E tl2 rl2 tb (WE true b))(dj:∀ j∈rl1,j∉tl2):SE W E (tl1++tl2) [] (tOp (cmpR W.K op) ta tb) (WE md (.cmp op a b)):=by
 intro F H s σ A Q4 X4 Q R h q x
 refine ha F H s σ A _ X4 _ R h (fun x1 s1 v F1 H1 A1 B1 p1 h1=>?_) (x.sub zb)
 refine hb F1 H1 s1 σ A1 _ X4 _ p1.rep h1 (fun y s2 u F2 H2 A2 B2 p2 h2=>?_) (x.mono (p1.mv.mono zb) zc)
 obtain⟨z,e,h2⟩:=h2
 obtain⟨m,tx,_,_⟩:=Xx p1 p2 dj
 exact zdT op F2 H2 x1 y v u B1 B2 (.bl z) _ p2.rep.fh tx p2.tr (by show Option.map T.bl (cmpO op x1 y)=_;rw [e];rfl) fun w F3 H3 B3 a t=>q _ s2 w F3 H3 A2 B3 (EPo.al m p2.rep a t) h2
theorem zcB {tl:Lc}{te:TE}{m:Sl->QP->XP->Prop}(h:SE W E tl [] te m){m':Sl->(Bool->Sl->Prop)->XP->Prop}(hm:∀ s K X,m' s K X->m s (fun x s1=>∃ b,blO x=some b/\K b s1) X):ST W E tl (YL te) m':=by
 intro F H s σ A Q4 X4 Q R e q x
 refine h F H s σ A _ X4 _ R (hm s Q4 X4 e) (fun t s1 v F1 H1 A1 B1 p ⟨b,e1,e2⟩=>⟨b,vg p.tr e1,q b s1 F1 H1 A1 ⟨p.rep,p.mv⟩ e2⟩) x
theorem zd1 {md:Bool}{tl rl:Lc}{ta:TE}{a:Xp}(ha:SE W E tl rl ta (WE true a)):SE W E tl [] (tUn (rU fun i=>.int (-i)) ta) (WE md (.neg a)):=by
 intro F H s σ A Q4 X4 Q R h q x
 refine ha F H s σ A _ X4 _ R h (fun t s1 v F1 H1 A1 B p h1=>?_) x
 obtain⟨i,e,h1⟩:=h1
 exact⟨i,zK p.tr e,q _ s1 _ F1 H1 A1 [] (EPo.al p.mv p.rep (Al.refl p.rep.fh) vh) h1⟩
theorem zd2 {md:Bool}{tl rl:Lc}{ta:TE}{a:Xp}(ha:SE W E tl rl ta (WE true a)):SE W E tl [] (zcj ta) (WE md (.not a)):=by
 intro F H s σ A Q4 X4 Q R h q x
 refine ha F H s σ A _ X4 _ R h (fun t s1 v F1 H1 A1 B p h1=>?_) x
 obtain⟨i,e,h1⟩:=h1
 exact⟨i,vg p.tr e,q _ s1 _ F1 H1 A1 [] (EPo.al p.mv p.rep (Al.refl p.rep.fh) yd) h1⟩
theorem KS {md:Bool}{tl1 tl2 tl3 rl1 rl2 rl3:Lc}{ta tb tc:TE}{a b c:Xp}{o1 o2:CO}(ha:SE W E tl1 rl1 ta (WE true a))(hb:SE W E tl2 rl2 tb (WE true b))(hc:SE W E tl3 rl3 tc (WE true c)):SE W E (tl1++(tl2++tl3)) [] (Xd (cmpR W.K o1) (cmpR W.K o2) ta tb tc) (WE md (.chn o1 o2 a b c)):=by
 intro F H s σ A Q4 X4 Q R h q x
 have ci:∀ {o:CO} {F H:Hp} {i j:Int} {z:Bool} {Q:VK},Same F H->cmpI o i j=some z->Q (.bl z) H->cmpR W.K o (.int i) (.int j) H Q:=fun {o F H i j z Q} g e q=>by
  cases o<;>simp only [cmpI,uw,reduceCtorEq] at e<;>subst e<;>exact⟨i,j,rfl,rfl,q⟩
 refine ha F H s σ A _ X4 _ R h (fun x1 s1 v F1 H1 A1 B1 p1 h1=>?_) (x.sub zb)
 refine hb F1 H1 s1 σ A1 _ X4 _ p1.rep h1 (fun y s2 u F2 H2 A2 B2 p2 h2=>?_) (x.mono (p1.mv.mono zb) fun j h=>zc j (zb j h))
 obtain⟨i,j,e1,e2,z,e3,h2⟩:=h2
 have hv:=zK p1.tr e1
 have hu:=zK p2.tr e2
 subst hv;subst hu
 have m12:=p1.mv.trans p2.mv
 have m12':Mv F H s A (tl1++(tl2++tl3)) F2 H2 s2 A2:=m12.mono fun j h=>by rw [← uM];exact zb j h
 refine ci p2.rep.fh e3 ⟨z,rfl,?_⟩
 cases z with
 | false=>
  rw [uy (by decide)] at h2 ⊢
  exact q _ s2 _ F2 H2 A2 [] (EPo.al m12' p2.rep (Al.refl p2.rep.fh) yd) h2
 | true=>
  rw [uz rfl] at h2 ⊢
  refine hc F2 H2 s2 σ A2 _ X4 _ p2.rep h2 (fun y3 s3 u3 F3 H3 A3 B3 p3 h3=>?_) (x.mono m12' fun j h=>zc j (zc j h))
  obtain⟨k,e4,z,e5,h3⟩:=h3
  have hk:=zK p3.tr e4
  subst hk
  have m3:Mv F H s A (tl1++(tl2++tl3)) F3 H3 s3 A3:=m12'.trans' (p3.mv.mono fun j h=>zc j (zc j h))
  exact ci p3.rep.fh e5 (q _ s3 _ F3 H3 A3 [] (EPo.al m3 p3.rep (Al.refl p3.rep.fh) yd) h3)
theorem Vp {F H F1 H1:Hp}{A A1:Lb}{s s1:Sl}{σ:L2.St}{tl rl:Lc}{z:T}{w:V}{B C:Ld}{md:Bool}(R:Rep W F1 H1 s1 σ A1)(m:Mv F H s A tl F1 H1 s1 A1)(t:Tr W F1 H1 z w C)(sub:C.Sublist B)(nd:B.Nodup)(vd:Vd A1 F1 H1 rl B)(new:∀ b∈B,¬ Ow A1 b->H b=none\/Tch A tl b)(hs:md=true\/shr z=true):EPo W F H A s σ tl (if md=true then rl else []) z s1 w F1 H1 A1 C:=by
 refine⟨R,m,t,?_,sub.nodup nd,fun b hb=>new b (sub.subset hb)⟩
 cases md with
 | true=>exact vd.sub fun b hb=>sub.subset hb
 | false=>
  rw [vV (hs.resolve_left (by decide)) t]
  exact Vd.nil
theorem zfB {md:Bool}{tl1 tl2 rl1 rl2:Lc}{ta tb:TE}{a k:Xp}(ha:SE W E tl1 rl1 ta (WE true a))(hb:SE W E tl2 rl2 tb (WE true k))(dj:∀ j∈rl1,j∉tl2):SE W E (tl1++tl2) (if md=true then rl1 else []) (tOp (ixR W.K) ta tb) (WE md (.ix a k)):=by
 intro F H s σ A Q4 X4 Q R h q x
 refine ha F H s σ A _ X4 _ R h (fun x1 s1 v F1 H1 A1 B1 p1 h1=>?_) (x.sub zb)
 refine hb F1 H1 s1 σ A1 _ X4 _ p1.rep h1 (fun y s2 u F2 H2 A2 B2 p2 h2=>?_) (x.mono (p1.mv.mono zb) zc)
 obtain⟨z,e,hs,h2⟩:=h2
 obtain⟨m,tx,vx,nx⟩:=Xx p1 p2 dj
 exact zfv p2.rep.fh tx p2.tr e fun w C tz sub=>q z s2 w F2 H2 A2 C (Vp p2.rep m tz sub p1.nd vx nx hs) h2
theorem Wn {F H:Hp}:∀ {fs:Lh} {xs:List T} {kvs:List (Str×V)} {C:Ld} {f:Str} {z:T},kvs.map (·.1)=fs->TrL W F H xs (kvs.map (·.2)) C->((fs.zip xs).find? fun kv=>decide (kv.1=f)).map (·.2)=some z->∃ v D,kvs.lookup f=some v/\Tr W F H z v D/\D.Sublist C
 | _,_,[],_,_,_,e,h,q=>by subst e;simp at q
 | _,xs,(k',v')::kvs,C,f,z,e,h,q=>by
  subst e
  cases xs with
  | nil=>simp at q
  | cons x xs=>
   obtain⟨w,r,A1,A2,e1,rfl,h1,h2⟩:=h
   cases e1
   by_cases hk:k' = f
   ·subst hk
    simp at q
    subst q
    exact⟨v',A1,by simp,h1,UC _ _⟩
   ·have q':(((kvs.map (·.1)).zip xs).find? fun kv=>decide (kv.1=f)).map (·.2)=some z:=by simpa [Ur,hk] using q
    obtain⟨v,D,e2,h3,h4⟩:=Wn rfl h2 q'
    refine⟨v,D,?_,h3,h4.trans (UA _ _)⟩
    rw [uY,show(f == k')=false from by simp [Ne.symm hk]]
    exact e2
theorem zfC {md:Bool}{tl rl:Lc}{ta:TE}{a:Xp}{c:Nat}{f:Str}(hc:Cls W.K (W.cl c))(hn:qk W.K (W.cl c) f)(ha:SE W E tl rl ta (WE true a)):SE W E tl (if md=true then rl else []) (tFld W.K ta f) (WE md (.at a c f)):=by
 intro F H s σ A Q4 X4 Q R h q x
 refine ha F H s σ A _ X4 _ R h (fun t s1 v F1 H1 A1 B p h1=>?_) x
 obtain⟨z,e,hs,h1⟩:=h1
 unfold fldO at e
 rw [uO] at e
 obtain⟨o,e1,e2⟩:=e
 split at e2
 ·rename_i hcc
  obtain⟨p',dx,kvs,C,rfl,k1,k2,k3,k4⟩:=KA p.rep.fh p.tr e1
  obtain⟨w,D,f1,f2,f3⟩:=Wn k2 k3 e2
  rw [hcc] at k1
  exact⟨p',_,dx,kvs,w,rfl,k1,hc,hn,f1,q z s1 w F1 H1 A1 D (Vp p.rep p.mv f2 (f3.trans k4) p.nd p.vd p.new hs) h1⟩
 ·cases e2
def SO (W:Wd)(E:XS)(tl:Lc)(t:TO)(m:Sl->(Option Int->Sl->Prop)->XP->Prop):Prop:=∀ (F H:Hp) (s:Sl) (σ:L2.St) (A:Lb) (Q4:Option Int->Sl->Prop) (X4:XP) (Q:Option Int->Hp->Prop),Rep W F H s σ A->m s Q4 X4 ->
 (∀ o s' F' H' A',BPo W F H A s σ tl s' F' H' A'->Q4 o s'->Q o H')->XK4 W E F H A s σ tl X4->t σ H Q
theorem zbJ:SO W E [] X7 (WO []):=by
 intro F H s σ A Q4 X4 Q R h q x
 exact q none s F H A ⟨R,Mv.refl⟩ h
theorem zbK {tl rl:Lc}{te:TE}{e:Xp}(he:SE W E tl rl te (WE true e)):SO W E tl (zco te) (WO [e]):=by
 intro F H s σ A Q4 X4 Q R h q x
 exact he F H s σ A _ X4 _ R h.2 (fun t s1 v F1 H1 A1 B p ⟨i,e1,h1⟩=>⟨i,zK p.tr e1,q (some i) s1 F1 H1 A1 ⟨p.rep,p.mv⟩ h1⟩) x
theorem zfD {md:Bool}{tl1 tl2 tl3 rl:Lc}{ta:TE}{to tu:TO}{a:Xp}{lo hi:List Xp}(ha:SE W E tl1 rl ta (WE true a))(hl:SO W E tl2 to (WO lo))(hh:SO W E tl3 tu (WO hi))(dj:∀ j∈rl,j∉tl2++tl3):SE W E (tl1++(tl2++tl3)) [] (tSl (slR W.K) ta to tu) (WE md (.sl a lo hi)):=by
 intro F H s σ A Q4 X4 Q R h q x
 refine ha F H s σ A _ X4 _ R h (fun x1 s1 v F1 H1 A1 B1 p1 h1=>?_) (x.sub zb)
 refine hl F1 H1 s1 σ A1 _ X4 _ p1.rep h1 (fun l s2 F2 H2 A2 p2 h2=>?_) (x.mono (p1.mv.mono zb) fun j h=>zc j (zb j h))
 have m12:Mv F H s A (tl1++(tl2++tl3)) F2 H2 s2 A2:=(p1.mv.trans p2.mv).mono fun j h=>by rw [← uM];exact zb j h
 refine hh F2 H2 s2 σ A2 _ X4 _ p2.rep h2 (fun u s3 F3 H3 A3 p3 h3=>?_) (x.mono m12 fun j h=>zc j (zc j h))
 obtain⟨z,e,h3⟩:=h3
 have m23:=p2.mv.trans p3.mv
 exact zfw p3.rep.fh (p1.vd.tr (fun i j a=>p1.rep.dis i j a) dj m23 p1.tr) e fun w F4 H4 B4 a t=>q z s3 w F4 H4 A3 B4 (EPo.al (p1.mv.trans m23) p3.rep a t) h3
theorem zd3 {md:Bool}{tl1 tl2 tl3 rl2 rl3:Lc}{tt:TT}{ta tb:TE}{t a b:Xp}(ht:ST W E tl1 tt (fun s K X=>WE true t s (fun x s1=>∃ z,blO x=some z/\K z s1) X))(ha:SE W E tl2 rl2 ta (WE md a))(hb:SE W E tl3 rl3 tb (WE md b)):SE W E (tl1++(tl2++tl3)) (rl2++rl3) (tIf tt ta tb) (WE md (.ife t a b)):=by
 intro F H s σ A Q4 X4 Q R h q x
 refine ht F H s σ A (fun z s1=>if z=true then WE md a s1 Q4 X4 else WE md b s1 Q4 X4) X4 _ R h (fun z s1 F1 H1 A1 p h1=>?_) (x.sub zb)
 cases z with
 | true=>
  rw [uz rfl] at h1 ⊢
  refine ha F1 H1 s1 σ A1 Q4 X4 Q p.rep h1 (fun t' s2 v F2 H2 A2 B p2 h2=>q t' s2 v F2 H2 A2 B ⟨p2.rep,(p.mv.mono zb).trans' (p2.mv.mono fun j h=>zc j (zb j h)),p2.tr,p2.vd.imp zb,p2.nd,fun b hb no=>?_⟩ h2) (x.mono (p.mv.mono zb) fun j h=>zc j (zb j h))
  rcases p2.new b hb no with y | y
  ·exact .inl (p.mv.none y)
  ·exact(p.mv.mono zb).ta (y.imp fun _ h=>⟨zc _ (zb _ h.1),h.2⟩)
 | false=>
  rw [uy (by decide)] at h1 ⊢
  refine hb F1 H1 s1 σ A1 Q4 X4 Q p.rep h1 (fun t' s2 v F2 H2 A2 B p2 h2=>q t' s2 v F2 H2 A2 B ⟨p2.rep,(p.mv.mono zb).trans' (p2.mv.mono fun j h=>zc j (zc j h)),p2.tr,p2.vd.imp zc,p2.nd,fun b hb no=>?_⟩ h2) (x.mono (p.mv.mono zb) fun j h=>zc j (zc j h))
  rcases p2.new b hb no with y | y
  ·exact .inl (p.mv.none y)
  ·exact(p.mv.mono zb).ta (y.imp fun _ h=>⟨zc _ (zc _ h.1),h.2⟩)
end L4
namespace L4
open PySem L2 PySem.Spec PyProof.Rows
variable {W:Wd} {E:XS}
theorem KU {md:Bool}{rl:Lc}:SA W E [] rl tNil (WEs md []):=by
 intro F H s σ A Q4 X4 Q R h q x
 exact q [] s [] F H A [] ⟨R,Mv.refl,⟨rfl,rfl⟩,Vd.nil,fun _=>.nil,fun b hb=>by cases hb⟩ h
theorem KW {tl1 tl2 rl1 rl2:Lc}{te:TE}{tr:TA}{m1:Sl->QP->XP->Prop}{m2:Sl->(List T->Sl->Prop)->XP->Prop}(he:SE W E tl1 rl1 te m1)(hr:SA W E tl2 rl2 tr m2)(dj:∀ j∈rl1,j∉tl2):SA W E (tl1++tl2) (rl1++rl2) (j9 te tr) (fun s Q X=>m1 s (fun t s1=>m2 s1 (fun ts s2=>Q (t::ts) s2) X) X):=by
 intro F H s σ A Q4 X4 Q R h q x
 refine he F H s σ A _ X4 _ R h (fun t s1 v F1 H1 A1 B1 p1 h1=>?_) (x.sub zb)
 refine hr F1 H1 s1 σ A1 _ X4 _ p1.rep h1 (fun ts s2 vs F2 H2 A2 B2 p2 h2=>?_) (x.mono (p1.mv.mono zb) zc)
 have vx:=p1.vd.mv (fun i j a=>p1.rep.dis i j a) dj p2.mv
 refine q (t::ts) s2 (v::vs) F2 H2 A2 (B1++B2) ⟨p2.rep,p1.mv.trans p2.mv,⟨v,vs,B1,B2,rfl,rfl,p1.vd.tr (fun i j a=>p1.rep.dis i j a) dj p2.mv p1.tr,p2.tr⟩,vx.app p2.vd,fun e=>?_,fun b hb no=>?_⟩ h2
 ·obtain⟨rfl,rfl⟩:=Uo.mp e
  refine zF p1.nd (p2.nd rfl) fun b hb hb2=>?_
  have no1:¬ Ow A1 b:=(p1.vd.at_ b hb).resolve_right fun⟨_,z,_⟩=>by cases z
  have no2:¬ Ow A2 b:=(p2.vd.at_ b hb2).resolve_right fun⟨_,z,_⟩=>by cases z
  rcases p2.new b hb2 no2 with z | ⟨j,_,z⟩
  ·obtain⟨y,hy⟩:=p1.vd.ob b hb
   rw [hy] at z;cases z
  ·exact no1 ⟨j,z⟩
 ·rcases ud.mp hb with z | z
  ·exact Jm p1.rep p1.vd p1.new p2.mv dj b z no
  ·rcases p2.new b z no with y | y
   ·exact .inl (p1.mv.none y)
   ·exact(p1.mv.mono zb).ta (y.imp fun _ h=>⟨zc _ h.1,h.2⟩)
theorem Vq {md:Bool}{tl1 tl2 rl1 rl2:Lc}{te:TE}{tr:TA}{e:Xp}{es:List Xp}(he:SE W E tl1 rl1 te (WE md e))(hr:SA W E tl2 rl2 tr (WEs md es))(dj:∀ j∈rl1,j∉tl2):SA W E (tl1++tl2) (rl1++rl2) (j9 te tr) (WEs md (e::es)):=by
 intro F H s σ A Q4 X4 Q R h
 exact KW he hr dj F H s σ A Q4 X4 Q R h
theorem EPo.box {F H F1 H1 F2 H2:Hp}{A A1:Lb}{s s1:Sl}{σ:L2.St}{tl rl:Lc}{ts:List T}{vs:List V}{B B0:Ld}{z:T}{w:V}(p:LPo W F H A s σ tl [] ts s1 vs F1 H1 A1 B)(a:Al F1 H1 F2 H2 B0)(t:Tr W F2 H2 z w (B0++B)):EPo W F H A s σ tl rl z s1 w F2 H2 A1 (B0++B):=by
 have d2:Vd A1 F2 H2 [] B:=p.vd.mv (fun i j a=>p.rep.dis i j a) (tl:=[]) (fun _ _ h=>by cases h) a.mv (s:=s1)
 have d0:=a.vd p.rep
 refine⟨a.rep p.rep,p.mv.trans' a.mv,t,(d0.app d2).imp (fun _ h=>by cases h),zF a.nd (p.nd rfl) fun b hb z=>?_,fun b hb no=>?_⟩
 ·obtain⟨y,hy⟩:=p.vd.ob b z
  rw [(a.nB b hb).1] at hy;cases hy
 ·rcases ud.mp hb with z | z
  ·exact .inl (p.mv.none (a.nB b z).1)
  ·exact p.new b z no
theorem zd4 {md:Bool}{tl:Lc}{ta:TA}{es:List Xp}(h1:SA W E tl [] ta (WEs false es)):SE W E tl [] (tLst ta) (WE md (.lst es)):=by
 intro F H s σ A Q4 X4 Q R h q x
 refine h1 F H s σ A _ X4 _ R h (fun ts s1 vs F1 H1 A1 B p ⟨hl,h2⟩=>⟨by rw [p.tr.len,sizeLine_eq];exact hl,fun l hp=>?_⟩) x
 have a:=Al.cell (o:=.lst vs) p.rep.fh hp
 have hB:l∉B:=fun z=>by obtain⟨y,hy⟩:=p.vd.ob l z;rw [hp] at hy;cases hy
 exact q (.ls ts) s1 _ F1 _ A1 ([l]++B) (EPo.box p a ⟨l,vs,B,rfl,zw,rfl,p.tr.upd hB⟩) h2
theorem zd5 {md:Bool}{tl:Lc}{ta:TA}{es:List Xp}(h1:SA W E tl [] ta (WEs false es)):SE W E tl [] (tTup ta) (WE md (.tup es)):=by
 intro F H s σ A Q4 X4 Q R h q x
 refine h1 F H s σ A _ X4 _ R h (fun ts s1 vs F1 H1 A1 B p ⟨hl,h2⟩=>⟨by rw [p.tr.len,sizeLine_eq];exact hl,fun l hp=>?_⟩) x
 have a:=Al.froz (o:=.tup vs) p.rep.fh hp
 exact q (.tp ts) s1 _ _ _ A1 ([]++B) (EPo.box p a ⟨l,vs,rfl,zw,p.tr.frame a.sF fun b hb y hy=>a.sH _ _ hy⟩) h2
theorem zbL {md:Bool}:SE W E [] [] tD0 (WE md (.dct [])):=by
 intro F H s σ A Q4 X4 Q R h q x
 obtain⟨d,e,h⟩:=h
 cases e
 intro p hp
 exact q (.dc [] []) s _ F _ A [p] (EPo.al Mv.refl R (Al.cell R.fh hp) ⟨p,[],[],rfl,zw,rfl,rfl,rfl,rfl⟩) h.2
theorem zd6 {k:Bool}{tl rl:Lc}{te:TE}{e:Xp}(he:SE W E tl rl te (WE true e)):SE W E tl [] te (WB k [e]):=by
 intro F H s σ A Q4 X4 Q R h q x
 refine he F H s σ A _ X4 _ R h (fun t s1 v F1 H1 A1 B p ⟨b,e1,h1⟩=>?_) x
 have hv:=vg p.tr e1
 subst hv
 rcases h1 with⟨_,h1⟩ | ⟨n,_⟩
 ·exact q _ s1 _ F1 H1 A1 [] (EPo.al p.mv p.rep (Al.refl p.rep.fh) yd) h1
 ·exact absurd rfl n
theorem zbM {k:Bool}{tl1 tl2 rl1:Lc}{ta tb:TE}{e e':Xp}{es:List Xp}(he:SE W E tl1 rl1 ta (WE true e))(hs:SE W E tl2 [] tb (WB k (e'::es))):SE W E (tl1++tl2) [] (if k=true then zci ta tb else tOrV ta tb) (WB k (e::e'::es)):=by
 intro F H s σ A Q4 X4 Q R h q x
 rw [WB] at h
 have rest:∀ {s1 F1 H1 A1},BPo W F H A s σ tl1 s1 F1 H1 A1->WB k (e'::es) s1 Q4 X4->tb σ H1 Q:=fun {s1 F1 H1 A1} p h1=>by
  refine hs F1 H1 s1 σ A1 _ X4 _ p.rep h1 (fun t2 s2 v2 F2 H2 A2 B2 p2 h2=>q t2 s2 v2 F2 H2 A2 B2 ⟨p2.rep,p.mv.trans p2.mv,p2.tr,p2.vd,p2.nd,fun b hb no=>?_⟩ h2) (x.mono (p.mv.mono zb) zc)
  rcases p2.new b hb no with y | y
  ·exact .inl (p.mv.none y)
  ·exact(p.mv.mono zb).ta (y.imp fun _ h=>⟨zc _ h.1,h.2⟩)
 have stop:∀ {s1 F1 H1 A1} {b:Bool},BPo W F H A s σ tl1 s1 F1 H1 A1->Q4 (.bl b) s1->Q (.bl b) H1:=fun {s1 F1 H1 A1 b} p h1=>q _ s1 _ F1 H1 A1 [] (EPo.al (p.mv.mono zb) p.rep (Al.refl p.rep.fh) yd) h1
 cases k
 ·rw [uy (by decide)]
  refine he F H s σ A _ X4 _ R h (fun t s1 v F1 H1 A1 B p ⟨b,e1,h1⟩=>⟨b,vg p.tr e1,?_⟩) (x.sub zb)
  rcases h1 with⟨n,_⟩ | ⟨_,h1⟩
  ·cases n
  cases b
  ·exact rest ⟨p.rep,p.mv⟩ h1
  ·exact stop ⟨p.rep,p.mv⟩ h1
 ·rw [uz rfl]
  refine he F H s σ A _ X4 _ R h (fun t s1 v F1 H1 A1 B p ⟨b,e1,h1⟩=>⟨b,vg p.tr e1,?_⟩) (x.sub zb)
  rcases h1 with⟨n,_⟩ | ⟨_,h1⟩
  ·cases n
  cases b
  ·exact stop ⟨p.rep,p.mv⟩ h1
  ·exact rest ⟨p.rep,p.mv⟩ h1
theorem KY {k:Bool}{tl1 tl2:Lc}{ta tb:TT}{e:Xp}{es:List Xp}(he:ST W E tl1 ta (fun s K X=>WE true e s (fun x s1=>∃ z,blO x=some z/\K z s1) X))(hs:ST W E tl2 tb (WTb k es)):ST W E (tl1++tl2) (if k=true then tAnd ta tb else tOr ta tb) (WTb k (e::es)):=by
 intro F H s σ A Q4 X4 Q R h q x
 rw [WTb] at h
 have rest:∀ {s1 F1 H1 A1},BPo W F H A s σ tl1 s1 F1 H1 A1->WTb k es s1 Q4 X4->tb σ H1 Q:=fun {s1 F1 H1 A1} p h1=>
  hs F1 H1 s1 σ A1 _ X4 _ p.rep h1 (fun b s2 F2 H2 A2 p2 h2=>q b s2 F2 H2 A2 ⟨p2.rep,p.mv.trans p2.mv⟩ h2) (x.mono (p.mv.mono zb) zc)
 have stop:∀ {s1 F1 H1 A1} {b:Bool},BPo W F H A s σ tl1 s1 F1 H1 A1->Q4 b s1->Q b H1:=fun {s1 F1 H1 A1 b} p h1=>q b s1 F1 H1 A1 ⟨p.rep,p.mv.mono zb⟩ h1
 cases k
 ·rw [uy (by decide)]
  refine he F H s σ A (fun b s1=>if b=false then WTb false es s1 Q4 X4 else Q4 b s1) X4 _ R h (fun b s1 F1 H1 A1 p h1=>?_) (x.sub zb)
  cases b
  ·exact rest p h1
  ·exact stop p h1
 ·rw [uz rfl]
  refine he F H s σ A (fun b s1=>if b=true then WTb true es s1 Q4 X4 else Q4 b s1) X4 _ R h (fun b s1 F1 H1 A1 p h1=>?_) (x.sub zb)
  cases b
  ·exact stop p h1
  ·exact rest p h1
theorem zbN {k:Bool}:ST W E [] (fun _ H Q=>Q k H) (WTb k []):=by
 intro F H s σ A Q4 X4 Q R h q x
 exact q k s F H A ⟨R,Mv.refl⟩ h
theorem zfE {md:Bool}{tl rl:Lc}{ta:TA}{b:BI}{es:List Xp}(h1:SA W E tl rl ta (WEs true es)):SE W E tl [] (tCB (biR W.K b) ta) (WE md (.bi b es)):=by
 intro F H s σ A Q4 X4 Q R h q x
 refine h1 F H s σ A _ X4 _ R h (fun ts s1 vs F1 H1 A1 B p ⟨z,e,h2⟩=>?_) x
 exact zfx p.rep.fh p.tr e fun w F2 H2 B2 a t=>q z s1 w F2 H2 A1 B2 (EPo.al p.mv p.rep a t) h2
theorem zfF {md:Bool}{tl1 tl2 rl1 rl2:Lc}{to:TE}{ta:TA}{m:ME}{o:Xp}{es:List Xp}(hm:m≠.get2)(ho:SE W E tl1 rl1 to (WE true o))(h1:SA W E tl2 rl2 ta (WEs true es)):SE W E (tl1++tl2) [] (tBM W.K "str" (meR W.K m) to ta) (WE md (.me m o es)):=by
 intro F H s σ A Q4 X4 Q R h q x
 refine ho F H s σ A _ X4 _ R h (fun x1 s1 v F1 H1 A1 B1 p1 ⟨hk,h2⟩=>?_) (x.sub zb)
 have hk:∃ l,x1=.str l:=by
  have:(strO x1).isSome=true:=by cases m<;>first | exact hk | exact absurd rfl hm
  cases x1<;>first | exact⟨_,rfl⟩ | cases this
 obtain⟨l,rfl⟩:=hk
 have hv:=p1.tr.2.1
 subst hv
 refine⟨rfl,h1 F1 H1 s1 σ A1 _ X4 _ p1.rep h2 (fun ts s2 vs F2 H2 A2 B2 p2 ⟨z,e,h3⟩=>?_) (x.mono (p1.mv.mono zb) zc)⟩
 exact zfy hm p2.rep.fh (xn p1.tr.2.2) p2.tr e fun w F3 H3 B3 a t=>q z s2 w F3 H3 A2 B3 (EPo.al (p1.mv.trans p2.mv) p2.rep a t) h3
end L4
namespace L4
open PySem L2 PySem.Spec PyProof.Rows
variable {W:Wd} {E:XS}
theorem PPo.step {F H F1 H1 F2 H2:Hp}{A A1 A2:Lb}{s s1 s2:Sl}{σ:L2.St}{tl tl' rl:Lc}{i:Nat}{p:Lc}{v:V}(p1:PPo W F H A s σ tl rl i p s1 v F1 H1 A1)(R2:Rep W F2 H2 s2 σ A2)(m:Mv F1 H1 s1 A1 tl' F2 H2 s2 A2)(dj:∀ j∈rl,j∉tl'):PPo W F H A s σ (tl++tl') rl i p s2 v F2 H2 A2:=by
 obtain⟨r,u,w,e1,e2,e3,e4⟩:=p1.at_
 have hi:=dj i p1.rt
 have e1':=(m.slot i hi).1 r e1
 refine⟨R2,p1.mv.trans m,⟨r,u,w,e1',e2,e3,?_⟩,p1.rt⟩
 obtain⟨w',k1,k2⟩:=p1.rep.slot i r e1
 rw [e3] at k1
 cases k1
 obtain⟨w1,B1,B2,B3,f1,f2,f3,f4⟩:=k2.focus p1.rep.fh p e2
 have:=(f4 m.sF R2.fh fun b hb x hx=>m.keep b x hx fun⟨j,h1,h2⟩=>?_).1 p [] (by simp)
 ·rw [this];exact e4
 ·have:=p1.rep.dis i j b (by rw [f2];exact uj _ hb) h2
  subst this
  exact hi h1
theorem sp_b {i:Nat}:SP W E [] [i] (tVar i) (WP (.b i)):=by
 intro F H s σ A Q4 X4 Q R h q x
 obtain⟨⟨t,h1⟩,h2⟩:=h
 obtain⟨v,e1,e2⟩:=R.slot i t h1
 exact⟨v,e1,q i [] s v F H A ⟨R,Mv.refl,⟨t,t,v,h1,rfl,e1,rfl⟩,ui.mpr rfl⟩ h2⟩
theorem sp_a {j i:Nat}:SP W E [] [i,j] (tVar j) (WP (.a j i)):=by
 intro F H s σ A Q4 X4 Q R h q x
 obtain⟨k,p,h1,h2⟩:=h
 have hi:=KN h1
 rcases h1 with⟨rfl,h1⟩ | ⟨rfl,rfl,r,h1⟩
 ·obtain⟨t,u,w,v,k1,k2,k3,k4,k5⟩:=R.al j k p h1
  exact⟨v,k4,q k p s v F H A ⟨R,Mv.refl,⟨t,u,w,k1,k2,k3,k5⟩,hi⟩ h2⟩
 ·obtain⟨v,e1,e2⟩:=R.slot k r h1
  exact⟨v,e1,q k [] s v F H A ⟨R,Mv.refl,⟨r,r,v,h1,rfl,e1,rfl⟩,hi⟩ h2⟩
theorem PPo.tr {F H F1 H1:Hp}{A A1:Lb}{s s1:Sl}{σ:L2.St}{tl rl:Lc}{i:Nat}{p:Lc}{v:V}{t:T}(p1:PPo W F H A s σ tl rl i p s1 v F1 H1 A1)(h:getP s1 i p=some t):∃ r w C,s1[i]? = some (.own r)/\getT r p=some t/\σ[i]? = some (some w)/\vAt H1 w p=some v/\Tr W F1 H1 t v C:=by
 obtain⟨r,u,w,e1,e2,e3,e4⟩:=p1.at_
 obtain⟨r',g1,g2⟩:=ZO h
 rw [e1] at g1
 cases g1
 obtain⟨w',k1,k2⟩:=p1.rep.slot i r e1
 rw [e3] at k1
 cases k1
 obtain⟨w1,B1,B2,B3,f1,f2,f3,f4⟩:=k2.focus p1.rep.fh p g2
 rw [e4] at f1
 cases f1
 exact⟨r,w,B2,e1,g2,e3,e4,f3⟩
theorem Zh {H:Hp}:∀ (p:Lc) {w v u:V} {j:Nat},vAt H w p=some v->kAt H v j=some u->vAt H w (p++[j])=some u
 | [],w,v,u,j,h,k=>by cases h;simp only [gq,vAt,k,uJ]
 | i::p,w,v,u,j,h,k=>by
  simp only [vAt] at h
  cases e:kAt H w i with
  | none=>rw [e] at h;cases h
  | some y=>
   rw [e] at h
   simp only [UN,vAt,e,uJ]
   exact Zh p h k
theorem kF {r t:T}{p:Lc}{ts:List T}{j:Nat}{x:T}(h:getT r p=some t)(k:kids t=some ts)(e:ts[j]? = some x):getT r (p++[j])=some x:=by
 rw [Wf p [j] h]
 simp only [getT,k,e]
theorem KZ {n:Nat}{i:Int}{j:Nat}(h:ixN n i=some j):j<n:=by
 unfold ixN at h
 split at h
 ·split at h
  ·cases h;lia
  ·cases h
 ·split at h
  ·cases h;lia
  ·cases h
theorem zbO {F H:Hp}{t y:T}{v u:V}{M C:Ld}{j:Nat}{Q:VK}(g:Same F H)(h:Tr W F H t v M)(hy:Tr W F H y u C)(e:stepI t y=some j)(q:∀ w ts x,kAt H v j=some w->kids t=some ts->ts[j]? = some x->Q w H):ixR W.K v u H Q:=by
 unfold stepI at e
 split at e
 ·rename_i xs
  rw [uO] at e
  obtain⟨i,e1,e2⟩:=e
  have hu:=zK hy e1
  subst hu
  obtain⟨p,vs,B,rfl,h1,rfl,h2⟩:=h
  have hj:=KZ e2
  obtain⟨w,_,_,_,k1,_⟩:=h2.get (uq hj)
  refine .inl ⟨p,vs,i,w,rfl,rfl,SqL.of h1,?_,q w _ _ ?_ rfl (uq hj)⟩
  ·unfold atI;rw [h2.len,e2];exact k1
  ·simp only [kAt,h1,uJ,hk,k1]
 ·rename_i xs
  rw [uO] at e
  obtain⟨i,e1,e2⟩:=e
  have hu:=zK hy e1
  subst hu
  obtain⟨p,vs,rfl,h1,h2⟩:=h
  have hj:=KZ e2
  obtain⟨w,_,_,_,k1,_⟩:=h2.get (uq hj)
  refine .inr (.inl ⟨p,vs,i,w,rfl,rfl,SqT.of (g _ _ h1),?_,q w _ _ ?_ rfl (uq hj)⟩)
  ·unfold atI;rw [h2.len,e2];exact k1
  ·simp only [kAt,g _ _ h1,uJ,hk,k1]
 ·cases e
theorem zfG {tl1 tl2 rl rl2:Lc}{ta tb:TE}{a k:Xp}(ha:SP W E tl1 rl ta (WP a))(hb:SE W E tl2 rl2 tb (WE true k))(dj:∀ j∈rl,j∉tl2):SP W E (tl1++tl2) rl (tOp (ixR W.K) ta tb) (WP (.ix a k)):=by
 intro F H s σ A Q4 X4 Q R h q x
 refine ha F H s σ A _ X4 _ R h (fun i p s1 v F1 H1 A1 p1 h1=>?_) (x.sub zb)
 refine hb F1 H1 s1 σ A1 _ X4 _ p1.rep h1 (fun y s2 u F2 H2 A2 B2 p2 h2=>?_) (x.mono (p1.mv.mono zb) zc)
 obtain⟨t,j,e1,e2,h2⟩:=h2
 have p3:=p1.step p2.rep p2.mv dj
 obtain⟨r,w,C,g1,g2,g3,g4,g5⟩:=p3.tr e1
 exact zbO p2.rep.fh g5 p2.tr e2 fun w' ts x' k1 k2 k3=>q i (p++[j]) s2 w' F2 H2 A2 ⟨p2.rep,p3.mv,⟨r,x',w,g1,kF g2 k2 k3,g3,Zh p g4 k1⟩,p1.rt⟩ h2
theorem zfH {tl rl:Lc}{ta:TE}{a:Xp}{c:Nat}{f:Str}(hc:Cls W.K (W.cl c))(hn:qk W.K (W.cl c) f)(ha:SP W E tl rl ta (WP a)):SP W E tl rl (tFld W.K ta f) (WP (.at a c f)):=by
 intro F H s σ A Q4 X4 Q R h q x
 refine ha F H s σ A _ X4 _ R h (fun i p s1 v F1 H1 A1 p1 h1=>?_) x
 obtain⟨t,j,e1,e2,h1⟩:=h1
 obtain⟨r,w,C,g1,g2,g3,g4,g5⟩:=p1.tr e1
 unfold Vg at e2
 split at e2
 ·rename_i c' fs xs
  split at e2
  ·rename_i hcc
   subst hcc
   obtain⟨p',dx,kvs,B,rfl,k1,rfl,k2,k3⟩:=g5
   have key:∀ (kvs:List (Str×V)) (j:Nat),(kvs.map (·.1)).findIdx? (fun k'=>decide (k' = f))=some j->∃ w,(kvs.map (·.2))[j]? = some w/\kvs.lookup f=some w:=fun kvs=>by
    induction kvs with
    | nil=>intro j z;simp at z
    | cons a l ih=>
     intro j z
     rw [uA,gB] at z
     obtain⟨a1,a2⟩:=a
     cases hk:decide (a1=f) with
     | true=>
      rw [hk] at z
      cases z
      have:=of_decide_eq_true hk
      subst this
      exact⟨a2,rfl,by simp⟩
     | false=>
      rw [hk] at z
      simp only [Uw,↓reduceIte,uo] at z
      obtain⟨j',z,rfl⟩:=z
      obtain⟨w,w1,w2⟩:=ih j' z
      refine⟨w,by simpa using w1,?_⟩
      rw [uY,show(f == a1)=false from by simpa using Ne.symm (UZ hk)]
      exact w2
   rw [← k2] at e2
   obtain⟨w',k4,k5⟩:=key kvs j e2
   have hj:∃ x,xs[j]? = some x:=by
    have:j<xs.length:=by
     rw [← k3.len]
     rcases gn j (kvs.map (·.2)).length with z | z
     ·exact z
     ·rw [Ug z] at k4;cases k4
    exact⟨_,uq this⟩
   obtain⟨x',hx⟩:=hj
   refine⟨p',_,dx,kvs,w',rfl,k1,hc,hn,k5,q i (p++[j]) s1 w' F1 H1 A1 ⟨p1.rep,p1.mv,⟨r,x',w,g1,kF g2 rfl hx,g3,Zh p g4 ?_⟩,p1.rt⟩ h1⟩
   simp only [kAt,k1,uJ,hk,k4]
  ·cases e2
 ·cases e2
theorem kG {s:Sl}{i:Nat}{p:Lc}{r u n m:T}(h:s[i]? = some (.own r))(g:getT r p=some u):putS (putS s i p n) i p m=putS s i p m:=by
 apply UI
 intro j
 by_cases e:j=i
 ·subst e
  rw [ql (ql h),ql h,QW p g]
 ·rw [jg (ql h) e,jg h e,jg h e,gr]
  congr 1
  funext y
  cases y with
  | al k q=>by_cases z:k=i/\q.isPrefixOf p=false<;>simp [Function.comp,Slot.kill,z]
  | _=>rfl
theorem Rep.mut {F H:Hp}{s:Sl}{σ:L2.St}{A:Lb}(R:Rep W F H s σ A){i:Nat}{p:Lc}{r t:T}{B:Ld}(hs:s[i]? = some (.own r))(hg:getT r p=some t)(d:Vd A F H [] B):∃ w v M,σ[i]? = some (some w)/\vAt H w p=some v/\Tr W F H t v M/\M.Nodup/\(∀ b∈M,b∈A i)/\(∀ b∈M,b∉B) /\
  ∀ {t' r':T} {u:V} {H':Hp} {M' Br:Ld},Mu W F H M B t' r' v u H' M' Br->∃ A',Rep W F H' (putS s i p t') σ A'/\Vd A' F H' [] Br/\(∀ j,j≠i->A' j=A j)/\(∀ b∈A' i,b∈A i\/b∈B):=by
 obtain⟨w,v,A1,M,f1,f2,f3,f4,f5,f6,f7⟩:=R.detach hs hg
 have inM:∀ b∈M,b∈A i:=fun b hb=>(f3 b).mpr (.inr hb)
 have nB:∀ b∈B,¬ Ow A b:=fun b hb=>(d.at_ b hb).resolve_right fun⟨_,z,_⟩=>by cases z
 refine⟨w,v,M,f1,f2,f4,f5,inM,fun b hb z=>nB b z ⟨i,inM b hb⟩,fun {t' r' u H' M' Br} mu=>?_⟩
 have nM:∀ b,Ow (setA A i A1) b->b∉M:=fun b hb z=>(f6.at_ b z).elim (fun y=>y hb) fun⟨_,y,_⟩=>by cases y
 have fr:∀ b,Ow (setA A i A1) b->F b=none:=fun b ⟨j,hj⟩=>f7.own j b hj
 have nf:∀ b∈M,F b=none:=f6.fr
 have fh:Same F H':=fun b o e=>by
  refine mu.keep b o (R.fh _ _ e) fun z=>?_
  rw [nf b z] at e;cases e
 have R2:=f7.ext (fun _ _ h=>h) fh (fun b hb y hy=>mu.keep b y hy (nM b hb)) fr
 have e1:=ql (p:=p) (t:=.hol v) hs
 have own:∀ b∈M'++Br,F b=none/\¬ Ow (setA A i A1) b:=fun b hb=>by
  rcases mu.sub b hb with z | z
  ·exact⟨nf b z,fun y=>nM b y z⟩
  ·refine⟨d.fr b z,fun y=>?_⟩
   rcases vW y with y | ⟨j,_,y⟩
   ·exact nB b z ⟨i,(f3 b).mpr (.inl y)⟩
   ·exact nB b z ⟨j,y⟩
 have ndM:=uB.mp mu.nd
 obtain⟨C,R3,hC⟩:=R2.attach e1 (wZ p hg) mu.tx ⟨fun b hb=>(own b (uj _ hb)).1,mu.tx.cell,fun b hb=>.inl (own b (uj _ hb)).2⟩ ndM.1
 rw [kG hs hg] at R3
 refine⟨_,R3,⟨fun b hb=>(own b (uc _ hb)).1,mu.tr.cell,fun b hb=>.inl fun z=>?_⟩,fun j hj=>by rw [zq hj,zq hj],fun b hb=>?_⟩
 ·rcases vW z with z | ⟨j,z1,z2⟩
  ·rcases(hC b).mp z with y | y
   ·rw [zI] at y
    exact(own b (uc _ hb)).2 ⟨i,by rw [zI];exact y⟩
   ·exact ndM.2.2 b y b hb rfl
  ·exact(own b (uc _ hb)).2 ⟨j,z2⟩
 ·rw [zI] at hb
  rcases(hC b).mp hb with y | y
  ·rw [zI] at y
   exact .inl ((f3 b).mpr (.inl y))
  ·rcases mu.sub b (uj _ y) with z | z
   ·exact .inl (inM b z)
   ·exact .inr z
theorem Mv.mut {F H F1 H1 H':Hp}{A A1 A':Lb}{s s1 s':Sl}{tl:Lc}{i:Nat}{M B M' Br:Ld}{t' r':T}{v u:V}(m:Mv F H s A tl F1 H1 s1 A1)(hi:i∈tl)(mu:Mu W F1 H1 M B t' r' v u H' M' Br)(inM:∀ b∈M,b∈A1 i)(nw:∀ b∈B,H b=Option.none\/Tch A tl b)(hA:∀ j,j≠i->A' j=A1 j)(hAi:∀ b∈A' i,b∈A1 i\/b∈B)(hs:∀ j,j≠i->∀ t,s1[j]? = some (.own t)->s'[j]? = some (.own t)):Mv F H s A tl F1 H' s' A':=by
 have tch:∀ b∈A1 i,H b=Option.none\/Tch A tl b:=fun b hb=>m.cells i b hi hb
 refine⟨m.sF,fun b o e n=>?_,fun b o e=>?_,m.frz,fun j b hj hb=>?_,fun j hj=>?_⟩
 ·refine mu.keep b o (m.keep b o e n) fun z=>?_
  rcases tch b (inM b z) with y | y
  ·rw [e] at y;cases y
  ·exact n y
 ·obtain⟨o',e'⟩:=m.dom b o e
  exact mu.dom b o' e'
 ·by_cases e:j=i
  ·subst e
   rcases hAi b hb with z | z
   ·exact tch b z
   ·exact nw b z
  ·rw [hA j e] at hb
   exact m.cells j b hj hb
 ·have e:j≠i:=fun z=>hj (z ▸ hi)
  obtain⟨k1,k2⟩:=m.slot j hj
  exact⟨fun t z=>hs j e t (k1 t z),(hA j e).trans k2⟩
theorem zfI {md:Bool}{tl1 tl2 rl:Lc}{tp:TE}{ta:TA}{m:MU}{p:Xp}{es:List Xp}(hp:SP W E tl1 rl tp (WP p))(ha:SA W E tl2 [] ta (WEs false es))(dj:∀ j∈rl,j∉tl2):SE W E (rl++(tl1++tl2)) [] (fun σ H Q=>tp σ H fun x H1=>tyV W.K "list" x H1/\ta σ H1 fun xs H2=>muR m x xs H2 Q) (WE md (.mu m p es)):=by
 intro F H s σ A Q4 X4 Q R h q x
 refine hp F H s σ A _ X4 _ R h (fun i pth s1 v F1 H1 A1 p1 ⟨⟨t0,g0,l0⟩,h1⟩=>?_) (x.sub fun j h=>zc j (zb j h))
 refine⟨?_,ha F1 H1 s1 σ A1 _ X4 _ p1.rep h1 (fun ts s2 us F2 H2 A2 B2 p2 h2=>?_) (x.mono (p1.mv.mono fun j h=>zc j (zb j h)) fun j h=>zc j (zc j h))⟩
 ·obtain⟨r,w,C,g1,g2,g3,g4,g5⟩:=p1.tr g0
  cases t0<;>simp only [isLs,Uw] at l0
  obtain⟨p',vs,B,rfl,k1,_⟩:=g5
  exact .inl ⟨rfl,vs,SqL.of k1⟩
 ·obtain⟨t,r,e1,e2,h2⟩:=h2
  have p3:=p1.step p2.rep p2.mv dj
  obtain⟨r0,w,C,g1,g2,g3,g4,g5⟩:=p3.tr e1
  obtain⟨w',v',M,f1,f2,f3,f4,f5,f6,f7⟩:=p2.rep.mut g1 g2 p2.vd
  rw [g3] at f1
  cases f1
  rw [g4] at f2
  cases f2
  refine zfz p2.rep.fh f3 p2.tr f4 (p2.nd rfl) f6 (t':=r.1) (r:=r.2) e2 fun u H3 M' Br mu=>?_
  obtain⟨A3,R3,d3,a1,a2⟩:=f7 mu
  have m2:Mv F H s A (rl++(tl1++tl2)) F2 H2 s2 A2:=p3.mv.mono zc
  have no2:∀ b∈B2,¬ Ow A2 b:=fun b hb=>(p2.vd.at_ b hb).resolve_right fun⟨_,z,_⟩=>by cases z
  have nw:∀ b∈B2,H b=none\/Tch A (rl++(tl1++tl2)) b:=fun b hb=>by
   rcases p2.new b hb (no2 b hb) with y | y
   ·exact .inl (p1.mv.none y)
   ·exact(p1.mv.mono (tl':=rl++(tl1++tl2)) fun j h=>zc j (zb j h)).ta (y.imp fun _ h=>⟨zc _ (zc _ h.1),h.2⟩)
  have hi:i∈rl++(tl1++tl2):=zb i p1.rt
  have m3:=m2.mut (s':=putS s2 i pth r.1) hi mu f5 nw a1 a2 fun j e t z=>(z8 g1 e).mpr z
  refine q r.2 _ u F2 H3 A3 Br ⟨R3,m3,mu.tr,d3,(uB.mp mu.nd).2.1,fun b hb no=>?_⟩ h2
  rcases mu.sub b (uc _ hb) with z | z
  ·exact m2.cells i b hi (f5 b z)
  ·exact nw b z
end L4
namespace L4
open PySem L2 PySem.Spec PyProof.Rows
variable {W:Wd} {E:XS}
noncomputable def AR (W:Wd)(F H:Hp)(s:Sl)(σ:L2.St):List Md->List T->List V->List (Nat×Lc)->List Addr->List Addr->Prop
 | .fz::ms,t::ts,vs,ps,Z,M=>∃ v r raw Z1 Z2,vs=v::r/\t=fzn raw/\Tr W F H raw v Z1/\Z=Z1++Z2/\AR W F H s σ ms ts r ps Z2 M
 | .mv::ms,t::ts,vs,ps,Z,M=>∃ v r M1 M2,vs=v::r/\Tr W F H t v M1/\M=M1++M2/\AR W F H s σ ms ts r ps Z M2
 | .mu::ms,t::ts,vs,ps,Z,M=>∃ v r i p ps',vs=v::r/\ps=(i,p)::ps'/\(∃ rr w,s[i]? = some (.own rr)/\getT rr p=some t/\σ[i]? = some (some w)/\vAt H w p=some v)/\AR W F H s σ ms ts r ps' Z M
 | [],ts,vs,ps,Z,M=>ts=[]/\vs=[]/\ps=[]/\Z=[]/\M=[]
 | _::_,[],_,_,_,_=>False
def ckV (W:Wd):Option (Nat×Str)->V->Hp->Prop
 | none,_,_=>True
 | some cx,v,H=>∃ a dx fs,v=.ref a/\H a=some (.ins (W.cl cx.1) dx fs)/\fs.lookup cx.2=none
theorem K0 {ck:Option (Nat×Str)}{F H:Hp}{t:T}{v:V}{B:Ld}(g:Same F H)(h:Tr W F H t v B)(c:ckT ck t):ckV W ck v H:=by
 cases ck with
 | none=>trivial
 | some cx=>
  obtain⟨o,e1,e2,e3⟩:=c
  obtain⟨p,dx,kvs,C,rfl,h1,h2,h3⟩:=KA g h e1
  refine⟨p,dx,kvs,rfl,by rw [← e2];exact h1,?_⟩
  rw [← h2] at e3
  clear h1 h2 h3 h
  induction kvs with
  | nil=>rfl
  | cons a l ih=>
   obtain⟨a1,a2⟩:=a
   rw [uA,um,UY] at e3
   rw [uY,show(cx.2 == a1)=false from by simpa using e3.1]
   exact ih e3.2
def tCk (P:V->Hp->Prop)(te:TE)(tr:TA):TA:=fun σ H Q=>te σ H fun x H1=>P x H1/\tr σ H1 fun xs H2=>Q (x::xs) H2
structure GPo (W:Wd)(F H:Hp)(A:Lb)(s:Sl)(σ:L2.St)(tl rl:Lc)(ms:List Md)(ts:List T)(ps:List (Nat×Lc))(s':Sl)(vs:List V)(F' H':Hp)(A':Lb)(Z M:Ld):Prop where
 rep:Rep W F' H' s' σ A'
 mv:Mv F H s A tl F' H' s' A'
 ar:AR W F' H' s' σ ms ts vs ps Z M
 vz:Vd A' F' H' rl Z
 vm:Vd A' F' H' [] M
 nz:rl=[]->Z.Nodup
 nm:M.Nodup
 zm:∀ b∈Z,b∉M
 newz:∀ b∈Z,¬ Ow A' b->H b=none\/Tch A tl b
 newm:∀ b∈M,H b=none\/Tch A tl b
def SM (W:Wd)(E:XS)(tl rl pl:Lc)(ms:List Md)(t:TA)(m:Sl->(List T->List (Nat×Lc)->Sl->Prop)->XP->Prop):Prop:=∀ (F H:Hp) (s:Sl) (σ:L2.St) (A:Lb) (Q4:List T->List (Nat×Lc)->Sl->Prop) (X4:XP) (Q:List V->Hp->Prop),Rep W F H s σ A->m s Q4 X4 ->
 (∀ ts ps s' vs F' H' A' Z M,GPo W F H A s σ tl rl ms ts ps s' vs F' H' A' Z M->(∃ f,ps.map (·.1)=f/\List.Sublist f pl)->Q4 ts ps s'->Q vs H')->XK4 W E F H A s σ tl X4->t σ H Q
theorem zd7 {ln:Bool}{ck:Option (Nat×Str)}{rl:Lc}:SM W E [] rl [] [] tNil (WA ln ck [] []):=by
 intro F H s σ A Q4 X4 Q R h q x
 exact q [] [] s [] F H A [] [] ⟨R,Mv.refl,⟨rfl,rfl,rfl,rfl,rfl⟩,Vd.nil,Vd.nil,fun _=>.nil,.nil,(fun b hb=>by cases hb),(fun b hb=>by cases hb),fun b hb=>by cases hb⟩ ⟨[],rfl,U1 _⟩ h
theorem Mv.newm {F H F1 H1:Hp}{A A1:Lb}{s s1:Sl}{tl1 tl2:Lc}(m1:Mv F H s A tl1 F1 H1 s1 A1){b:Addr}(h:H1 b=Option.none\/Tch A1 tl2 b):H b=Option.none\/Tch A (tl1++tl2) b:=by
 rcases h with y | y
 ·exact .inl (m1.none y)
 ·exact(m1.mono zb).ta (y.imp fun _ h=>⟨zc _ h.1,h.2⟩)
theorem zcC {ln:Bool}{ck:Option (Nat×Str)}{tl1 tl2 rl1 rl2 pl:Lc}{ms:List Md}{te:TE}{tr:TA}{e:Xp}{es:List Xp}(he:SE W E tl1 rl1 te (WE ln e))(hr:SM W E tl2 rl2 pl ms tr (WA ln none ms es))(dj:∀ j∈rl1,j∉tl2):SM W E (tl1++tl2) (rl1++rl2) pl (.fz::ms) (tCk (ckV W ck) te tr) (WA ln ck (.fz::ms) (e::es)):=by
 intro F H s σ A Q4 X4 Q R h q x
 refine he F H s σ A _ X4 _ R h (fun t s1 v F1 H1 A1 B1 p1 ⟨hk,h1⟩=>⟨K0 p1.rep.fh p1.tr hk,?_⟩) (x.sub zb)
 refine hr F1 H1 s1 σ A1 _ X4 _ p1.rep h1 (fun ts ps s2 vs F2 H2 A2 Z M p2 sp h2=>?_) (x.mono (p1.mv.mono zb) zc)
 have dis:=fun i j a=>p1.rep.dis i j a
 have vx:=p1.vd.mv dis dj p2.mv
 have old:∀ b∈B1,∀ {C:Ld},Vd A2 F2 H2 [] C->(∀ b∈C,H1 b=none\/Tch A1 tl2 b)->b∉C:=fun b hb C vc nc hc=>by
  have no2:¬ Ow A2 b:=(vc.at_ b hc).resolve_right fun⟨_,z,_⟩=>by cases z
  rcases nc b hc with z | z
  ·obtain⟨y,hy⟩:=p1.vd.ob b hb
   rw [hy] at z;cases z
  ·exact p1.vd.not dis dj b hb z
 refine q (fzn t::ts) ps s2 (v::vs) F2 H2 A2 (B1++Z) M ⟨p2.rep,p1.mv.trans p2.mv,⟨v,vs,t,B1,Z,rfl,rfl,p1.vd.tr dis dj p2.mv p1.tr,rfl,p2.ar⟩,vx.app p2.vz,p2.vm,fun e=>?_,p2.nm,fun b hb=>?_,fun b hb no=>?_,fun b hb=>p1.mv.newm (p2.newm b hb)⟩ sp h2
 ·obtain⟨rfl,rfl⟩:=Uo.mp e
  exact zF p1.nd (p2.nz rfl) fun b hb=>old b hb p2.vz fun b hb=>p2.newz b hb ((p2.vz.at_ b hb).resolve_right fun⟨_,z,_⟩=>by cases z)
 ·rcases ud.mp hb with z | z
  ·exact old b z p2.vm p2.newm
  ·exact p2.zm b z
 ·rcases ud.mp hb with z | z
  ·exact Jm p1.rep p1.vd p1.new p2.mv dj b z no
  ·exact p1.mv.newm (p2.newz b z no)
theorem zcD {ln:Bool}{ck:Option (Nat×Str)}{tl1 tl2 rl2 pl:Lc}{ms:List Md}{te:TE}{tr:TA}{e:Xp}{es:List Xp}(he:SE W E tl1 [] te (WE false e))(hr:SM W E tl2 rl2 pl ms tr (WA ln none ms es)):SM W E (tl1++tl2) rl2 pl (.mv::ms) (tCk (ckV W ck) te tr) (WA ln ck (.mv::ms) (e::es)):=by
 intro F H s σ A Q4 X4 Q R h q x
 refine he F H s σ A _ X4 _ R h (fun t s1 v F1 H1 A1 B1 p1 ⟨hk,h1⟩=>⟨K0 p1.rep.fh p1.tr hk,?_⟩) (x.sub zb)
 refine hr F1 H1 s1 σ A1 _ X4 _ p1.rep h1 (fun ts ps s2 vs F2 H2 A2 Z M p2 sp h2=>?_) (x.mono (p1.mv.mono zb) zc)
 have dis:=fun i j a=>p1.rep.dis i j a
 have dj:∀ j∈([]:Lc),j∉tl2:=fun _ h=>by cases h
 have vx:=p1.vd.mv dis dj p2.mv
 have no2:∀ b∈B1,¬ Ow A2 b:=fun b hb=>(vx.at_ b hb).resolve_right fun⟨_,z,_⟩=>by cases z
 have old:∀ b∈B1,¬ (H1 b=none\/Tch A1 tl2 b):=fun b hb z=>by
  rcases z with z | z
  ·obtain⟨y,hy⟩:=p1.vd.ob b hb
   rw [hy] at z;cases z
  ·exact p1.vd.not dis dj b hb z
 refine q (t::ts) ps s2 (v::vs) F2 H2 A2 Z (B1++M) ⟨p2.rep,p1.mv.trans p2.mv,⟨v,vs,B1,M,rfl,p1.vd.tr dis dj p2.mv p1.tr,rfl,p2.ar⟩,p2.vz,(vx.app p2.vm),p2.nz,zF p1.nd p2.nm fun b hb z=>old b hb (p2.newm b z),fun b hb z=>?_,fun b hb no=>p1.mv.newm (p2.newz b hb no),fun b hb=>?_⟩ sp h2
 ·rcases ud.mp z with z | z
  ·exact old b z (p2.newz b hb (no2 b z))
  ·exact p2.zm b hb z
 ·rcases ud.mp hb with z | z
  ·exact Jm p1.rep p1.vd p1.new p2.mv dj b z (no2 b z)
  ·exact p1.mv.newm (p2.newm b z)
theorem zcE {ln:Bool}{ck:Option (Nat×Str)}{tl1 tl2 rl1 rl2 pl:Lc}{ms:List Md}{te:TE}{tr:TA}{e:Xp}{es:List Xp}(he:SP W E tl1 rl1 te (WP e))(hr:SM W E tl2 rl2 pl ms tr (WA ln none ms es))(dj:∀ j∈rl1,j∉tl2):SM W E (tl1++tl2) rl2 (rl1++pl) (.mu::ms) (tCk (ckV W ck) te tr) (WA ln ck (.mu::ms) (e::es)):=by
 intro F H s σ A Q4 X4 Q R h q x
 refine he F H s σ A _ X4 _ R h (fun i p s1 v F1 H1 A1 p1 ⟨⟨t0,hk0,hk⟩,h1⟩=>⟨by obtain⟨_,_,_,_,_,_,_,g⟩:=p1.tr hk0;exact K0 p1.rep.fh g hk,?_⟩) (x.sub zb)
 refine hr F1 H1 s1 σ A1 _ X4 _ p1.rep h1 (fun ts ps s2 vs F2 H2 A2 Z M p2 sp h2=>?_) (x.mono (p1.mv.mono zb) zc)
 obtain⟨t,e1,h2⟩:=h2
 have p3:=p1.step p2.rep p2.mv dj
 obtain⟨r0,w,C,g1,g2,g3,g4,g5⟩:=p3.tr e1
 obtain⟨f,ef,sf⟩:=sp
 refine q (t::ts) ((i,p)::ps) s2 (v::vs) F2 H2 A2 Z M ⟨p2.rep,p3.mv,⟨v,vs,i,p,ps,rfl,rfl,⟨r0,w,g1,g2,g3,g4⟩,p2.ar⟩,p2.vz,p2.vm,p2.nz,p2.nm,p2.zm,fun b hb no=>p1.mv.newm (p2.newz b hb no),fun b hb=>p1.mv.newm (p2.newm b hb)⟩ ⟨i::f,by rw [uA,ef],?_⟩ h2
 exact List.Sublist.append (List.singleton_sublist.mpr p1.rt) sf
noncomputable def TrM (W:Wd)(F H:Hp):List Md->List T->List V->List Addr->Prop
 | .mu::ms,t::ts,vs,C=>∃ v r C1 C2,vs=v::r/\C=C1++C2/\Tr W F H t v C1/\TrM W F H ms ts r C2
 | .fz::ms,_::ts,vs,C=>∃ v r,vs=v::r/\TrM W F H ms ts r C
 | .mv::ms,_::ts,vs,C=>∃ v r,vs=v::r/\TrM W F H ms ts r C
 | _,_,_,C=>C=[]
structure FPo (W:Wd)(F H:Hp)(B:Ld)(ms:List Md)(vs:List V)(ts':List T)(F' H':Hp)(C:Ld):Prop where
 sF:Same F F'
 fh:Same F' H'
 keep:∀ b o,H b=some o->b∉B->H' b=some o
 dom:∀ b o,H b=some o->∃ o',H' b=some o'
 frz:∀ b o,F' b=some o->(∃ o',F b=some o')\/H b=none\/b∈B
 len:ts'.length=ms.length
 back:TrM W F' H' ms ts' vs C
noncomputable def SpM (W:Wd)(ms:List Md)(f:Fn):Sp:=fun vs H Q X=>vs.length=ms.length/\∃ F ts B Q4 X4,Same F H/\TrL W F H ts vs B/\B.Nodup/\(∀ b∈B,F b=none)/\f ts Q4 X4 /\
 (∀ r ts' v F' H' C Br,FPo W F H B ms vs ts' F' H' C->Tr W F' H' r v Br->(∀ b∈C++Br,F' b=none)->(C++Br).Nodup->(∀ b∈C++Br,H b=none\/b∈B)->Q4 r ts'->Q v H') /\
 ∀ x ts' c d F' H' C,FPo W F H B ms vs ts' F' H' C->IsX W F' x c d->(∀ b∈C,F' b=none)->C.Nodup->(∀ b∈C,H b=none\/b∈B)->X4 x ts'->X c d H'
end L4
namespace L4
open PySem L2 PySem.Spec PyProof.Rows
variable {W:Wd} {E:XS}
noncomputable def AQ (W:Wd)(F H:Hp)(s:Sl)(σ:L2.St):List Md->List T->List V->List (Nat×Lc)->List Addr->Prop
 | .fz::ms,t::ts,vs,ps,M=>∃ v r,vs=v::r/\Tr W F H t v []/\AQ W F H s σ ms ts r ps M
 | .mv::ms,t::ts,vs,ps,M=>∃ v r M1 M2,vs=v::r/\Tr W F H t v M1/\M=M1++M2/\AQ W F H s σ ms ts r ps M2
 | .mu::ms,t::ts,vs,ps,M=>∃ v r i p ps',vs=v::r/\ps=(i,p)::ps'/\(∃ rr w,s[i]? = some (.own rr)/\getT rr p=some t/\σ[i]? = some (some w)/\vAt H w p=some v)/\AQ W F H s σ ms ts r ps' M
 | [],ts,vs,ps,M=>ts=[]/\vs=[]/\ps=[]/\M=[]
 | _::_,[],_,_,_=>False
theorem Wo {F F' H:Hp}{s:Sl}{σ:L2.St}(g:Same F F'):∀ {ms:List Md} {ts:List T} {vs:List V} {ps:List (Nat×Lc)} {Z M:Ld},AR W F H s σ ms ts vs ps Z M->(∀ b∈Z,∀ x,H b=some x->F' b=some x)->AQ W F' H s σ ms ts vs ps M
 | .fz::ms,t::ts,_,_,_,_,⟨v,r,raw,Z1,Z2,e,et,h1,ez,h2⟩,k=>⟨v,r,e,by rw [et];exact kC (h1.isv g fun b hb=>k b (by rw [ez];exact uj _ hb)),Wo g h2 fun b hb=>k b (by rw [ez];exact uc _ hb)⟩
 | .mv::ms,t::ts,_,_,_,_,⟨v,r,M1,M2,e,h1,em,h2⟩,k=>⟨v,r,M1,M2,e,h1.frame g fun _ _ _ h=>h,em,Wo g h2 k⟩
 | .mu::ms,t::ts,_,_,_,_,⟨v,r,i,p,ps',e,ep,h1,h2⟩,k=>⟨v,r,i,p,ps',e,ep,h1,Wo g h2 k⟩
 | [],_,_,_,_,_,⟨h1,h2,h3,_,h5⟩,_=>⟨h1,h2,h3,h5⟩
 | .fz::_,[],_,_,_,_,h,_=>h.elim
 | .mv::_,[],_,_,_,_,h,_=>h.elim
 | .mu::_,[],_,_,_,_,h,_=>h.elim
noncomputable def ye:List (Nat×Lc)->List V->Sl->Sl
 | ip::ps,v::vs,s=>ye ps vs (putS s ip.1 ip.2 (.hol v))
 | _,_,s=>s
noncomputable def muV:List Md->List V->List V
 | .mu::ms,v::vs=>v::muV ms vs
 | .fz::ms,_::vs=>muV ms vs
 | .mv::ms,_::vs=>muV ms vs
 | _,_=>[]
theorem AQ.other {F H:Hp}{s s':Sl}{σ:L2.St}{i:Nat}(hs:∀ j,j≠i->∀ t,s[j]? = some (.own t)->s'[j]? = some (.own t)):∀ {ms:List Md} {ts:List T} {vs:List V} {ps:List (Nat×Lc)} {M:Ld},AQ W F H s σ ms ts vs ps M->i∉ps.map (·.1)->AQ W F H s' σ ms ts vs ps M
 | .fz::ms,t::ts,_,_,_,⟨v,r,e,h1,h2⟩,n=>⟨v,r,e,h1,AQ.other hs h2 n⟩
 | .mv::ms,t::ts,_,_,_,⟨v,r,M1,M2,e,h1,em,h2⟩,n=>⟨v,r,M1,M2,e,h1,em,AQ.other hs h2 n⟩
 | .mu::ms,t::ts,_,_,_,⟨v,r,j,p,ps',e,ep,⟨rr,w,h1,h3⟩,h2⟩,n=>by
  subst ep
  rw [uA,um,UY] at n
  exact⟨v,r,j,p,ps',e,rfl,⟨rr,w,hs j (Ne.symm n.1) rr h1,h3⟩,AQ.other hs h2 n.2⟩
 | [],_,_,_,_,h,_=>h
 | .fz::_,[],_,_,_,h,_=>h
 | .mv::_,[],_,_,_,h,_=>h
 | .mu::_,[],_,_,_,h,_=>h
theorem det {F H:Hp}{σ:L2.St}:∀ {ms:List Md} {ts:List T} {vs:List V} {ps:List (Nat×Lc)} {M:Ld} {s:Sl} {A:Lb},AQ W F H s σ ms ts vs ps M->(ps.map (·.1)).Nodup->Rep W F H s σ A->Vd A F H [] M->M.Nodup ->
  ∃ A' B,Rep W F H (ye ps (muV ms vs) s) σ A'/\TrL W F H ts vs B/\B.Nodup/\Vd A' F H [] B/\(∀ b∈B,b∈M\/∃ i∈ps.map (·.1),b∈A i)/\(∀ j,j∉ps.map (·.1)->A' j=A j)/\∀ j,∀ b∈A' j,b∈A j
 | .fz::ms,t::ts,_,ps,M,s,A,⟨v,r,e,h1,h2⟩,np,R,d,nd=>by
  subst e
  obtain⟨A',B,f1,f2,f3⟩:=det h2 np R d nd
  exact⟨A',B,f1,⟨v,r,[],B,rfl,rfl,h1,f2⟩,f3⟩
 | .mv::ms,t::ts,_,ps,M,s,A,⟨v,r,M1,M2,e,h1,em,h2⟩,np,R,d,nd=>by
  subst e em
  rw [uB] at nd
  obtain⟨A',B,f1,f2,f3,f4,f5,f6,f7⟩:=det h2 np R (d.sub fun b hb=>uc _ hb) nd.2.1
  have no:∀ b∈M1,¬ Ow A b:=fun b hb=>(d.at_ b (uj _ hb)).resolve_right fun⟨_,z,_⟩=>by cases z
  refine⟨A',M1++B,f1,⟨v,r,M1,B,rfl,rfl,h1,f2⟩,zF nd.1 f3 fun b hb z=>?_,?_,fun b hb=>?_,f6,f7⟩
  ·rcases f5 b z with y | ⟨i,_,y⟩
   ·exact nd.2.2 b hb b y rfl
   ·exact no b hb ⟨i,y⟩
  ·exact⟨fun b hb=>(ud.mp hb).elim (fun z=>d.fr b (uj _ z)) (f4.fr b),fun b hb=>(ud.mp hb).elim (fun z=>d.ob b (uj _ z)) (f4.ob b),fun b hb=>(ud.mp hb).elim (fun z=>.inl fun⟨j,y⟩=>no b z ⟨j,f7 j b y⟩) (f4.at_ b)⟩
  ·rcases ud.mp hb with z | z
   ·exact .inl (uj _ z)
   ·exact(f5 b z).imp (fun y=>uc _ y) id
 | .mu::ms,t::ts,_,_,M,s,A,⟨v,r,i,p,ps,e,ep,⟨rr,w,h1,h2,h3,h4⟩,h5⟩,np,R,d,nd=>by
  subst e ep
  rw [uA,uH] at np
  obtain⟨w',v',A1,A2,g1,g2,g3,g4,g5,g6,g7⟩:=R.detach h1 h2
  rw [h3] at g1
  cases g1
  rw [h4] at g2
  cases g2
  have noM:∀ b∈M,¬ Ow A b:=fun b hb=>(d.at_ b hb).resolve_right fun⟨_,z,_⟩=>by cases z
  have inA:∀ j,∀ b∈setA A i A1 j,b∈A j:=fun j b hb=>by
   by_cases e:j=i
   ·subst e;rw [zI] at hb;exact(g3 b).mpr (.inl hb)
   ·rw [zq e] at hb;exact hb
  have d1:Vd (setA A i A1) F H [] M:=⟨d.fr,d.ob,fun b hb=>.inl fun⟨j,y⟩=>noM b hb ⟨j,inA j b y⟩⟩
  obtain⟨A',B,f1,f2,f3,f4,f5,f6,f7⟩:=det (h5.other (s':=putS s i p (.hol v)) (fun j e t z=>(z8 h1 e).mpr z) np.1) np.2 g7 d1 nd
  have no2:∀ b∈A2,¬ Ow (setA A i A1) b:=fun b hb=>(g6.at_ b hb).resolve_right fun⟨_,z,_⟩=>by cases z
  refine⟨A',A2++B,f1,⟨v,r,A2,B,rfl,rfl,g4,f2⟩,zF g5 f3 fun b hb z=>?_,?_,fun b hb=>?_,fun j hj=>?_,fun j b hb=>inA j b (f7 j b hb)⟩
  ·rcases f5 b z with y | ⟨k,_,y⟩
   ·exact noM b y ⟨i,(g3 b).mpr (.inr hb)⟩
   ·exact no2 b hb ⟨k,y⟩
  ·exact⟨fun b hb=>(ud.mp hb).elim (g6.fr b) (f4.fr b),fun b hb=>(ud.mp hb).elim (g6.ob b) (f4.ob b),fun b hb=>(ud.mp hb).elim (fun z=>.inl fun⟨j,y⟩=>no2 b z ⟨j,f7 j b y⟩) (f4.at_ b)⟩
  ·rcases ud.mp hb with z | z
   ·exact .inr ⟨i,by simp,(g3 b).mpr (.inr z)⟩
   ·rcases f5 b z with y | ⟨k,y1,y2⟩
    ·exact .inl y
    ·exact .inr ⟨k,by rw [uA];exact ug _ y1,inA k b y2⟩
  ·rw [uA,um,UY] at hj
   rw [f6 j hj.2,zq hj.1]
 | [],_,_,_,_,s,A,⟨h1,h2,h3,h4⟩,_,R,_,_=>by subst h1 h2 h3 h4;exact⟨A,[],R,⟨rfl,rfl⟩,.nil,Vd.nil,(fun b hb=>by cases hb),(fun _ _=>rfl),fun _ _ h=>h⟩
 | .fz::_,[],_,_,_,s,A,h,_,_,_,_=>h.elim
 | .mv::_,[],_,_,_,s,A,h,_,_,_,_=>h.elim
 | .mu::_,[],_,_,_,s,A,h,_,_,_,_=>h.elim
theorem Yp {i a:Nat}{p q:Lc}(x:Slot):(x.kill i p).kill a q=(x.kill a q).kill i p:=by
 cases x with
 | al k z=>
  by_cases e1:k=i/\z.isPrefixOf p=false
  ·by_cases e2:k=a/\z.isPrefixOf q=false
   ·rw [show Slot.kill i p (.al k z)=.no from uz e1,show Slot.kill a q (.al k z)=.no from uz e2];rfl
   ·rw [show Slot.kill a q (.al k z)=.al k z from uy e2,show Slot.kill i p (.al k z)=.no from uz e1];rfl
  ·by_cases e2:k=a/\z.isPrefixOf q=false
   ·rw [show Slot.kill a q (.al k z)=.no from uz e2,show Slot.kill i p (.al k z)=.al k z from uy e1]
    exact uz e2
   ·rw [show Slot.kill a q (.al k z)=.al k z from uy e2,show Slot.kill i p (.al k z)=.al k z from uy e1]
    exact uy e2
 | _=>rfl
theorem Yq {s:Sl}{i a:Nat}{p q:Lc}{ri ra n m:T}(hi:s[i]? = some (.own ri))(ha:s[a]? = some (.own ra))(ne:a≠i):putS (putS s a q n) i p m=putS (putS s i p m) a q n:=by
 have hi':=(z8 (p:=q) (t:=n) ha (Ne.symm ne)).mpr hi
 have ha':=(z8 (p:=p) (t:=m) hi ne).mpr ha
 apply UI
 intro j
 by_cases e1:j=i
 ·subst e1
  rw [ql hi',jg ha' (Ne.symm ne),ql hi];rfl
 ·by_cases e2:j=a
  ·subst e2
   rw [ql ha',jg hi' e1,ql ha];rfl
  ·rw [jg hi' e1,jg ha e2,jg ha' e2,jg hi e1,gr,gr]
   congr 1
   funext x
   exact Yp x
def PlOk (s:Sl)(ps:List (Nat×Lc)):Prop:=∀ ip∈ps,∃ r u,s[ip.1]? = some (.own r)/\getT r ip.2=some u
theorem PlOk.other {s:Sl}{i:Nat}{p:Lc}{r t:T}{ps:List (Nat×Lc)}(h:PlOk s ps)(hi:s[i]? = some (.own r))(n:i∉ps.map (·.1)):PlOk (putS s i p t) ps:=fun ip hip=>by
 obtain⟨r',u,h1,h2⟩:=h ip hip
 exact⟨r',u,(z8 hi fun e=>n (e ▸ List.mem_map_of_mem hip)).mpr h1,h2⟩
theorem QX:∀ {ps:List (Nat×Lc)} {vs:List V} {s:Sl} {i:Nat} {r:T},PlOk s ps->(ps.map (·.1)).Nodup->i∉ps.map (·.1)->s[i]? = some (.own r)->(ye ps vs s)[i]? = some (.own r)
 | [],vs,s,i,r,_,_,_,h=>by cases vs<;>exact h
 | _::_,[],s,i,r,_,_,_,h=>h
 | ip::ps,v::vs,s,i,r,ok,np,n,h=>by
  rw [uA,um,UY] at n
  rw [uA,uH] at np
  obtain⟨r',u,h1,h2⟩:=ok ip ue
  simp only [ye]
  exact QX (PlOk.other (fun q hq=>ok q (ug _ hq)) h1 np.1) np.2 n.2 ((z8 h1 n.1).mpr h)
theorem QY:∀ {ps:List (Nat×Lc)} {vs:List V} {s:Sl} {i:Nat} {p:Lc} {r t:T},PlOk s ps->(ps.map (·.1)).Nodup->i∉ps.map (·.1)->s[i]? = some (.own r)->putS (ye ps vs s) i p t=ye ps vs (putS s i p t)
 | [],vs,s,i,p,r,t,_,_,_,h=>by cases vs<;>rfl
 | _::_,[],s,i,p,r,t,_,_,_,h=>rfl
 | ip::ps,v::vs,s,i,p,r,t,ok,np,n,h=>by
  rw [uA,um,UY] at n
  rw [uA,uH] at np
  obtain⟨r',u,h1,h2⟩:=ok ip ue
  simp only [ye]
  rw [QY (PlOk.other (fun q hq=>ok q (ug _ hq)) h1 np.1) np.2 n.2 ((z8 h1 n.1).mpr h),Yq h h1 (Ne.symm n.1)]
theorem att {F H:Hp}{σ:L2.St}:∀ {ms:List Md} {ts:List T} {vs:List V} {ps:List (Nat×Lc)} {C:Ld} {s:Sl} {A:Lb},TrM W F H ms ts vs C->ts.length=ms.length->vs.length=ms.length->ps.length=(muV ms vs).length->PlOk s ps->(ps.map (·.1)).Nodup->Rep W F H (ye ps (muV ms vs) s) σ A->Vd A F H [] C->C.Nodup ->
  ∃ A',Rep W F H (putBack ms ps ts s) σ A'/\(∀ j,j∉ps.map (·.1)->A' j=A j)/\(∀ j,∀ b∈A' j,b∈A j\/b∈C)/\∀ j,j∉ps.map (·.1)->∀ t,s[j]? = some (.own t)->(putBack ms ps ts s)[j]? = some (.own t)
 | .fz::ms,t::ts,_,ps,C,s,A,⟨v,r,e,h2⟩,l1,l2,l3,ok,np,R,d,nd=>by
  subst e
  simp only [putBack]
  exact att h2 (by simpa using l1) (by simpa using l2) l3 ok np R d nd
 | .mv::ms,t::ts,_,ps,C,s,A,⟨v,r,e,h2⟩,l1,l2,l3,ok,np,R,d,nd=>by
  subst e
  simp only [putBack]
  exact att h2 (by simpa using l1) (by simpa using l2) l3 ok np R d nd
 | .mu::ms,t::ts,_,[],C,s,A,⟨v,r,C1,C2,e,ec,h1,h2⟩,l1,l2,l3,ok,np,R,d,nd=>by subst e;simp [muV] at l3
 | .mu::ms,t::ts,_,(i,p)::ps,C,s,A,⟨v,r,C1,C2,e,ec,h1,h2⟩,l1,l2,l3,ok,np,R,d,nd=>by
  subst e ec
  rw [uA,uH] at np
  obtain⟨r0,u,g1,g2⟩:=ok (i,p) ue
  have ok1:PlOk s ps:=fun q hq=>ok q (ug _ hq)
  simp only [muV,ye] at R l3
  simp only [putBack]
  rw [uB] at nd
  have e1:=ql (p:=p) (t:=.hol v) g1
  have ok2:PlOk (putS s i p (.hol v)) ps:=ok1.other g1 np.1
  have e2:=QX (vs:=muV ms r) ok2 np.2 np.1 e1
  obtain⟨C',R1,hC⟩:=R.attach e2 (wZ p g2) h1 (d.sub fun b hb=>uj _ hb) nd.1
  rw [QY ok2 np.2 np.1 e1,kG g1 g2] at R1
  have noC:∀ b∈C1++C2,¬ Ow A b:=fun b hb=>(d.at_ b hb).resolve_right fun⟨_,z,_⟩=>by cases z
  have d2:Vd (setA A i C') F H [] C2:=by
   refine⟨fun b hb=>d.fr b (uc _ hb),fun b hb=>d.ob b (uc _ hb),fun b hb=>.inl fun z=>?_⟩
   rcases vW z with z | ⟨j,_,z⟩
   ·rcases(hC b).mp z with y | y
    ·exact noC b (uc _ hb) ⟨i,y⟩
    ·exact nd.2.2 b y b hb rfl
   ·exact noC b (uc _ hb) ⟨j,z⟩
  obtain⟨A',f1,f2,f3,f4⟩:=att h2 (by simpa using l1) (by simpa using l2) (by simpa using l3) (ok1.other g1 np.1) np.2 R1 d2 nd.2.1
  refine⟨A',f1,fun j hj=>?_,fun j b hb=>?_,fun j hj t' ht=>?_⟩
  ·rw [uA,um,UY] at hj
   rw [f2 j hj.2,zq hj.1]
  ·rcases f3 j b hb with z | z
   ·by_cases e:j=i
    ·subst e
     rw [zI] at z
     exact((hC b).mp z).imp id fun y=>uj _ y
    ·rw [zq e] at z;exact .inl z
   ·exact .inr (uc _ z)
  ·rw [uA,um,UY] at hj
   exact f4 j hj.2 t' ((z8 g1 hj.1).mpr ht)
 | [],ts,vs,ps,C,s,A,h,l1,l2,l3,ok,np,R,d,nd=>by
  have:ps=[]:=by cases ps with | nil=>rfl | cons _ _=>simp [muV] at l3
  subst this
  have e:putBack [] [] ts s=s:=by cases ts<;>rfl
  rw [e]
  have e2:ye [] (muV [] vs) s=s:=by cases (muV [] vs)<;>rfl
  rw [e2] at R
  exact⟨A,R,fun _ _=>rfl,fun _ _ h=>.inl h,fun _ _ _ h=>h⟩
 | m::ms,[],vs,ps,C,s,A,h,l1,l2,l3,ok,np,R,d,nd=>by cases l1
end L4
namespace L4
open PySem L2 PySem.Spec PyProof.Rows
variable {W:Wd} {E:XS}
theorem TrM.cell {F H:Hp}:∀ {ms:List Md} {ts:List T} {vs:List V} {C:Ld},TrM W F H ms ts vs C->∀ b∈C,∃ x,H b=some x
 | .mu::ms,t::ts,_,_,⟨v,r,C1,C2,_,ec,h1,h2⟩,b,hb=>by
  rw [ec] at hb
  rcases ud.mp hb with z | z
  ·exact h1.cell b z
  ·exact TrM.cell h2 b z
 | .fz::ms,t::ts,_,_,⟨v,r,_,h2⟩,b,hb=>TrM.cell h2 b hb
 | .mv::ms,t::ts,_,_,⟨v,r,_,h2⟩,b,hb=>TrM.cell h2 b hb
 | [],_,_,_,h,b,hb=>by rw [show _=[] from h] at hb;cases hb
 | .mu::_,[],_,_,h,b,hb=>by rw [show _=[] from h] at hb;cases hb
 | .fz::_,[],_,_,h,b,hb=>by rw [show _=[] from h] at hb;cases hb
 | .mv::_,[],_,_,h,b,hb=>by rw [show _=[] from h] at hb;cases hb
theorem AQ.len {F H:Hp}{s:Sl}{σ:L2.St}:∀ {ms:List Md} {ts:List T} {vs:List V} {ps:List (Nat×Lc)} {M:Ld},AQ W F H s σ ms ts vs ps M->vs.length=ms.length/\ps.length=(muV ms vs).length/\PlOk s ps
 | .fz::ms,t::ts,_,_,_,⟨v,r,e,h1,h2⟩=>by obtain⟨a,b,c⟩:=AQ.len h2;subst e;exact⟨by simp [a],b,c⟩
 | .mv::ms,t::ts,_,_,_,⟨v,r,M1,M2,e,h1,em,h2⟩=>by obtain⟨a,b,c⟩:=AQ.len h2;subst e;exact⟨by simp [a],b,c⟩
 | .mu::ms,t::ts,_,_,_,⟨v,r,j,p,ps',e,ep,⟨rr,w,h1,h3,_⟩,h2⟩=>by
  obtain⟨a,b,c⟩:=AQ.len h2
  subst e ep
  refine⟨by simp [a],by simp [muV,b],fun ip hip=>?_⟩
  rcases um.mp hip with rfl | z
  ·exact⟨rr,t,h1,h3⟩
  ·exact c ip z
 | [],_,_,_,_,⟨h1,h2,h3,h4⟩=>by subst h2 h3;exact⟨rfl,rfl,fun _ h=>by cases h⟩
 | .fz::_,[],_,_,_,h=>h.elim
 | .mv::_,[],_,_,_,h=>h.elim
 | .mu::_,[],_,_,_,h=>h.elim
structure CPo (W:Wd)(F H:Hp)(A:Lb)(s:Sl)(σ:L2.St)(tl:Lc)(s':Sl)(F' H':Hp)(A':Lb)(Br:Ld):Prop where
 rep:Rep W F' H' s' σ A'
 mv:Mv F H s A tl F' H' s' A'
 at_:∀ b∈Br,¬ Ow A' b
 new:∀ b∈Br,H b=none\/Tch A tl b
theorem back {F H F1 H1:Hp}{A A1:Lb}{s s1:Sl}{σ:L2.St}{tl pl:Lc}{ms:List Md}{ts:List T}{ps:List (Nat×Lc)}{vs:List V}{Z M:Ld}(p:GPo W F H A s σ tl [] ms ts ps s1 vs F1 H1 A1 Z M)(sp:∃ f,ps.map (·.1)=f/\List.Sublist f pl)(np:pl.Nodup) :
  vs.length=ms.length/\∃ B,Same (adds F1 H1 Z) H1/\TrL W (adds F1 H1 Z) H1 ts vs B/\B.Nodup/\(∀ b∈B,adds F1 H1 Z b=none) /\
   ∀ {ts':List T} {F' H':Hp} {C Br:Ld},FPo W (adds F1 H1 Z) H1 B ms vs ts' F' H' C->(∀ b∈C++Br,F' b=none)->(C++Br).Nodup->(∀ b∈C++Br,H1 b=none\/b∈B)->∃ A',CPo W F H A s σ (pl++tl) (putBack ms ps ts' s1) F' H' A' Br:=by
 obtain⟨f,ef,sf⟩:=sp
 have np':(ps.map (·.1)).Nodup:=by rw [ef];exact sf.nodup np
 have inp:∀ j∈ps.map (·.1),j∈pl:=fun j hj=>by rw [ef] at hj;exact sf.subset hj
 have R2:=p.rep.adds p.vz
 have aq:=Wo (jz (H:=H1) p.vz.fr) p.ar Jj
 obtain⟨l1,l2,ok⟩:=aq.len
 have vm2:Vd A1 (adds F1 H1 Z) H1 [] M:=⟨fun b hb=>by
  unfold L4.adds;rw [uy fun z=>p.zm b z hb];exact p.vm.fr b hb,p.vm.ob,p.vm.at_⟩
 obtain⟨A2,B,f1,f2,f3,f4,f5,f6,f7⟩:=det aq np' R2 vm2 p.nm
 refine⟨l1,B,R2.fh,f2,f3,f4.fr,fun {ts' F' H' C Br} fp nf nd nw=>?_⟩
 have m1:Mv F H s A (pl++tl) F1 H1 s1 A1:=p.mv.mono zc
 have inB:∀ b∈B,H b=none\/Tch A (pl++tl) b:=fun b hb=>by
  rcases f5 b hb with z | ⟨i,z1,z2⟩
  ·exact(p.newm b z).imp id fun⟨j,y1,y2⟩=>⟨j,zc j y1,y2⟩
  ·exact m1.cells i b (zb i (inp i z1)) z2
 have noB:∀ b∈B,¬ Ow A2 b:=fun b hb=>(f4.at_ b hb).resolve_right fun⟨_,z,_⟩=>by cases z
 have R3:=f1.ext fp.sF fp.fh (fun b hb y hy=>fp.keep b y hy fun z=>noB b z hb) fun b hb=>by
  cases q:F' b with
  | none=>rfl
  | some o=>
   obtain⟨j,hj⟩:=hb
   rcases fp.frz b o q with⟨o',z⟩ | z | z
   ·rw [f1.own j b hj] at z;cases z
   ·obtain⟨y,hy⟩:=f1.cell hj
    rw [hy] at z;cases z
   ·exact absurd ⟨j,hj⟩ (noB b z)
 have notA:∀ b,H1 b=none\/b∈B->¬ Ow A2 b:=fun b z ⟨j,hj⟩=>by
  rcases z with z | z
  ·obtain⟨y,hy⟩:=f1.cell hj
   rw [hy] at z;cases z
  ·exact noB b z ⟨j,hj⟩
 have ndC:=uB.mp nd
 have dC:Vd A2 F' H' [] C:=⟨fun b hb=>nf b (uj _ hb),fp.back.cell,fun b hb=>.inl (notA b (nw b (uj _ hb)))⟩
 obtain⟨A4,g1,g2,g3,g4⟩:=att fp.back fp.len l1 l2 ok np' R3 dC ndC.1
 have new:∀ b,H1 b=none\/b∈B->H b=none\/Tch A (pl++tl) b:=fun b z=>by
  rcases z with z | z
  ·exact .inl (m1.none z)
  ·exact inB b z
 refine⟨A4,g1,⟨(m1.sF.trans (jz p.vz.fr)).trans fp.sF,fun b o e n=>?_,fun b o e=>?_,fun b o e=>?_,fun j b hj hb=>?_,fun j hj=>?_⟩,fun b hb z=>?_,fun b hb=>new b (nw b (uc _ hb))⟩
 ·refine fp.keep b o (m1.keep b o e n) fun z=>?_
  rcases inB b z with y | y
  ·rw [e] at y;cases y
  ·exact n y
 ·obtain⟨o',e'⟩:=m1.dom b o e
  exact fp.dom b o' e'
 ·rcases fp.frz b o e with⟨o',z⟩ | z | z
  ·unfold L4.adds at z
   split at z
   ·rename_i hz
    have no:¬ Ow A1 b:=(p.vz.at_ b hz).resolve_right fun⟨_,z,_⟩=>by cases z
    exact .inr ((p.newz b hz no).imp id fun⟨j,y1,y2⟩=>⟨j,zc j y1,y2⟩)
   ·exact m1.frz b o' z
  ·exact .inr (new b (.inl z))
  ·exact .inr (new b (.inr z))
 ·rcases g3 j b hb with z | z
  ·exact m1.cells j b hj (f7 j b z)
  ·exact new b (nw b (uj _ z))
 ·have hj':j∉ps.map (·.1):=fun z=>hj (zb j (inp j z))
  obtain⟨k1,k2⟩:=m1.slot j hj
  exact⟨fun t z=>g4 j hj' t (k1 t z),by rw [g2 j hj',f6 j hj',k2]⟩
 ·obtain⟨j,hj⟩:=z
  rcases g3 j b hj with y | y
  ·exact notA b (nw b (uc _ hb)) ⟨j,y⟩
  ·exact ndC.2.2 b y b hb rfl
theorem Wq {tl pl:Lc}{ms:List Md}{ta:TA}{f:Fn}{m:Sl->(List T->List (Nat×Lc)->Sl->Prop)->XP->Prop}(hm:SM W E tl [] pl ms ta m)(np:pl.Nodup):SE W E (pl++tl) [] (wL (SpM W ms f) E ta) (fun s Q X=>m s (fun ts ps s1=>f ts (fun r ts'=>(false=true->cln r=true)/\Q r (putBack ms ps ts' s1)) fun x ts'=>(false=true->mfrs x.ts=true)/\X x (putBack ms ps ts' s1)) X):=by
 intro F H s σ A Q4 X4 Q R h q x
 refine hm F H s σ A _ X4 _ R h (fun ts ps s1 vs F1 H1 A1 Z M p sp h1=>?_) (x.sub zc)
 obtain⟨l,B,b1,b2,b3,b4,b5⟩:=back p sp np
 refine⟨l,_,ts,B,_,_,b1,b2,b3,b4,h1,fun r ts' v F' H' C Br fp tr nf nd nw h2=>?_,fun ex ts' c d F' H' C fp xr nf nd nw h2=>?_⟩
 ·obtain⟨A',c⟩:=b5 fp nf nd nw
  exact q r _ v F' H' A' Br ⟨c.rep,c.mv,tr,⟨fun b hb=>nf b (uc _ hb),tr.cell,fun b hb=>.inl (c.at_ b hb)⟩,(uB.mp nd).2.1,fun b hb _=>c.new b hb⟩ h2.2
 ·obtain⟨A',c'⟩:=b5 (Br:=[]) fp (by simpa using nf) (by simpa using nd) (by simpa using nw)
  exact x ex _ c d F' H' A' ⟨c'.rep,c'.mv,xr⟩ h2.2
mutual
theorem Jn {F F':Hp}(g:∀ p vs,F p=some (.tup vs)->F' p=some (.tup vs))(gx:∀ {a C kvs},Got W.K F a C kvs->Got W.K F' a C kvs):∀ {t:T} {v:V},mfr t=true->IsV W F t v->IsV W F' t v
 | .non,_,_,h=>h
 | .bl _,_,_,h=>h
 | .int _,_,_,h=>h
 | .str _,_,_,h=>h
 | .hol _,_,m,_=>by cases m
 | .ks _ _,_,m,_=>by cases m
 | .ls _,_,m,_=>by cases m
 | .dc _ _,_,m,_=>by cases m
 | .ob _ _ _,_,m,_=>by cases m
 | .fz t,v,m,h=>Jn g gx (t:=t) (v:=v) (by simpa only [mfr] using m) h
 | .tp ts,_,m,⟨p,vs,e,h1,h2⟩=>⟨p,vs,e,g _ _ h1,ZP g gx (by simpa only [mfr] using m) h2⟩
theorem ZP {F F':Hp}(g:∀ p vs,F p=some (.tup vs)->F' p=some (.tup vs))(gx:∀ {a C kvs},Got W.K F a C kvs->Got W.K F' a C kvs):∀ {ts:List T} {vs:List V},mfrs ts=true->IsVs W F ts vs->IsVs W F' ts vs
 | [],_,_,h=>h
 | t::ts,_,m,⟨v,r,e,h1,h2⟩=>by
  simp only [mfrs,ub] at m
  exact⟨v,r,e,Jn g gx m.1 h1,ZP g gx m.2 h2⟩
end
mutual
theorem K4 {F F' H:Hp}(g:∀ p vs,F p=some (.tup vs)->F' p=some (.tup vs))(gx:∀ {a C kvs},Got W.K F a C kvs->Got W.K F' a C kvs):∀ {t:T} {v:V} {B:Ld},cln t=true->Tr W F H t v B->Tr W F' H t v B
 | .non,_,_,_,h=>h
 | .bl _,_,_,_,h=>h
 | .int _,_,_,_,h=>h
 | .str _,_,_,_,h=>h
 | .hol _,_,_,m,_=>by cases m
 | .ks _ _,_,_,m,_=>by cases m
 | .fz t,v,_,m,⟨e,h⟩=>⟨e,Jn g gx (by simpa only [cln] using m) h⟩
 | .tp ts,_,_,m,⟨p,vs,e,h1,h2⟩=>⟨p,vs,e,g _ _ h1,yQ g gx (by simpa only [cln] using m) h2⟩
 | .ls ts,_,_,m,⟨p,vs,B,e,h1,ea,h2⟩=>⟨p,vs,B,e,h1,ea,yQ g gx (by simpa only [cln] using m) h2⟩
 | .dc ks ts,_,_,m,⟨p,vs,B,e,h1,ea,h2,h3⟩=>⟨p,vs,B,e,h1,ea,h2,yQ g gx (by simpa only [cln] using m) h3⟩
 | .ob c fs ts,_,_,m,⟨p,dx,vs,B,e,h1,ea,h2,h3⟩=>⟨p,dx,vs,B,e,h1,ea,h2,yQ g gx (by simpa only [cln] using m) h3⟩
theorem yQ {F F' H:Hp}(g:∀ p vs,F p=some (.tup vs)->F' p=some (.tup vs))(gx:∀ {a C kvs},Got W.K F a C kvs->Got W.K F' a C kvs):∀ {ts:List T} {vs:List V} {B:Ld},clns ts=true->TrL W F H ts vs B->TrL W F' H ts vs B
 | [],_,_,_,h=>h
 | t::ts,_,_,m,⟨v,r,A1,A2,e,ea,h1,h2⟩=>by
  simp only [clns,ub] at m
  exact⟨v,r,A1,A2,e,ea,K4 g gx m.1 h1,yQ g gx m.2 h2⟩
end
def Mc:HO->Prop
 | .lst _=>True
 | .dK _=>True
 | .ins _ _ _=>True
 | _=>False
mutual
theorem Tr.mc {F H:Hp}:∀ {o:T} {v:V} {A:Ld},Tr W F H o v A->∀ b∈A,∃ x,H b=some x/\Mc x
 | .non,_,_,h,b,hb=>by rw [h.1] at hb;cases hb
 | .bl _,_,_,h,b,hb=>by rw [h.1] at hb;cases hb
 | .int _,_,_,h,b,hb=>by rw [h.1] at hb;cases hb
 | .str _,_,_,h,b,hb=>by rw [h.1] at hb;cases hb
 | .hol _,_,_,h,b,hb=>by rw [h.1] at hb;cases hb
 | .fz _,_,_,h,b,hb=>by rw [h.1] at hb;cases hb
 | .ks _ _,_,_,h,b,hb=>by rw [h.1] at hb;cases hb
 | .tp os,_,_,⟨p,vs,e,h1,h2⟩,b,hb=>TrL.mc h2 b hb
 | .ls os,_,_,⟨p,vs,B,e,h1,ea,h2⟩,b,hb=>by
  rw [ea] at hb
  rcases um.mp hb with rfl | hb
  ·exact⟨_,h1,trivial⟩
  ·exact TrL.mc h2 b hb
 | .dc ks os,_,_,⟨p,vs,B,e,h1,ea,h2,h3⟩,b,hb=>by
  rw [ea] at hb
  rcases um.mp hb with rfl | hb
  ·exact⟨_,h1,trivial⟩
  ·exact TrL.mc h3 b hb
 | .ob c fs os,_,_,⟨p,dx,vs,B,e,h1,ea,h2,h3⟩,b,hb=>by
  rw [ea] at hb
  rcases um.mp hb with rfl | hb
  ·exact⟨_,h1,trivial⟩
  ·exact TrL.mc h3 b hb
theorem TrL.mc {F H:Hp}:∀ {os:List T} {vs:List V} {A:Ld},TrL W F H os vs A->∀ b∈A,∃ x,H b=some x/\Mc x
 | [],_,_,h,b,hb=>by rw [h.2] at hb;cases hb
 | o::os,_,_,⟨v,r,A1,A2,e,ea,h1,h2⟩,b,hb=>by
  rw [ea] at hb
  rcases ud.mp hb with hb | hb
  ·exact Tr.mc h1 b hb
  ·exact TrL.mc h2 b hb
end
theorem AR.fz {F H:Hp}{s:Sl}{σ:L2.St}:∀ {ms:List Md} {ts:List T} {vs:List V} {ps:List (Nat×Lc)} {Z M:Ld},AR W F H s σ ms ts vs ps Z M->ms.all (· = .fz)=true->ps=[]/\M=[]/\(∀ b∈Z,∃ x,H b=some x/\Mc x)/\∀ ts' s',putBack ms ps ts' s' = s'
 | .fz::ms,t::ts,_,_,_,_,⟨v,r,raw,Z1,Z2,e,et,h1,ez,h2⟩,k=>by
  simp only [Up,ub] at k
  obtain⟨a,b,c,d⟩:=AR.fz h2 k.2
  subst ez a
  refine⟨rfl,b,fun x hx=>?_,fun ts' s'=>?_⟩
  ·rcases ud.mp hx with z | z
   ·exact h1.mc x z
   ·exact c x z
  ·cases ts' with
   | nil=>rfl
   | cons t' ts'=>simp only [putBack];exact d ts' s'
 | .mv::ms,_,_,_,_,_,_,k=>by simp at k
 | .mu::ms,_,_,_,_,_,_,k=>by simp at k
 | [],_,_,_,_,_,⟨h1,h2,h3,h4,h5⟩,_=>by subst h3 h4 h5;exact⟨rfl,rfl,(fun _ h=>by cases h),fun ts' s'=>by cases ts'<;>rfl⟩
 | .fz::_,[],_,_,_,_,h,_=>h.elim
theorem K5 {F H:Hp}{s:Sl}{σ:L2.St}:∀ {ms:List Md} {ts:List T} {vs:List V} {ps:List (Nat×Lc)} {M:Ld},AQ W F H s σ ms ts vs ps M->ms.all (· = .fz)=true->TrL W F H ts vs []
 | .fz::ms,t::ts,_,_,_,⟨v,r,e,h1,h2⟩,k=>by
  simp only [Up,ub] at k
  subst e
  exact TrL.cons0 h1 (K5 h2 k.2)
 | .mv::ms,_,_,_,_,_,k=>by simp at k
 | .mu::ms,_,_,_,_,_,k=>by simp at k
 | [],_,_,_,_,⟨h1,h2,_⟩,_=>by subst h1 h2;exact⟨rfl,rfl⟩
 | .fz::_,[],_,_,_,h,_=>h.elim
theorem Wr {tl rl pl:Lc}{ms:List Md}{ta:TA}{f:Fn}{m:Sl->(List T->List (Nat×Lc)->Sl->Prop)->XP->Prop}(hm:SM W E tl rl pl ms ta m)(hf:ms.all (· = .fz)=true):SE W E tl [] (wL (SpM W ms f) E ta) (fun s Q X=>m s (fun ts ps s1=>f ts (fun r ts'=>(true=true->cln r=true)/\Q r (putBack ms ps ts' s1)) fun x ts'=>(true=true->mfrs x.ts=true)/\X x (putBack ms ps ts' s1)) X):=by
 intro F H s σ A Q4 X4 Q R h q x
 refine hm F H s σ A _ X4 _ R h (fun ts ps s1 vs F1 H1 A1 Z M p sp h1=>?_) x
 obtain⟨rfl,rfl,mz,pb⟩:=p.ar.fz hf
 have gF:Same F1 (adds F1 H1 Z):=jz p.vz.fr
 have aq:=Wo gF p.ar Jj
 obtain⟨l1,l2,ok⟩:=aq.len
 have tl0:=K5 aq hf
 have off:∀ {ts':List T} {F' H':Hp} {C:Ld},FPo W (adds F1 H1 Z) H1 [] ms vs ts' F' H' C->∃ F'',Rep W F'' H' s1 σ A1/\Mv F H s A tl F'' H' s1 A1/\(∀ p vs,F' p=some (.tup vs)->F'' p=some (.tup vs))/\(∀ {a C kvs},Got W.K F' a C kvs->Got W.K F'' a C kvs)/\(∀ p fs,F' p=some (.xd fs)->F'' p=some (.xd fs))/\∀ b,F' b=none->F'' b=none:=fun {ts' F' H' C} fp=>by
  have kz:∀ b∈Z,∀ y,F' b=some y->Mc y:=fun b hb y hy=>by
   obtain⟨y',e1,e2⟩:=mz b hb
   have e3:=fp.keep b y' e1 (fun z=>by cases z)
   rw [fp.fh _ _ hy] at e3
   cases e3
   exact e2
  let F'':Hp:=fun b=>if b∈Z then F1 b else F' b
  have e'':∀ b,b∉Z->F'' b=F' b:=fun b hb=>uy hb
  have ez:∀ b,b∈Z->F'' b=none:=fun b hb=>(uz hb).trans (p.vz.fr b hb)
  have s1F:Same F1 F'':=fun b o e=>by
   by_cases hb:b∈Z
   ·rw [p.vz.fr b hb] at e;cases e
   ·rw [e'' b hb];exact fp.sF _ _ (gF _ _ e)
  have fh:Same F'' H':=fun b o e=>by
   by_cases hb:b∈Z
   ·rw [ez b hb] at e;cases e
   ·rw [e'' b hb] at e;exact fp.fh _ _ e
  have fz:∀ b o,F'' b=some o->(∃ o',F1 b=some o')\/H1 b=none:=fun b o e=>by
   by_cases hb:b∈Z
   ·rw [ez b hb] at e;cases e
   ·rw [e'' b hb] at e
    rcases fp.frz b o e with⟨o',z⟩ | z | z
    ·unfold L4.adds at z
     rw [uy hb] at z
     exact .inl ⟨o',z⟩
    ·exact .inr z
    ·cases z
  have R'':=p.rep.ext s1F fh (fun b hb y hy=>fp.keep b y hy fun z=>by cases z) fun b ⟨j,hj⟩=>by
   cases q:F'' b with
   | none=>rfl
   | some o=>
    rcases fz b o q with⟨o',z⟩ | z
    ·rw [p.rep.own j b hj] at z;cases z
    ·obtain⟨y,hy⟩:=p.rep.cell hj
     rw [hy] at z;cases z
  have up:∀ b y,F' b=some y->¬ Mc y->F'' b=some y:=fun b y e n=>by rw [e'' b fun hb=>n (kz b hb y e)];exact e
  refine⟨F'',R'',p.mv.trans' ⟨s1F,fun b o e _=>fp.keep b o e (fun z=>by cases z),fp.dom,fun b o e=>(fz b o e).imp id .inl,fun j b hj hb=>.inr ⟨j,hj,hb⟩,fun _ _=>⟨fun _ h=>h,rfl⟩⟩,fun p vs e=>up p _ e (fun z=>z),fun {a C kvs} g=>?_,fun p fs e=>up p _ e (fun z=>z),fun b e=>?_⟩
  ·obtain⟨cl,d,⟨o,h1,h2⟩,h3⟩:=g
   exact⟨cl,d,⟨o,up _ _ h1 (fun z=>z),h2⟩,up _ _ h3 (fun z=>z)⟩
  ·by_cases hb:b∈Z
   ·exact ez b hb
   ·rw [e'' b hb];exact e
 refine⟨l1,_,ts,[],_,_,Vh p.rep.fh,tl0,.nil,(fun b hb=>by cases hb),h1,fun r ts' v F' H' C Br fp tr nf nd nw h2=>?_,fun ex ts' c d F' H' C fp xr nf nd nw h2=>?_⟩
 ·obtain⟨F'',R'',m'',g1,g2,g3,g4⟩:=off fp
  rw [pb] at h2
  have nH:∀ b∈Br,H1 b=none:=fun b hb=>(nw b (uc _ hb)).resolve_right fun z=>by cases z
  refine q r s1 v F'' H' A1 Br ⟨R'',m'',K4 g1 g2 (h2.1 rfl) tr,⟨fun b hb=>g4 b (nf b (uc _ hb)),tr.cell,fun b hb=>.inl fun⟨j,hj⟩=>?_⟩,(uB.mp nd).2.1,fun b hb _=>.inl (p.mv.none (nH b hb))⟩ h2.2
  obtain⟨y,hy⟩:=p.rep.cell hj
  rw [nH b hb] at hy;cases hy
 ·obtain⟨F'',R'',m'',g1,g2,g3,g4⟩:=off fp
  rw [pb] at h2
  obtain⟨e1,dd,kvs,e2,k1,k2,k3⟩:=xr
  exact x ex s1 c d F'' H' A1 ⟨R'',m'',e1,dd,kvs,e2,g3 _ _ k1,k2,ZP g1 g2 (h2.1 rfl) k3⟩ h2.2
end L4
namespace L4
open PySem L2 PySem.Spec PyProof.Rows
variable {W:Wd} {E:XS}
def iAny (K:Le)(tl:TE):TI:=fun σ H R=>tl σ H fun x H1=>(∃ a,x=.ref a/\(∃ xs,SqL K H1 a xs)/\R (Itl K a) H1)\/(∃ z,x=.str z/\R (Its z) H1)\/∃ a,x=.ref a/\(∃ xs,SqT K H1 a xs)/\R (Itt K a) H1
theorem K6 {X:Cx}{K:Le}{tg l:Expr}{tl:TE}(hK:X.K=K)(hl:PE X l tl):PI X tg l (iAny K tl):=by
 subst hK
 intro pins s σ H R I h
 refine thn (hl pins s σ H _ I h) fun v s1 ⟨x,H1,I1,r1,q1⟩=>?_
 rcases q1 with⟨a,e,⟨xs,hq⟩,q⟩ | ⟨z,rfl,q⟩ | ⟨a,e,⟨xs,hq⟩,q⟩
 ·subst e
  cases r1
  obtain⟨its,rv,p,hz⟩:=I1.list hq
  refine wpAny_pyIter_list p.isList ?_
  refine⟨s1.heap.objs.size,[s1.heap.objs.size],_,_,H1,rfl,I1.kept (t':=s1.toks) fun b o e=>Heap.get?_push_of_some _ e,VY a _,⟨_,Heap.get?_push_size _ rfl,rfl,rfl⟩,fun b hb=>?_,q⟩
  have e:b=s1.heap.objs.size:=by simpa using hb
  subst e
  exact I1.fpOk (uu _) (I1.hok.fresh (uu _))
 ·obtain⟨t,rfl⟩:=r1
  have fin:∀ (ty:String) (o:Obj),Turn X.prog X.w X.K tg (Its z) [s1.heap.objs.size] s1.heap.objs.size (fun i h=>h.IsStrIter s1.heap.objs.size ty z t i)->(s1.heap.push o).IsStrIter s1.heap.objs.size ty z t 0 ->
    PIE X pins σ tg R (.ref s1.heap.objs.size) { s1 with heap:=s1.heap.push o }:=fun ty o T st=>by
   refine⟨s1.heap.objs.size,[s1.heap.objs.size],_,_,H1,rfl,I1.kept (t':=s1.toks) fun b o e=>Heap.get?_push_of_some _ e,T,st,fun b hb=>?_,q⟩
   have e:b=s1.heap.objs.size:=by simpa using hb
   subst e
   exact I1.fpOk (uu _) (I1.hok.fresh (uu _))
  cases ha:z.cps.all (· < 128)
  ·refine wpAny_pyIter_wide ha (fin "str_iterator" _ (kW (by decide) (fun A' hA=>Walks.strWide hA _ z t) ?_ ?_) ⟨_,Heap.get?_push_size _ rfl,rfl,rfl⟩)
   ·intro A' s i E Q hA st hx hq
    exact wpAny_pyNext_wide_end hA st hx hq
   ·intro A' s i E Q st h
    exact wpAny_pyIter_striter_wide st h
  ·refine wpAny_pyIter_ascii ha (fin "str_ascii_iterator" _ (kW (by decide) (fun A' hA=>Walks.strAscii hA _ z t) ?_ ?_) ⟨_,Heap.get?_push_size _ rfl,rfl,rfl⟩)
   ·intro A' s i E Q hA st hx hq
    exact wpAny_pyNext_ascii_end hA st hx hq
   ·intro A' s i E Q st h
    exact wpAny_pyIter_striter_ascii st h
 ·subst e
  cases r1
  obtain⟨its,rv,p,hz⟩:=I1.tuple hq
  refine wpAny_pyIter_tuple (show s1.heap.IsTuple a its.toArray from p) ?_
  refine⟨s1.heap.objs.size,[s1.heap.objs.size],_,_,H1,rfl,I1.kept (t':=s1.toks) fun b o e=>Heap.get?_push_of_some _ e,Xa a _,⟨_,Heap.get?_push_size _ rfl,rfl,rfl⟩,fun b hb=>?_,q⟩
  have e:b=s1.heap.objs.size:=by simpa using hb
  subst e
  exact I1.fpOk (uu _) (I1.hok.fresh (uu _))
def Kp (Z:Ld)(H0 H:Hp):Prop:=∀ b∈Z,∀ o,H0 b=some o->H b=some o
structure ItOk (W:Wd)(J:It)(F H0:Hp)(Z:Ld)(ds:List T):Prop where
 go:∀ i H,i<ds.length->Same F H->Kp Z H0 H->J.go i H
 yld:∀ i H x H',i<ds.length->Same F H->Kp Z H0 H->J.yld i H x H'->∃ d,ds[i]? = some d/\∀ F1,Same F F1->Same F1 H->∃ F2,Al F1 H F2 H' []/\Tr W F2 H' d x []
 stop:∀ H,Same F H->Kp Z H0 H->J.stop ds.length H
structure IPo (W:Wd)(F H:Hp)(A:Lb)(s:Sl)(σ:L2.St)(tl rl:Lc)(ds:List T)(s':Sl)(J:It)(F' H':Hp)(A':Lb)(Z:Ld):Prop where
 rep:Rep W F' H' s' σ A'
 mv:Mv F H s A tl F' H' s' A'
 vd:Vd A' F' H' rl Z
 it:ItOk W J F' H' Z ds
def SI (W:Wd)(E:XS)(tl rl:Lc)(wi:TI)(m:Sl->(List T->Sl->Prop)->XP->Prop):Prop:=∀ (F H:Hp) (s:Sl) (σ:L2.St) (A:Lb) (Q4:List T->Sl->Prop) (X4:XP) (R:It->Hp->Prop),Rep W F H s σ A->m s Q4 X4 ->
 (∀ ds s' J F' H' A' Z,IPo W F H A s σ tl rl ds s' J F' H' A' Z->Q4 ds s'->R J H')->XK4 W E F H A s σ tl X4->wi σ H R
section
variable {F H:Hp} {B:Ld} {x:T} {v:V}
theorem Ws {xs:List T}(h:Tr W F H x v B)(e:seqV x=some xs):∃ p vs C,v=.ref p/\((∀ H',Same F H'->Kp B H H'->SqL W.K H' p vs)\/∀ H',Same F H'->Kp B H H'->SqT W.K H' p vs)/\TrL W F H xs vs C:=by
 rcases zJ e with e | e
 ·unfold lsV at e
  split at e
  ·cases e
   obtain⟨p,vs,C,e,h1,rfl,h2⟩:=h
   exact⟨p,vs,C,e,.inl fun H' _ k=>SqL.of (k p ue _ h1),h2⟩
  ·cases e
   obtain⟨_,p,vs,e,h1,h2⟩:=h
   exact⟨p,vs,[],e,.inl fun H' g _=>SqL.of (g _ _ h1),je h2⟩
  ·cases e
 ·rcases zJ e with e | e
  ·obtain⟨p,vs,C,e,h1,h2,_⟩:=vi h e
   exact⟨p,vs,C,e,.inr fun H' g _=>SqT.of (g _ _ h1),h2⟩
  ·cases x with
   | ks l ys=>
    cases e
    cases l
    ·obtain⟨_,p,vs,e,h1,h2⟩:=h
     exact⟨p,vs,[],e,.inr fun H' g _=>ZH g h1,je h2⟩
    ·obtain⟨_,p,vs,e,h1,h2⟩:=h
     exact⟨p,vs,[],e,.inl fun H' g _=>yN g h1,je h2⟩
   | _=>cases e
theorem TrL.get0 {ts:List T}{vs:List V}{j:Nat}(h:TrL W F H ts vs [])(hj:j<ts.length):∃ d w,ts[j]? = some d/\vs[j]? = some w/\∀ F1 H1,Same F F1->Tr W F1 H1 d w []:=by
 obtain⟨w,A1,A2,A3,h1,h2,h3,_⟩:=h.get (uq hj)
 have:A2=[]:=(Uo.mp (Uo.mp h2.symm).2).1
 subst this
 exact⟨_,w,uq hj,h1,fun F1 H1 g=>h3.frame g fun _ hb=>by cases hb⟩
theorem Vr {p:Addr}{vs:List V}{ds:List T}(h:∀ H',Same F H'->Kp B H H'->SqL W.K H' p vs)(k:TrL W F H ds vs []):ItOk W (Itl W.K p) F H B ds:=by
 refine⟨fun i H' hi g kp=>?_,fun i H' x H2 hi g kp y=>?_,fun H' g kp=>⟨vs,h H' g kp,by rw [k.len];exact uu _⟩⟩
 ·obtain⟨d,w,_,e2,_⟩:=k.get0 hi
  exact⟨vs,w,h H' g kp,e2⟩
 ·obtain⟨rfl,y⟩:=y
  obtain⟨d,w,e1,e2,e3⟩:=k.get0 hi
  have e:=y vs (h _ g kp)
  rw [e2] at e
  cases e
  exact⟨d,e1,fun F1 g1 k1=>⟨F1,Al.refl k1,e3 F1 _ g1⟩⟩
theorem K7 {p:Addr}{vs:List V}{ds:List T}(h:∀ H',Same F H'->Kp B H H'->SqT W.K H' p vs)(k:TrL W F H ds vs []):ItOk W (Itt W.K p) F H B ds:=by
 refine⟨fun i H' hi g kp=>?_,fun i H' x H2 hi g kp y=>?_,fun H' g kp=>⟨vs,h H' g kp,by rw [k.len];exact uu _⟩⟩
 ·obtain⟨d,w,_,e2,_⟩:=k.get0 hi
  exact⟨vs,w,h H' g kp,e2⟩
 ·obtain⟨rfl,y⟩:=y
  obtain⟨d,w,e1,e2,e3⟩:=k.get0 hi
  have e:=y vs (h _ g kp)
  rw [e2] at e
  cases e
  exact⟨d,e1,fun F1 g1 k1=>⟨F1,Al.refl k1,e3 F1 _ g1⟩⟩
theorem zd8 {t:Lc}:ItOk W (Its (S t)) F H B (signs t):=by
 refine⟨fun i H' hi g _=>?_,fun i H' x H2 hi g _ y=>?_,fun H' g _=>?_⟩
 ·unfold signs at hi;rw [uh] at hi;exact(by simpa [Its,S] using hi)
 ·obtain⟨rfl,c,ec,rfl⟩:=y
  have ec:t[i]? = some c:=by simpa [S] using ec
  exact⟨.str [c],by unfold signs;rw [uD,ec];rfl,fun F1 g1 k1=>⟨F1,Al.refl k1,xn (by simp)⟩⟩
 ·unfold signs;rw [uh];exact(by simp [Its,S])
theorem K8 {lo:Int}{n:Nat}:ItOk W (Itr lo n) F H B ((List.range n).map fun(k:Nat)=>.int (lo+(k:Int))):=by
 refine⟨fun i H' hi g _=>?_,fun i H' x H2 hi g _ y=>?_,fun H' g _=>?_⟩
 ·simpa [Itr] using hi
 ·obtain⟨rfl,rfl⟩:=y
  have hi':i<n:=by simpa using hi
  exact⟨.int (lo+i),by simp [hi'],fun F1 g1 k1=>⟨F1,Al.refl k1,vh⟩⟩
 ·simp [Itr]
theorem kH:∀ (ds:List T) (n:Nat),(yc n ds).length=ds.length
 | [],_=>rfl
 | _::ds,n=>by simp only [yc,ua,kH ds]
theorem Wt:∀ (ds:List T) (n i:Nat),(yc n ds)[i]? = (ds[i]?).map fun d=>.tp [.int ((n+i:Nat):Int),d]
 | [],_,_=>rfl
 | d::ds,n,0=>rfl
 | d::ds,n,i+1=>by
  simp only [yc,gb]
  rw [Wt ds (n+1) i,show n+1+i=n+(i+1) by lia]
theorem K9 {F1 H1:Hp}{p:Addr}{a b:T}{va vb:V}(g:Same F1 H1)(hp:H1 p=none)(ha:∀ F2 H2,Same F1 F2->Tr W F2 H2 a va [])(hb:∀ F2 H2,Same F1 F2->Tr W F2 H2 b vb []):Al F1 H1 (upd F1 p (.tup [va,vb])) (upd H1 p (.tup [va,vb])) []/\Tr W (upd F1 p (.tup [va,vb])) (upd H1 p (.tup [va,vb])) (.tp [a,b]) (.ref p) []:=by
 have al:=Al.froz (o:=.tup [va,vb]) g hp
 exact⟨al,p,[va,vb],rfl,zw,TrL.cons0 (ha _ _ al.sF) (TrL.cons0 (hb _ _ al.sF) ⟨rfl,rfl⟩)⟩
theorem zaa {t:Lc}:ItOk W (Ite (goS (S t)) (yvS (S t)) (stS (S t))) F H B (yc 0 (signs t)):=by
 refine⟨fun i H' hi g _=>?_,fun i H' x H2 hi g _ y=>?_,fun H' g _=>?_⟩
 ·rw [kH] at hi;unfold signs at hi;rw [uh] at hi;exact(by simpa [Ite,goS,S] using hi)
 ·obtain⟨p',v,hp,⟨c,ec,rfl⟩,rfl,rfl⟩:=y
  have ec:t[i]? = some c:=by simpa [S] using ec
  refine⟨_,by rw [Wt];unfold signs;rw [uD,ec];rfl,fun F1 g1 k1=>?_⟩
  rw [UT]
  exact⟨_,K9 k1 hp (fun _ _ _=>vh) fun F2 H2 g2=>xn (by simp)⟩
 ·rw [kH];unfold signs;rw [uh];exact(by simp [Ite,stS,S])
end
theorem zd9 {tl rl:Lc}{te:TE}{e:Xp}(he:SE W E tl rl te (WE true e)):SI W E tl rl (iAny W.K te) (fun s Q X=>WEs true [e] s (fun ts s1=>∃ ds,itT .seq ts=some ds/\Q ds s1) X):=by
 intro F H s σ A Q4 X4 R Rp h q x
 refine he F H s σ A _ X4 _ Rp h (fun t s1 v F1 H1 A1 B p ⟨ds,e1,h1⟩=>?_) x
 have e2:orE (shO (seqV t)) (orE ((lsV t).map views) ((strO t).map signs))=some ds:=e1
 rcases zJ e2 with e3 | e3
 ·obtain⟨e4,sh⟩:=jO e3
  obtain⟨p',vs,C,rfl,k1,k2⟩:=Ws p.tr e4
  rcases k1 with k1 | k1
  ·exact .inl ⟨p',rfl,⟨vs,k1 H1 p.rep.fh fun _ _ _ h=>h⟩,q ds s1 _ F1 H1 A1 B ⟨p.rep,p.mv,p.vd,Vr k1 (k2.sh sh)⟩ h1⟩
  ·exact .inr (.inr ⟨p',rfl,⟨vs,k1 H1 p.rep.fh fun _ _ _ h=>h⟩,q ds s1 _ F1 H1 A1 B ⟨p.rep,p.mv,p.vd,K7 k1 (k2.sh sh)⟩ h1⟩)
 ·rcases zJ e3 with e5 | e5
  ·rw [uo] at e5
   obtain⟨xs,e6,rfl⟩:=e5
   obtain⟨p',vs,C,rfl,k1,k2⟩:=Ws p.tr (show seqV t=some xs by unfold seqV;rw [e6];rfl)
   rcases k1 with k1 | k1
   ·exact .inl ⟨p',rfl,⟨vs,k1 H1 p.rep.fh fun _ _ _ h=>h⟩,q _ s1 _ F1 H1 A1 B ⟨p.rep,p.mv,p.vd,Vr k1 (yO k2)⟩ h1⟩
   ·exact .inr (.inr ⟨p',rfl,⟨vs,k1 H1 p.rep.fh fun _ _ _ h=>h⟩,q _ s1 _ F1 H1 A1 B ⟨p.rep,p.mv,p.vd,K7 k1 (yO k2)⟩ h1⟩)
  ·rw [uo] at e5
   obtain⟨t',e6,rfl⟩:=e5
   exact .inr (.inl ⟨S t',(qm p.tr e6).1,q _ s1 _ F1 H1 A1 B ⟨p.rep,p.mv,p.vd,zd8⟩ h1⟩)
theorem zbP {tl rl:Lc}{te:TE}{e:Xp}(ha:SE W E tl rl te (WE true e)):SI W E tl rl (zcm (j9 te tNil)) (fun s Q X=>WEs true [e] s (fun ts s1=>∃ ds,itT .rng ts=some ds/\Q ds s1) X):=by
 intro F H s σ A Q4 X4 R Rp h q x
 refine ha F H s σ A _ X4 _ Rp h (fun t s1 v F1 H1 A1 B p ⟨ds,e1,h1⟩=>?_) x
 have e2:rngT [t]=some ds:=e1
 unfold rngT at e2
 cases t with
 | int j=>
  simp only [uC,uw] at e2
  obtain⟨hb,rfl⟩:=e2
  have:=K8 (W:=W) (F:=F1) (H:=H1) (B:=B) (lo:=0) (n:=j.toNat)
  simp only [Int.zero_add] at this
  exact⟨j,by rw [p.tr.2],hb.1,hb.2,q _ s1 _ F1 H1 A1 B ⟨p.rep,p.mv,p.vd,this⟩ h1⟩
 | _=>cases e2
theorem zbQ {tl1 tl2 rl1 rl2:Lc}{ta tb:TE}{e f:Xp}(ha:SE W E tl1 rl1 ta (WE true e))(hb:SE W E tl2 rl2 tb (WE true f)):SI W E (tl1++tl2) [] (zcn (j9 ta (j9 tb tNil))) (fun s Q X=>WEs true [e,f] s (fun ts s1=>∃ ds,itT .rng ts=some ds/\Q ds s1) X):=by
 intro F H s σ A Q4 X4 R Rp h q x
 refine ha F H s σ A _ X4 _ Rp h (fun t s1 v F1 H1 A1 B1 p1 h1=>?_) (x.sub zb)
 refine hb F1 H1 s1 σ A1 _ X4 _ p1.rep h1 (fun t' s2 v' F2 H2 A2 B2 p2 ⟨ds,e1,h2⟩=>?_) (x.mono (p1.mv.mono zb) zc)
 have e2:rngT [t,t']=some ds:=e1
 unfold rngT at e2
 cases t with
 | int i=>
  cases t' with
  | int j=>
   simp only [uC,uw] at e2
   obtain⟨hb,rfl⟩:=e2
   exact⟨i,j,by rw [p1.tr.2,p2.tr.2],⟨hb.1.1,hb.1.2,hb.2.1,hb.2.2⟩,q _ s2 _ F2 H2 A2 [] ⟨p2.rep,p1.mv.trans p2.mv,Vd.nil,K8⟩ h2⟩
  | _=>cases e2
 | _=>cases e2
theorem zea {tl rl:Lc}{te:TE}{e:Xp}(ha:SE W E tl rl te (WE true e)):SI W E tl rl (Kd (j9 te tNil)) (fun s Q X=>WEs true [e] s (fun ts s1=>∃ ds,itT .enumS ts=some ds/\Q ds s1) X):=by
 intro F H s σ A Q4 X4 R Rp h q x
 simp only [WEs] at h
 refine ha F H s σ A _ X4 _ Rp h (fun t s1 v F1 H1 A1 B p ⟨ds,e1,h1⟩=>?_) x
 have e2:(strO t).map (fun t=>yc 0 (signs t))=some ds:=e1
 rw [uo] at e2
 obtain⟨t',e2,rfl⟩:=e2
 have hv:=(qm p.tr e2).1
 subst hv
 exact⟨S t',rfl,q _ s1 _ F1 H1 A1 B ⟨p.rep,p.mv,p.vd,zaa⟩ h1⟩
end L4
namespace L4
open PySem L2 PySem.Spec PyProof.Rows
variable {W:Wd} {E:XS}
noncomputable def yR (n:Nat)(A:Lb):Nat->List Addr:=fun j=>if j<n then [] else A (j - n)
theorem jP {n j:Nat}{A:Lb}(h:j<n):yR n A j=[]:=uz h
theorem ji {n j:Nat}{A:Lb}(h:¬ j<n):yR n A j=A (j - n):=uy h
theorem zbR {n:Nat}{A:Lb}{b:Addr}(h:Ow (yR n A) b):Ow A b:=by
 obtain⟨j,h⟩:=h
 by_cases e:j<n
 ·rw [jP e] at h;cases h
 ·rw [ji e] at h;exact⟨_,h⟩
theorem Vs {F H:Hp}:∀ {ts:List T} {us:List V} {j:Nat} {t:T},TrL W F H ts us []->ts[j]? = some t->∃ u,us[j]? = some u/\Tr W F H t u []
 | [],_,_,_,_,e=>by simp at e
 | _::ts,_,0,_,h,e=>by
  obtain⟨v,r,rfl,h1,_⟩:=h.uncons
  simp at e;subst e
  exact⟨v,rfl,h1⟩
 | _::ts,_,j+1,_,h,e=>by
  obtain⟨v,r,rfl,_,h2⟩:=h.uncons
  simpa using Vs (j:=j) h2 (by simpa using e)
def zab (s:Sl):Prop:=∀ (j i:Nat) (q:Lc),s[j]?≠some (.al i q)
theorem zac {x:Slot}{t:T}:x.noAl=.own t↔x=.own t:=by cases x<;>simp [Slot.noAl]
theorem w6 {s:Sl}:zab (s.map Slot.noAl):=fun j i q e=>by
 rw [uD] at e
 cases h:s[j]? with
 | none=>rw [h] at e;cases e
 | some x=>rw [h] at e;cases x<;>cases e
theorem yS {s:Sl}{j:Nat}{t:T}:(s.map Slot.noAl)[j]? = some (.own t)↔s[j]? = some (.own t):=by
 rw [uD]
 cases s[j]? with
 | none=>simp
 | some x=>simp only [uT,uw];exact zac
theorem Rep.noAl {F H:Hp}{s:Sl}{σ:L2.St}{A:Lb}(R:Rep W F H s σ A):Rep W F H (s.map Slot.noAl) σ A:=
 ⟨R.fh,fun i t h=>R.slot i t (yS.mp h),fun j i q h=>absurd h (w6 j i q),fun i h=>R.emp i fun t z=>h t (yS.mpr z),R.own,R.dis,R.nd,by rw [uh];exact R.len⟩
theorem Mv.noAl {F H F' H':Hp}{s s':Sl}{A A':Lb}{tl:Lc}(m:Mv F H s A tl F' H' s' A'):Mv F H s A tl F' H' (s'.map Slot.noAl) A':=⟨m.sF,m.keep,m.dom,m.frz,m.cells,fun j hj=>⟨fun t z=>yS.mpr ((m.slot j hj).1 t z),(m.slot j hj).2⟩⟩
theorem Rep.push {F H:Hp}{s:Sl}{σ:L2.St}{A:Lb}{ts:List T}{us:List V}(R:Rep W F H s σ A)(na:zab s)(h:TrL W F H ts us []):Rep W F H (ts.map .own++s) (us.map some++σ) (yR ts.length A):=by
 have hl:=h.len
 have lt:∀ {j:Nat},j<ts.length->(ts.map Slot.own++s)[j]? = (ts[j]?).map .own:=fun {j} hj=>by rw [u5 (by rw [uh];exact hj),uD]
 have ge:∀ {j:Nat},¬ j<ts.length->(ts.map Slot.own++s)[j]? = s[j - ts.length]?:=fun {j} hj=>by rw [uL (by rw [uh];lia),uh]
 have ge':∀ {j:Nat},¬ j<ts.length->(us.map some++σ)[j]? = σ[j - ts.length]?:=fun {j} hj=>by rw [uL (by rw [uh];lia),uh,hl]
 refine⟨R.fh,fun i t e=>?_,fun j i q e=>?_,fun i e=>?_,fun i a ha=>?_,fun i j a ha hb=>?_,fun i=>?_,by rw [uf,uf,uh,uh,hl,R.len]⟩
 ·by_cases hi:i<ts.length
  ·rw [lt hi] at e
   cases e1:ts[i]? with
   | none=>rw [e1] at e;cases e
   | some t'=>
    rw [e1] at e
    cases e
    obtain⟨u,h1,h2⟩:=Vs h e1
    exact⟨u,by rw [u5 (by rw [uh,hl];exact hi),uD,h1];rfl,by rw [jP hi];exact h2⟩
  ·rw [ge hi] at e
   obtain⟨v,h1,h2⟩:=R.slot _ t e
   exact⟨v,by rw [ge' hi];exact h1,by rw [ji hi];exact h2⟩
 ·by_cases hj:j<ts.length
  ·rw [lt hj] at e
   cases e1:ts[j]? with
   | none=>rw [e1] at e;cases e
   | some t'=>rw [e1] at e;cases e
  ·rw [ge hj] at e
   exact absurd e (na _ i q)
 ·by_cases hi:i<ts.length
  ·rw [jP hi]
  ·rw [ji hi]
   exact R.emp _ fun t z=>e t (by rw [ge hi];exact z)
 ·by_cases hi:i<ts.length
  ·rw [jP hi] at ha;cases ha
  ·rw [ji hi] at ha;exact R.own _ a ha
 ·by_cases hi:i<ts.length
  ·rw [jP hi] at ha;cases ha
  ·by_cases hj:j<ts.length
   ·rw [jP hj] at hb;cases hb
   ·rw [ji hi] at ha;rw [ji hj] at hb
    have:=R.dis _ _ a ha hb
    lia
 ·by_cases hi:i<ts.length
  ·rw [jP hi];exact .nil
  ·rw [ji hi];exact R.nd _
noncomputable def popA (n:Nat)(A:Lb):Nat->List Addr:=fun j=>A (j+n)
theorem Vt {α:Type}{l:List α}{n j:Nat}:(l.drop n)[j]? = l[j+n]?:=by rw [List.getElem?_drop,Nat.add_comm]
theorem Rep.pop {F H:Hp}{s:Sl}{σ:L2.St}{us:List V}{A:Lb}{n:Nat}(hn:us.length=n)(R:Rep W F H s (us.map some++σ) A):Rep W F H ((s.drop n).map Slot.noAl) σ (popA n A):=by
 have at_:∀ {j:Nat} {t:T},((s.drop n).map Slot.noAl)[j]? = some (.own t)↔s[j+n]? = some (.own t):=fun {j t}=>by rw [yS,Vt]
 refine⟨R.fh,fun i t h=>?_,fun j i q h=>absurd h (w6 j i q),fun i h=>R.emp (i+n) fun t z=>h t (at_.mpr z),fun i=>R.own (i+n),fun i j a ha hb=>?_,fun i=>R.nd (i+n),?_⟩
 ·obtain⟨v,h1,h2⟩:=R.slot (i+n) t (at_.mp h)
  refine⟨v,?_,h2⟩
  rw [uL (by rw [uh];lia),uh,hn,U0] at h1
  exact h1
 ·have:=R.dis (i+n) (j+n) a ha hb
  lia
 ·rw [uh,Uh,R.len,uf,uh,hn];lia
noncomputable def outT (n:Nat)(tl:Lc):Lc:=tl.filterMap fun i=>if i<n then none else some (i - n)
theorem Wu {n j:Nat}{tl:Lc}(h:j∈tl)(hn:¬ j<n):j - n∈outT n tl:=UW.mpr ⟨j,h,by rw [uy hn]⟩
theorem zbS {n j:Nat}{tl:Lc}(h:j∈outT n tl):j+n∈tl:=by
 obtain⟨i,h1,h2⟩:=UW.mp h
 split at h2
 ·cases h2
 ·cases h2
  rw [Nat.sub_add_cancel (by lia)];exact h1
theorem yT {n:Nat}{A:Lb}{tl:Lc}{b:Addr}(h:Tch (yR n A) tl b):Tch A (outT n tl) b:=by
 obtain⟨j,h1,h2⟩:=h
 by_cases e:j<n
 ·rw [jP e] at h2;cases h2
 ·rw [ji e] at h2
  exact⟨j - n,Wu h1 e,h2⟩
theorem Mv.pop {F H F' H':Hp}{s s':Sl}{A A':Lb}{tl:Lc}{ts:List T}(m:Mv F H (ts.map .own++s) (yR ts.length A) tl F' H' s' A'):Mv F H s A (outT ts.length tl) F' H' ((s'.drop ts.length).map Slot.noAl) (popA ts.length A'):=by
 refine⟨m.sF,fun b o e n=>m.keep b o e fun z=>n (yT z),m.dom,fun b o e=>?_,fun j b hj hb=>?_,fun j hj=>?_⟩
 ·rcases m.frz b o e with z | z | z
  ·exact .inl z
  ·exact .inr (.inl z)
  ·exact .inr (.inr (yT z))
 ·rcases m.cells (j+ts.length) b (zbS hj) hb with z | z
  ·exact .inl z
  ·exact .inr (yT z)
 ·have hj':j+ts.length∉tl:=fun z=>hj (by have:=Wu (n:=ts.length) z (by lia);rwa [U0] at this)
  obtain⟨k1,k2⟩:=m.slot _ hj'
  refine⟨fun t z=>?_,?_⟩
  ·rw [yS,Vt]
   apply k1
   rw [uL (by rw [uh];lia),uh,U0]
   exact z
  ·show A' (j+ts.length)=A j
   rw [k2,ji (by lia),U0]
def lcB (bnd:V->Hp->(List V->Prop)->Prop)(J:It)(tt:TT)(te:TE)(σ:L2.St)(H1:Hp)(Q:VK):Prop:=∀ D,H1 D=none->∃ I:Nat->Nat->List V->Hp->Prop,(∃ m,I 0 m [] (upd H1 D (.lst [])))/\∀ i m ys H',I i m ys H'->H' D=some (.lst ys) /\
 ((J.stop i H'/\Q (.ref D) H')\/(J.go i H'/\∀ v H2,J.yld i H' v H2->bnd v H2 fun us=>tt (us.map some++σ) H2 fun b H3=>
  if b=true then te (us.map some++σ) H3 fun y H4=>H4 D=some (.lst ys)/\ys.length<sizeLine/\∃ m',m' < m/\I (i+1) m' (ys++[y]) (upd H4 D (.lst (ys++[y]))) else ∃ m',m' < m/\I (i+1) m' ys H3))
def zad (W:Wd)(n:Nat)(bnd:V->Hp->(List V->Prop)->Prop):Prop:=∀ (F H:Hp) (d:T) (x:V) (l:Sl) (Q:List V->Prop),Same F H->Tr W F H d x []->Wi n d=some l->(∀ us ts,l=ts.map .own->ts.length=n->TrL W F H ts us []->Q us)->bnd x H Q
structure LcI (W:Wd)(F H F1 H1:Hp)(A A1:Lb)(s s1:Sl)(σ:L2.St)(tl1 tl2:Lc)(D:Addr)(acc:List T)(s':Sl)(ys:List V)(F' H':Hp)(A':Lb)(Bc:Ld):Prop where
 rep:Rep W F' H' s' σ A'
 na:zab s'
 mv:Mv F1 H1 s1 A1 tl2 F' H' s' A'
 cell:H' D=some (.lst ys)
 tr:TrL W F' H' acc ys Bc
 vd:Vd A' F' H' [] (D::Bc)
 nd:(D::Bc).Nodup
 new:∀ b∈D::Bc,H b=none\/Tch A (tl1++tl2) b
theorem zcF {md:Bool}{tl1 rl tl3 tl4 rl4:Lc}{wi:TI}{tt:TT}{te:TE}{elt:Xp}{n:Nat}{k:IK}{its ifs:List Xp}{bnd:V->Hp->(List V->Prop)->Prop}(hi:SI W E tl1 rl wi (fun s Q X=>WEs true its s (fun ts s1=>∃ ds,itT k ts=some ds/\Q ds s1) X))
  (ht:ST W (fun _ _ _ _=>False) tl3 tt (WTb true ifs)) (he:SE W (fun _ _ _ _=>False) tl4 rl4 te (WE false elt)) (hr4:rl4=[]) (hb:zad W n bnd) (dj:∀ j∈rl,j∉outT n (tl4++tl3)):SE W E (tl1++outT n (tl4++tl3)) [] (fun σ H Q=>wi σ H fun J H1=>lcB bnd J tt te σ H1 Q) (WE md (.lc elt n k its ifs)):=by
 subst hr4
 intro F H s σ A Q4 X4 Q R h q x
 refine hi F H s σ A _ X4 _ R h (fun ds s1 J F1 H1 A1 Z p h1 D hD=>?_) (x.sub zb)
 let I:Nat->Nat->List V->Hp->Prop:=fun i m ys H'=>m=ds.length - i/\i<=ds.length/\∃ acc s' F' A' Bc,LcI W F H F1 H1 A A1 s s1 σ tl1 (outT n (tl4++tl3)) D acc s' ys F' H' A' Bc/\xS n (fun s K=>WTb true ifs s K fun _ _=>False) (fun s K=>WE false elt s K fun _ _=>False) (ds.drop i) acc s' Q4
 refine⟨I,⟨ds.length,by lia,uS _,[],s1.map Slot.noAl,F1,A1,[],?_,by simpa using h1⟩,fun i m ys H' hI=>?_⟩
 ·have a:=Al.cell (o:=.lst []) p.rep.fh hD
  exact⟨(a.rep p.rep).noAl,w6,(a.mv (tl:=outT n (tl4++tl3))).noAl,zw,⟨rfl,rfl⟩,a.vd p.rep,a.nd,fun b hb=>.inl (p.mv.none (a.nB b hb).1)⟩
 obtain⟨rfl,hle,acc,s',F',A',Bc,L,hp⟩:=hI
 refine⟨L.cell,?_⟩
 have dis1:=fun i j a=>p.rep.dis i j a
 have kz:Kp Z H1 H':=fun b hb o ho=>L.mv.keep b o ho (p.vd.not dis1 dj b hb)
 have sF:Same F1 H':=L.mv.sF.trans L.rep.fh
 by_cases hlt:i<ds.length
 ·refine .inr ⟨p.it.go i H' hlt sF kz,fun v H2 y=>?_⟩
  obtain⟨d,ed,hd⟩:=p.it.yld i H' v H2 hlt sF kz y
  obtain⟨F2,al,iv⟩:=hd F' L.mv.sF L.rep.fh
  have edr:ds.drop i=d::ds.drop (i+1):=by
   rw [Uq hlt]
   rw [uq hlt] at ed
   cases ed
   rfl
  rw [edr] at hp
  simp only [xS] at hp
  obtain⟨l,el,hp⟩:=hp
  refine hb F2 H2 d v l _ al.fh iv el fun us ts ets hn htr=>?_
  subst ets
  have R2:=(al.rep L.rep).push L.na htr
  have hus:us.length=n:=by rw [htr.len];exact hn
  have stay:∀ {tl s3 F3 H3 A3},(∀ j∈tl,j∈tl4++tl3)->Mv F2 H2 (ts.map .own++s') (yR ts.length A') tl F3 H3 s3 A3->Rep W F3 H3 s3 (us.map some++σ) A3->Rep W F3 H3 ((s3.drop n).map Slot.noAl) σ (popA n A3)/\Mv F1 H1 s1 A1 (outT n (tl4++tl3)) F3 H3 ((s3.drop n).map Slot.noAl) (popA n A3)/\H3 D=some (.lst ys)/\TrL W F3 H3 acc ys Bc/\Vd (popA n A3) F3 H3 [] (D::Bc)/\Vd A3 F3 H3 [] (D::Bc):=fun {tl s3 F3 H3 A3} ht m R3=>by
   have m':=m.mono ht
   have mo:=m'.pop
   rw [hn] at mo
   have d2:Vd (yR ts.length A') F2 H2 [] (D::Bc):=by
    have:=L.vd.mv (fun i j a=>L.rep.dis i j a) (tl:=[]) (fun _ h=>by cases h) (al.mv (s:=s'))
    exact⟨this.fr,this.ob,fun b hb=>(this.at_ b hb).imp (fun z y=>z (zbR y)) fun⟨_,z,_⟩=>by cases z⟩
   have disP:=fun i j a=>R2.dis i j a
   have d3:=d2.mv disP (fun _ h=>by cases h) m'
   have dc:Vd (yR ts.length A') F2 H2 [] Bc:=d2.sub fun b hb=>ug _ hb
   refine⟨R3.pop hus,L.mv.trans' ((al.mv (s:=s') (A:=A')).trans' mo),?_,?_,⟨d3.fr,d3.ob,fun b hb=>(d3.at_ b hb).imp (fun z ⟨j,y⟩=>z ⟨j+n,y⟩) fun⟨_,z,_⟩=>by cases z⟩,d3⟩
   ·exact m'.keep D _ (al.sH _ _ L.cell) (d2.not disP (fun _ h=>by cases h) D ue)
   ·exact dc.trL disP (fun _ h=>by cases h) m' (L.tr.frame al.sF fun b _ y hy=>al.sH _ _ hy)
  have nox:∀ {F H:Hp} {A:Lb} {s:Sl} {σ:L2.St} {tl:Lc},XK4 W (fun _ _ _ _=>False) F H A s σ tl (fun _ _=>False):=fun x s' c d F' H' A' _ z=>z
  refine ht F2 H2 _ _ _ _ _ _ R2 hp (fun b s3 F3 H3 A3 p3 h3=>?_) nox
  obtain⟨R3,m3,c3,t3,v3,w3⟩:=stay (fun j h=>uc _ h) p3.mv p3.rep
  cases b with
  | false=>
   rw [uy (by decide)] at h3 ⊢
   exact⟨ds.length - (i+1),by lia,rfl,by lia,acc,_,F3,_,Bc,⟨R3,w6,m3,c3,t3,v3,L.nd,L.new⟩,h3⟩
  | true=>
   rw [uz rfl] at h3 ⊢
   refine he F3 H3 s3 _ A3 _ _ _ p3.rep h3 (fun t s4 u F4 H4 A4 B4 p4 ⟨hl,h4⟩=>?_) nox
   obtain⟨R4,m4,c4,t4,v4,w4⟩:=stay (tl:=tl3++tl4) (fun j h=>by rcases ud.mp h with z | z;exact uc _ z;exact uj _ z) (p3.mv.trans p4.mv) p4.rep
   refine⟨c4,by rw [t4.len,sizeLine_eq];exact hl,ds.length - (i+1),by lia,rfl,by lia,acc++[t],_,F4,popA n A4,Bc++B4,?_,h4⟩
   have no4:∀ b∈B4,¬ Ow A4 b:=fun b hb=>(p4.vd.at_ b hb).resolve_right fun⟨_,z,_⟩=>by cases z
   have nw4:∀ b∈B4,H3 b=none\/Tch A3 tl4 b:=fun b hb=>p4.new b hb (no4 b hb)
   have ne4:∀ b∈D::Bc,b∉B4:=fun b hb z=>by
    rcases nw4 b z with y | ⟨j,_,y⟩
    ·obtain⟨o,ho⟩:=w3.ob b hb
     rw [ho] at y;cases y
    ·exact(w3.at_ b hb).elim (fun n=>n ⟨j,y⟩) fun⟨_,n,_⟩=>by cases n
   have hDB:D∉Bc++B4:=fun z=>by
    rcases ud.mp z with z | z
    ·exact(uH.mp L.nd).1 z
    ·exact ne4 D ue z
   have hDF:F4 D=none:=v4.fr D ue
   have nD:∀ j,D∉popA n A4 j:=fun j z=>(v4.at_ D ue).elim (fun n=>n ⟨j,z⟩) fun⟨_,n,_⟩=>by cases n
   have sub:∀ b∈D::(Bc++B4),b∈D::Bc\/b∈B4:=fun b hb=>by
    rcases um.mp hb with z | z
    ·exact .inl (by rw [z];exact ue)
    ·exact(ud.mp z).imp (fun y=>ug _ y) id
   have vAll:Vd (popA n A4) F4 H4 [] (D::(Bc++B4)):=⟨fun b hb=>(sub b hb).elim (v4.fr b) (p4.vd.fr b),fun b hb=>(sub b hb).elim (v4.ob b) (p4.vd.ob b),fun b hb=>.inl fun⟨j,z⟩=>(sub b hb).elim (fun y=>(v4.at_ b y).elim (fun n=>n ⟨j,z⟩) fun⟨_,n,_⟩=>by cases n) fun y=>no4 b y ⟨j+n,z⟩⟩
   have fhU:Same F4 (upd H4 D (.lst (ys++[u]))):=fun b o e=>by
    rw [zt (fun z=>by subst z;rw [hDF] at e;cases e)];exact R4.fh _ _ e
   refine⟨R4.ext (fun _ _ h=>h) fhU (fun b ⟨j,hj⟩ y hy=>by rw [zt (fun z:b=D=>nD j (z ▸ hj))];exact hy) (fun b ⟨j,hj⟩=>R4.own j b hj),w6,?_,zw,?_,?_,uH.mpr ⟨hDB,zF (uH.mp L.nd).2 p4.nd fun b hb=>ne4 b (ug _ hb)⟩,fun b hb=>?_⟩
   ·refine⟨m4.sF,fun b o e n'=>?_,fun b o e=>?_,m4.frz,m4.cells,m4.slot⟩
    ·rw [zt (fun z:b=D=>by subst z;rw [hD] at e;cases e)];exact m4.keep b o e n'
    ·by_cases z:b=D
     ·subst z;exact⟨_,zw⟩
     ·rw [zt z];exact m4.dom b o e
   ·rw [ud,UY] at hDB
    exact(t4.upd hDB.1).app (TrL.one (p4.tr.upd hDB.2))
   ·refine⟨vAll.fr,fun b hb=>?_,vAll.at_⟩
    by_cases z:b=D
    ·subst z;exact⟨_,zw⟩
    ·rw [zt z];exact vAll.ob b hb
   ·rcases sub b hb with z | z
    ·exact L.new b z
    ·have key:H1 b=none\/Tch A1 (outT n (tl4++tl3)) b:=by
      rcases nw4 b z with y | ⟨j,y1,y2⟩
      ·exact .inl (m3.none y)
      ·have y3:Tch A3 (tl4++tl3) b:=⟨j,zb j y1,y2⟩
       rcases(p3.mv.mono (tl':=tl4++tl3) zc).ta y3 with w | w
       ·exact .inl (L.mv.none ((al.mv (s:=s') (A:=A') (tl:=[])).none w))
       ·have w2:=yT w
        rw [hn] at w2
        exact L.mv.ta w2
     exact p.mv.newm key
 ·have hi':i=ds.length:=by lia
  subst hi'
  rw [gf] at hp
  simp only [xS] at hp
  exact .inl ⟨p.it.stop H' sF kz,q (.ls acc) s' _ F' H' A' (D::Bc) ⟨L.rep,p.mv.trans L.mv,⟨D,ys,Bc,rfl,L.cell,rfl,L.tr⟩,L.vd,L.nd,fun b hb _=>L.new b hb⟩ hp⟩
theorem zbT:zad W 1 (fun v _ k=>k [v]):=fun F H d x l Q g t e q=>by
 cases e
 exact q [x] [d] rfl rfl (TrL.one t)
end L4
namespace L2
open PySem PySem.Spec PyProof.Rows
noncomputable def renL (xs:Lh)(y:Str):Str:=if y∈xs then Str.ofString "" else y
structure vj (X:Cx)(xs:Lh)(scope:Scope):Prop where
 nd:(xs++X.N.map (renL xs)).Nodup
 kind:scope.kind=.function
 cell:∀ y∈scope.names,y.2≠.cell
 names:∀ y∈scope.names,y.2=.local->scope.names.lookup y.1=some .local
 var:∀ x∈xs,scope.names.lookup x=some .local
 free:∀ y∈scope.names,y.2=.free->X.env.kindOf y.1=some .cell
 out:∀ y∈X.N.map (renL xs),scope.names.lookup y≠some .local
 blank:scope.names.lookup (Str.ofString "")=none
 calm:X.calm=true
noncomputable def blkG (X:Cx)(xs:Lh)(scope:Scope)(cl:List (Str×Addr))(C:Addr)(s3:Shared)(H3:Hp)(fp:Ld):Cx:=
 { X with N:=xs++X.N.map (renL xs),s₀:=s3,H₀:=H3,env:=compEnvC scope cl C X.env,outer:=X.stack,ex:=fp,fn:=fun _=>false,pn:=[],xe:=fun _ _=>False }
section
variable {X:Cx} {elt iter tg:Expr} {xs:Lh} {pos:Pos} {ifs:Lg} {scope:Scope} {wi:TI} {tt:TT} {te:TE} {g:TG} {bnd:V->Hp->(List V->Prop)->Prop}
theorem Wv {pins:List (Addr×Obj)}{σ:St}{H:Hp}{s:Shared}{E:Value->Shared->Prop}{Q:Value->Shared->Prop}{use:Option (Value->Sem Unit)}{QV:VK}(L:vj X xs scope)(I:Inv X pins σ H s)
  (hi:wpAny (model X.prog X.w) X.A (eval iter X.env) (fun v s1=>wpAny (model X.prog X.w) X.A (pyIter v) (PIE X pins σ (tg) (fun J H1=>∀ D,H1 D=none->∃ W:Nat->Nat->List V->Hp->Prop,(∃ m,W 0 m [] (upd H1 D (.lst [])))/\∀ i m ys H',W i m ys H'->H' D=some (.lst ys) /\
 ((J.stop i H'/\QV (.ref D) H')\/(J.go i H'/\∀ v H2,J.yld i H' v H2->bnd v H2 fun us=>tt (us.map some++σ) H2 fun b H3=>
  if b=true then te (us.map some++σ) H3 fun y H4=>H4 D=some (.lst ys)/\ys.length<sizeLine/\∃ m',m' < m/\W (i+1) m' (ys++[y]) (upd H4 D (.lst (ys++[y]))) else ∃ m',m' < m/\W (i+1) m' ys H3)))) E s1) E s)
  (ht:∀ cl C s3 H3 fp,PTs (blkG X xs scope cl C s3 H3 fp) ifs tt) (he:∀ cl C s3 H3 fp,PE (blkG X xs scope cl C s3 H3 fp) elt te)
  (hg:∀ cl C s3 H3 fp,PG (blkG X xs scope cl C s3 H3 fp) tg g) (hb:∀ v H (os:St) (K:List V->Prop),os.length=xs.length->bnd v H K->g v (os++σ) H fun σ' H'=>∃ us,us.length=xs.length/\σ' = us.map some++σ/\H' = H/\K us)
  (hs:∀ x,foldedSetIterable iter X.env x=pure x)
  (fin:∀ (D C:Addr) (H':Hp) (s':Shared) (m:La),Inv X pins σ H' s'->FpOk X pins H' C->s'.heap.Ns C m->QV (.ref D) H'->compPost (model X.prog X.w) X.A E use Q (.ref D) C (.ok .next) s') :
  wpAny (model X.prog X.w) X.A (comprehension (.ListComp elt [⟨tg,iter,ifs,0⟩] scope pos) scope X.env (firstIterPos [⟨tg,iter,ifs,0⟩] pos) (newList []) false (eval iter X.env) use) Q E s:=by
 obtain⟨cl,hcl,cl1,cl2⟩:=Xn (env:=X.env) (scope:=scope) (fun y hy hf=>I.ok.has y.1 (.inl (L.free y hy hf)))
 refine wpAny_comprehension_free (use:=use) rfl hs hcl L.kind L.names (wpAny_mono hi (fun xv s₁ h₁=>wpAny_mono h₁ (fun it s2 h₂=>?_) fun _ _ e=>e) fun _ _ e=>e)
 obtain⟨it,fp,tn,J,H2,rfl,I2,T,st2,f2,hW⟩:=h₂
 have fr2:H2 s2.heap.objs.size=none:=I2.hok.fresh (uu _)
 obtain⟨W,⟨m0,w0⟩,turn⟩:=hW _ fr2
 refine wpAny_newObj_type ?_
 have I3:Inv X pins σ (upd H2 s2.heap.objs.size (.lst [])) { s2 with heap:=s2.heap.push { cls:=.type "list",dict:=none,data:=.seq ([]:Lf).toArray } }:=
  I2.laid (t':=s2.toks) (o:=.lst []) (fun b ob q=>Heap.get?_push_of_some _ q) (uu _) ⟨uS _,[],0,.nil,Heap.get?_push_size _ rfl⟩
 generalize hD:s2.heap.objs.size=D at I3 turn w0 fr2 ⊢
 generalize hH3:upd H2 D (.lst [])=H3 at I3 w0
 generalize hs3:({ s2 with heap:=s2.heap.push { cls:=.type "list",dict:=none,data:=.seq ([]:Lf).toArray } }:Shared)=s3 at I3 ⊢
 have k23:∀ b o,s2.heap.get? b=some o->s3.heap.get? b=some o:=fun b o e=>by rw [← hs3];exact Heap.get?_push_of_some _ e
 have os3:s3.os=s2.os:=by rw [← hs3]
 have fpD:∀ b∈fp,b≠D:=fun b hb z=>by
  obtain⟨o,e,_⟩:=T.obj _ _ st2 b hb
  exact absurd (Heap.lt_size e) (by rw [z,← hD];exact u9 _)
 have f3:∀ b∈fp,FpOk X pins H3 b:=fun b hb=>⟨by rw [← hH3,zt (fpD b hb)];exact(f2 b hb).1,(f2 b hb).2⟩
 have st3:tn 0 s3.heap:=T.keep _ _ _ st2 fun b hb o e=>k23 b o e
 refine wpAny_newFunctionEnv L.cell (fun y hy=>by simp at hy) (fun h₁ hns₁ hsb₁=>?_) L.kind
 generalize hC:s3.heap.objs.size=C at hns₁ hsb₁ ⊢
 have k34:∀ b o,s3.heap.get? b=some o->h₁.get? b=some o:=fun b o e=>hsb₁.extBut b o (by rintro rfl;exact absurd (Heap.lt_size e) (by rw [hC];exact u9 _)) (Heap.get?_push_of_some _ e)
 let X':Cx:=blkG X xs scope cl C s3 H3 fp
 have relab:∀ y,X'.env.scope.names.lookup y=(scope.names.lookup y).map fun k=>if (k == NameKind.free&&X.env.scope.kind == .function&&X.env.kindOf y == some .cell) then NameKind.cell else k:=fun y=>wa y scope.names
 have visC:∀ y,(X'.env.kindOf y=some .cell\/X'.env.kindOf y=some .free)->scope.names.lookup y=some .free:=fun y hy=>by
  have e:=relab y
  have hy:X'.env.scope.names.lookup y=some .cell\/X'.env.scope.names.lookup y=some .free:=hy
  rw [e] at hy
  cases q:scope.names.lookup y with
  | none=>rw [q] at hy;simp at hy
  | some k=>
   rw [q] at hy
   simp only [uT,uw] at hy
   by_cases hf:k=.free
   ·rw [hf]
   ·have hb:(k == NameKind.free)=false:=by simpa using hf
    simp only [hb,gM,Uw,U8] at hy
    rcases hy with rfl | rfl
    ·exact absurd rfl (L.cell _ (u6 q))
    ·exact absurd rfl hf
 have okX':X'.Ok:=by
  refine⟨I3.ok.mod,?_,I3.ok.glob,I3.ok.blt,?_,?_,?_,?_,I3.ok.hd,I3.ok.frames,.inl rfl,?_,?_,?_,?_,?_,?_,?_⟩
  ·show(relabel scope X.env).kind=.function
   exact L.kind
  ·show s3.heap.objs.size<=C
   exact gj hC
  ·exact fun a b c h1 h2=>I3.ok.inj a b c (cl1 a c h1) (cl1 b c h2)
  ·exact fun y hy=>cl2 (y,.free) (u6 (visC y hy)) rfl
  ·exact fun y c hf=>by cases hf
  ·refine fun b hb=>⟨?_,fun y c e z=>(f3 b hb).2.2.2.2.1 y c (cl1 y c e) z⟩
   show b≠C
   intro z
   obtain⟨o,e,_⟩:=T.obj _ _ st3 b hb
   exact absurd (Heap.lt_size e) (by rw [z,← hC];exact u9 _)
  ·exact fun b o e=>I3.bs b o e
  ·exact uW I3.ok.bsz I3.sz
  ·intro b o e hb
   rcases(f3 b hb).2.2.2.1 with z | z
   ·exact I3.ok.noex b o e z
   ·exact absurd (uK (Heap.lt_size e) (uW I3.ok.bsz z)) (u9 _)
  ·intro b hb z
   rcases um.mp (I3.stkSub b z) with e | e
   ·exact(f3 b hb).2.1 e
   ·exact(f3 b hb).2.2.1 e
  ·exact I3.stack
  ·exact I3.stkFree
 have hfreeC:H3 C=none:=I3.hok.fresh (gj hC)
 have I4:Inv X' [] (List.replicate xs.length none++σ) H3 { s3 with heap:=h₁,toks:=s3.toks+([]:List (Str×Value)).length }:=by
  refine⟨okX',rfl,I3.bare,Un.kept k34,⟨_,hns₁,?_⟩,?_,hfreeC,?_,fun p hp=>absurd (show p∈([]:List (Addr×Obj)) from hp) (by simp),I3.hok.kept k34,?_⟩
  ·intro i y v e1 e2 e3
   rcases gn i xs.length with hlt | hge
   ·rw [u5 (by rw [u7];exact hlt),gU,uz hlt] at e2
    cases e2
   ·obtain⟨j,rfl⟩:∃ j,i=xs.length+j:=⟨i - xs.length,by lia⟩
    have e1:(X.N.map (renL xs))[j]? = some y:=by
     have z:(xs++X.N.map (renL xs))[xs.length+j]? = some y:=e1
     rwa [uL (by lia),gW] at z
    have e2:σ[j]? = some (some v):=by
     rwa [uL (by rw [u7];lia),u7,gW] at e2
    have hyN:y∈X.N.map (renL xs):=uR e1
    have hfr:scope.names.lookup y=some .free:=by
     rcases e3 with e3 | e3 | e3
     ·rw [relab y] at e3
      cases q:scope.names.lookup y with
      | none=>rw [q] at e3;simp at e3
      | some k=>
       rw [q] at e3
       simp only [uT,uw] at e3
       by_cases hf:k=.free
       ·rw [hf]
       ·have hb:(k == NameKind.free)=false:=by simpa using hf
        simp only [hb,gM,Uw,U8] at e3
        exact absurd (by rw [q,e3]) (L.out y hyN)
     ·exact visC y (.inl e3)
     ·exact visC y (.inr e3)
    have e1:X.N[j]? = some y:=by
     rw [uD] at e1
     cases q0:X.N[j]? with
     | none=>rw [q0] at e1;cases e1
     | some y0=>
      rw [q0] at e1
      have e1:renL xs y0=y:=uU e1
      unfold renL at e1
      split at e1
      ·rw [← e1,L.blank] at hfr;cases hfr
      ·rw [e1]
    have hkc:=L.free (y,.free) (u6 hfr) rfl
    have hkc:X.env.kindOf y=some .cell:=hkc
    obtain⟨mX,_,hlX⟩:=I3.loc
    obtain⟨u,r,l⟩:=hlX j y v e1 e2 (.inr (.inl hkc))
    refine⟨u,r,?_⟩
    rcases l with⟨l,_⟩ | ⟨_,c,hc,hcell⟩
    ·rw [hkc] at l;cases l
    ·obtain⟨c',hc'⟩:=cl2 (y,.free) (u6 hfr) rfl
     have hc':cl.lookup y=some c':=hc'
     have:=cl1 y c' hc'
     rw [hc] at this
     cases this
     refine .inr ⟨?_,c,hc',?_⟩
     ·rcases e3 with e3 | e3 | e3
      ·rw [relab y,hfr] at e3
       simp only [uT,uw] at e3
       split at e3<;>cases e3
      ·exact .inl e3
      ·exact .inr e3
     ·obtain⟨o,ho,hd⟩:=hcell
      exact⟨o,k34 _ _ ho,hd⟩
  ·intro y c e
   obtain⟨v,o,ho,hd⟩:=I3.cell y c (cl1 y c e)
   exact⟨v,o,k34 _ _ ho,hd⟩
  ·exact fun y c e=>I3.freeC y c (cl1 y c e)
  ·show(List.replicate xs.length none++σ).length=(xs++X.N.map (renL xs)).length
   rw [uf,uf,u7,uh,I3.len]
 have st4:tn 0 h₁:=T.keep _ _ _ st3 fun b hb o e=>k34 b o e
 have stat:∀ {H':Hp},(∀ b∈fp,H' b=none)->∀ b∈fp,FpOk X' [] H' b:=fun hn b hb=>by
  refine⟨hn b hb,(okX'.exf b hb).1,okX'.exfs b hb,.inl hb,(okX'.exf b hb).2,fun p hp=>absurd (show p∈([]:List (Addr×Obj)) from hp) (by simp)⟩
 have loop:∀ s4:Shared,s4={ s3 with heap:=h₁,toks:=s3.toks+([]:List (Str×Value)).length } ->
   codeAny (model X.prog X.w) X.A (.compLoop (.ListComp elt [⟨tg,iter,ifs,0⟩] scope pos) 0 (.ref it) (.ref D) X'.env) (compPost (model X.prog X.w) X.A E use Q (.ref D) C) s4:=by
  rintro s4 rfl
  refine J1 (fun n s'=>∃ i ys os H',os.length=xs.length/\Inv X' [] (os++σ) H' s'/\tn i s'.heap/\(∀ b∈fp,H' b=none)/\W i n ys H') ?_ m0 ⟨0,[],List.replicate xs.length none,H3,u7,I4,st4,fun b hb=>(f3 b hb).1,w0⟩
  rintro n s5 ⟨i,ys,os,H5,hos,I5,st5,fr5,w5⟩
  obtain⟨hD5,turn5⟩:=turn i n ys H5 w5
  rcases turn5 with⟨stop,qn⟩ | ⟨go,step⟩
  ·refine wpAny_mono (T.done X' rfl rfl rfl L.calm i [] s5 (os++σ) H5 (fun _ _=>False) I5 (stat fr5) st5 stop) (fun r s6 h6=>?_) fun _ _ z=>z
   obtain⟨rfl,I6⟩:=h6
   have un6:Un (frs X.stack) fp H3 H5 s3.heap s6.heap:=I6.base
   have IX:Inv X pins σ H5 s6:=I3.call' I6.os un6 I6.hok I6.bare fun b hb=>⟨(f3 b hb).2.2.2.1,(f3 b hb).2.1,(f3 b hb).2.2.2.2.1,(f3 b hb).2.2.2.2.2⟩
   obtain⟨mC,hnC,_⟩:=I6.loc
   exact fin D C H5 s6 mC IX (I3.fpOk (H':=H5) (gj hC) I6.free) hnC qn
  ·refine wpAny_mono (T.item X' rfl rfl rfl L.calm i [] s5 (os++σ) H5 (fun _ _=>False) I5 (stat fr5) st5 go) (fun r s6 h6=>?_) fun _ _ z=>z.elim
   obtain⟨u,rfl,h6⟩:=h6
   refine wpAny_mono h6 (fun _ s6 h6=>?_) fun _ _ z=>z
   obtain⟨v,H6,I6,r6,y6,st6,fr6⟩:=h6
   have I6':=I6.pinned (stat fr6) (T.obj _ _ st6)
   have hv6:=step v H6 y6
   show wpAny (model X'.prog X'.w) X'.A (assign tg X'.env u) _ _ s6
   refine wpAny_mono (Q:=fun _ s7=>∃ us:List V,us.length=xs.length/\Inv X' ([]++kq fp s6.heap) (us.map some++σ) H6 s7/\tt (us.map some++σ) H6 fun b H3=>if b=true then te (us.map some++σ) H3 fun y H4=>H4 D=some (.lst ys)/\ys.length<sizeLine/\∃ m',m' < n/\W (i+1) m' (ys++[y]) (upd H4 D (.lst (ys++[y]))) else ∃ m',m' < n/\W (i+1) m' ys H3) (E:=fun _ _=>False) (wpAny_mono (hg cl C s3 H3 fp _ s6 _ H6 v u _ I6' r6 (hb v H6 os _ hos hv6)) (fun _ s7 h7=>?_) fun _ _ z=>z) (fun _ s7 h7=>?_) fun _ _ z=>z.elim
   ·obtain⟨σ7,H7,I7,us,hl,rfl,rfl,hk⟩:=h7
    exact⟨us,hl,I7,hk⟩
   obtain⟨us,hus,I7,hv6⟩:=h7
   refine wpAny_mono ((ht cl C s3 H3 fp) _ s7 _ H6 _ I7 hv6) (fun b s8 h8=>?_) fun _ _ z=>z.elim
   obtain⟨H8,I8,q8⟩:=h8
   have done:∀ {ys':List V} {H9:Hp} {s9:Shared} {n':Nat},Inv X' ([]++kq fp s6.heap) (us.map some++σ) H9 s9->W (i+1) n' ys' H9->∃ i ys os H',os.length=xs.length/\Inv X' [] (os++σ) H' s9/\tn i s9.heap/\(∀ b∈fp,H' b=none)/\W i n' ys H':=fun {ys' H9 s9 n'} I9 w9=>by
    refine⟨i+1,ys',us.map some,H9,by rw [uh];exact hus,I9.unpinned,T.keep _ _ _ st6 fun b hb o e=>(I9.pin (b,o) (uc _ (uc _ (xl hb e)))).1,fun b hb=>?_,w9⟩
    obtain⟨o,e,d⟩:=T.obj _ _ st6 b hb
    exact(I9.pin (b,o) (uc _ (uc _ (xl hb e)))).2.1
   cases b with
   | false=>
    have q8:∃ m',m' < n/\W (i+1) m' ys H8:=q8
    obtain⟨m',hm,w8⟩:=q8
    exact⟨m',hm,done I8 w8⟩
   | true=>
    have q8:te (us.map some++σ) H8 _:=q8
    refine wpAny_mono ((he cl C s3 H3 fp) _ s8 _ H8 _ I8 q8) (fun yv s9 h9=>?_) fun _ _ z=>z.elim
    obtain⟨y,H9,I9,r9,hD9,hz9,m',hm,w9⟩:=h9
    refine wpAny_mono (QO (X:=X') _ s9 _ H9 (.ref D) [y] (.ref D) [yv] (fun v' H'=>v' = .non/\H' = upd H9 D (.lst (ys++[y]))) I9 rfl (.cons r9 .nil) ⟨D,ys,y,rfl,rfl,hD9,hz9,rfl,rfl⟩) (fun _ s10 h10=>?_) fun _ _ z=>z.elim
    obtain⟨_,H10,I10,_,_,rfl⟩:=h10
    exact⟨m',hm,done I10 w9⟩
 exact codeAny_compStart_list (loop _ rfl) (T.self _ 0 _ _ _ st4 (loop _ rfl))
theorem zae (L:vj X xs scope)(hi:PI X tg iter wi)(ht:∀ cl C s3 H3 fp,PTs (blkG X xs scope cl C s3 H3 fp) ifs tt)(he:∀ cl C s3 H3 fp,PE (blkG X xs scope cl C s3 H3 fp) elt te)
  (hg:∀ cl C s3 H3 fp,PG (blkG X xs scope cl C s3 H3 fp) tg g) (hb:∀ v H (os σ:St) (K:List V->Prop),os.length=xs.length->bnd v H K->g v (os++σ) H fun σ' H'=>∃ us,us.length=xs.length/\σ' = us.map some++σ/\H' = H/\K us)
  (hs:∀ x,foldedSetIterable iter X.env x=pure x):PE X (.ListComp elt [⟨tg,iter,ifs,0⟩] scope pos) (fun σ H Q=>wi σ H fun J H1=>L4.lcB bnd J tt te σ H1 Q):=by
 intro pins s σ H Q I h
 rw [eval_ListComp]
 refine Wv (use:=none) (QV:=Q) L I (hi pins s σ H _ I h) ht he hg (fun v H os K=>hb v H os σ K) hs fun D C H' s' m IX fC hn q=>?_
 refine⟨m,hn,fun h' hs'=>⟨.ref D,H',IX.turned (t':=s'.toks) (fun b o hb e=>hs'.extBut b o hb e) fC.1 fC.2.1 fC.2.2.2.1 fC.2.2.2.2.1 fC.2.2.2.2.2,rfl,q⟩⟩
theorem Yr {i:Nat}{z:Str}{pz spos:Pos}(hN:X.N.Nodup)(hi':X.N[i]? = some z)(hz:Loc X.env.scope z)(L:vj X xs scope)(hi:PI X tg iter wi)(ht:∀ cl C s3 H3 fp,PTs (blkG X xs scope cl C s3 H3 fp) ifs tt)(he:∀ cl C s3 H3 fp,PE (blkG X xs scope cl C s3 H3 fp) elt te)
  (hg:∀ cl C s3 H3 fp,PG (blkG X xs scope cl C s3 H3 fp) tg g) (hb:∀ v H (os σ:St) (K:List V->Prop),os.length=xs.length->bnd v H K->g v (os++σ) H fun σ' H'=>∃ us,us.length=xs.length/\σ' = us.map some++σ/\H' = H/\K us)
  (hs:∀ x,foldedSetIterable iter X.env x=pure x) (hsw:swapsWith (.ListComp elt [⟨tg,iter,ifs,0⟩] scope pos) (some (.Name z pz)) spos.line X.env=pure true)
  (hf:X.fn z=true\/X.env.scope.names.lookup z=some .local):PS X (.Assign [.Name z pz] (.ListComp elt [⟨tg,iter,ifs,0⟩] scope pos) spos) (tAsg (fun σ H Q=>wi σ H fun J H1=>L4.lcB bnd J tt te σ H1 Q) (jv i)):=by
 intro pins s σ H D I h
 rw [exec_Assign_Name_used _ _ _ _ hsw]
 refine wpAny_bind (wpAny_standAt (wpAny_bind ?_))
 show wpAny _ X.A (do let _ ← comprehension (.ListComp elt [⟨tg,iter,ifs,0⟩] scope pos) scope X.env _ (newList []) false (eval iter X.env) (some (assign (.Name z pz) X.env))) _ _ s
 refine wpAny_bind (wpAny_mono (Wv (use:=some (assign (.Name z pz) X.env)) (Q:=fun _ s'=>SP X pins D .next s') (QV:=fun v H'=>D.nx (σ.set i (some v)) H') L I (hi pins s σ H _ I h) ht he hg (fun v H os K=>hb v H os σ K) hs fun D' C H' s' m IX fC hn q=>?_) (fun _ s' hq=>wpAny_pure (wpAny_pure hq)) fun _ _ e=>e)
 show wpAny _ X.A (assign (.Name z pz) X.env (.ref D')) _ _ s'
 refine wpAny_assign_Name (QD IX hN hi' hz (show RelV (.ref D') (.ref D') from rfl) (fun s2 I2 hch=>?_) hf)
 obtain⟨a,sb,ha⟩:=hch
 have hCa:C≠a:=by
  rcases ha with e | e
  ·rw [e];exact fC.2.1
  ·intro z';exact fC.2.2.2.2.1 _ _ e z'.symm
 refine⟨m,hn.sameBut sb hCa,fun h' hs'=>?_⟩
 exact⟨_,H',I2.turned (t':=s2.toks) (fun b o hb e=>hs'.extBut b o hb e) fC.1 fC.2.1 fC.2.2.2.1 fC.2.2.2.2.1 fC.2.2.2.2.2,q⟩
theorem zeb {v:V}{H:Hp}{os σ:St}{K:List V->Prop}(hl:os.length=1)(h:K [v]):jv 0 v (os++σ) H fun σ' H'=>∃ us:List V,us.length=1/\σ' = us.map some++σ/\H' = H/\K us:=by
 match os,hl with
 | [o],_=>exact⟨[v],rfl,rfl,rfl,h⟩
def gN (off:Nat):Nat->TGs
 | 0=>gNil
 | n+1=>Zu (jv off) (gN (off+1) n)
theorem zcG {H:Hp}{σ:St}{Q:St->Hp->Prop}:∀ {n:Nat} {us:List V} {pre os:St},os.length=n->us.length=n->Q (pre++(us.map some++σ)) H->gN pre.length n us (pre++(os++σ)) H Q
 | 0,[],pre,[],_,_,q=>⟨rfl,by simpa using q⟩
 | n+1,u::us,pre,o::os,h1,h2,q=>by
  refine⟨u,us,rfl,?_⟩
  have e:(pre++(o::os++σ)).set pre.length (some u)=(pre++[some u])++(os++σ):=by
   have z:∀ (l:List (Option V)) (r:List (Option V)),(l++o::r).set l.length (some u)=(l++[some u])++r:=fun l r=>by
    rw [List.set_append_right _ _ (uu _),UU]
    simp
   exact z pre (os++σ)
  show gN (pre.length+1) n us ((pre++(o::os++σ)).set pre.length (some u)) H Q
  rw [e,show pre.length+1=(pre++[some u]).length by simp]
  exact zcG (by simpa using h1) (by simpa using h2) (by simpa using q)
 | 0,_::_,_,_,_,h,_=>by cases h
 | 0,[],_,_::_,h,_,_=>by cases h
 | _+1,[],_,_,_,h,_=>by cases h
 | _+1,_::_,_,[],h,_,_=>by cases h
def bndT (K:Le)(n:Nat):V->Hp->(List V->Prop)->Prop:=fun v H k=>∃ pa us,v=.ref pa/\SqT K H pa us/\us.length=n/\k us
theorem zfJ {C:Le}{n:Nat}{v:V}{H:Hp}{os σ:St}{K:List V->Prop}(hl:os.length=n)(h:bndT C n v H K):gTup C n (gN 0 n) v (os++σ) H fun σ' H'=>∃ us:List V,us.length=n/\σ' = us.map some++σ/\H' = H/\K us:=by
 obtain⟨pa,us,rfl,h1,h2,h3⟩:=h
 exact⟨pa,us,rfl,h1,h2,zcG (pre:=[]) hl h2 ⟨us,h2,rfl,rfl,h3⟩⟩
end
end L2
namespace L4
open PySem L2 PySem.Spec PyProof.Rows
variable {W:Wd}
def bndG (K:Le)(tup:Bool)(n:Nat):V->Hp->(List V->Prop)->Prop:=if tup=true then bndT K n else fun v _ k=>k [v]
def gOf (K:Le)(tup:Bool)(n:Nat):TG:=if tup=true then gTup K n (gN 0 n) else jv 0
theorem Vu {tup:Bool}{n:Nat}(h:tup=decide (n≠1)):zad W n (bndG W.K tup n):=by
 subst h
 by_cases hn:n=1
 ·subst hn
  exact zbT
 ·intro F H d x l Q g t e q
  have ht:decide (n≠1)=true:=UG hn
  show(if decide (n≠1)=true then bndT W.K n else fun v _ k=>k [v]) x H Q
  rw [uz ht]
  unfold Wi at e
  rw [uy hn,uO] at e
  obtain⟨xs,e1,e2⟩:=e
  simp only [uC,uw] at e2
  obtain⟨hl,rfl⟩:=e2
  obtain⟨e1,sh⟩:=jO e1
  obtain⟨p,vs,C,rfl,k1,k2,_⟩:=vi t e1
  have k3:=k2.sh sh
  exact⟨p,vs,rfl,SqT.of (g _ _ k1),k3.len.trans hl,q vs xs rfl hl k3⟩
theorem Xy {K:Le}{tup:Bool}{n:Nat}(h:tup=decide (n≠1))(v:V)(H:Hp)(os σ:L2.St)(k:List V->Prop)(hl:os.length=n)(hb:bndG K tup n v H k):gOf K tup n v (os++σ) H fun σ' H'=>∃ us:List V,us.length=n/\σ' = us.map some++σ/\H' = H/\k us:=by
 unfold gOf
 unfold bndG at hb
 cases tup with
 | true=>
  rw [uz rfl] at hb ⊢
  exact zfJ hl hb
 | false=>
  have hn:n=1:=by
   have:=UZ h.symm
   lia
  subst hn
  rw [uy (by decide)] at hb ⊢
  exact zeb hl hb
noncomputable def nms:Lg->Option (Lh)
 | []=>some []
 | e::es=>match e with
  | .Name x _=>(nms es).map (x::·)
  | _=>none
noncomputable def tgN (e:Expr):Option (Bool×Lh):=match e with
 | .Name x _=>some (false,[x])
 | .Tuple es _ _=>(nms es).map fun l=>(true,l)
 | _=>none
theorem Vv {X:Cx}(hN:X.N.Nodup)(hf:∀ x,X.fn x=false):∀ {es:Lg} {xs:Lh} {off:Nat},nms es=some xs->(∀ k x,xs[k]? = some x->X.N[off+k]? = some x)->(∀ x∈xs,X.env.scope.names.lookup x=some .local)->PGs X es (gN off xs.length)/\(assignEach es X.env).length=xs.length/\(assignEach es X.env).findIdx? (·.1)=none
 | [],xs,off,h,_,_=>by
  cases h
  exact⟨X1,rfl,rfl⟩
 | e::es,xs,off,h,hk,hx=>by
  simp only [nms] at h
  split at h
  ·rename_i x p
   rw [uo] at h
   obtain⟨ys,h1,rfl⟩:=h
   obtain⟨p1,p2,p3⟩:=Vv hN hf (off:=off+1) h1 (fun k y hy=>by
    have:=hk (k+1) y (by simpa using hy)
    rwa [show off+(k+1)=off+1+k by lia] at this) fun y hy=>hx y (ug _ hy)
   have hv:=hx x ue
   have hn:PG X (.Name x p) (jv off):=Q9 hN (hk 0 x rfl) (.inl hv) (.inr hv)
   have ac:(assignEach (.Name x p::es) X.env)=(false,assign (.Name x p) X.env)::assignEach es X.env:=rfl
   exact⟨JW hn p1 rfl,by rw [ac,ua,ua,p2],by rw [ac,gB,p3];rfl⟩
  ·cases h
theorem zec {X:Cx}{tg:Expr}{q:Bool×Lh}(hc:X.calm=true)(hN:X.N.Nodup)(hf:∀ x,X.fn x=false)(h:tgN tg=some q)(hk:∀ (k:Nat) x,q.2[k]? = some x->X.N[k]? = some x)(hx:∀ x∈q.2,X.env.scope.names.lookup x=some .local):PG X tg (gOf X.K q.1 q.2.length):=by
 unfold tgN at h
 split at h
 ·rename_i x p
  cases h
  have hv:=hx x ue
  exact Q9 hN (hk 0 x rfl) (.inl hv) (.inr hv)
 ·rename_i es k p
  rw [uo] at h
  obtain⟨ys,h1,rfl⟩:=h
  obtain⟨p1,p2,p3⟩:=Vv hN hf (off:=0) h1 (fun k y hy=>by rw [UT];exact hk k y hy) hx
  exact YG hc p1 p2 p3
 ·cases h
end L4
namespace L4
open PySem L2 PySem.Spec PyProof.Rows
variable {W:Wd} {E:XS}
structure SPo (W:Wd)(as tl:Lc)(F H:Hp)(A:Lb)(s:Sl)(σ:L2.St)(s':Sl)(F' H':Hp)(σ':L2.St)(A':Lb):Prop where
 rep:Rep W F' H' s' σ' A'
 mv:Mv F H s A tl F' H' s' A'
 kp:∀ i,i∉as->σ'[i]? = σ[i]?
 len:σ'.length=σ.length
structure TPo (W:Wd)(as tl:Lc)(F H:Hp)(A:Lb)(s:Sl)(σ:L2.St)(t:T)(s':Sl)(v:V)(F' H':Hp)(σ':L2.St)(A':Lb)(B:Ld):Prop where
 sp:SPo W as tl F H A s σ s' F' H' σ' A'
 tr:Tr W F' H' t v B
 vd:Vd A' F' H' [] B
 nd:B.Nodup
 new:∀ b∈B,H b=none\/Tch A tl b
structure KO (W:Wd)(E:XS)(as tl:Lc)(F H:Hp)(A:Lb)(s:Sl)(σ:L2.St)(D4:Ends)(D:L2.Ends):Prop where
 nx:∀ s' F' H' σ' A',SPo W as tl F H A s σ s' F' H' σ' A'->D4.nx s'->D.nx σ' H'
 rt:∀ t s' v F' H' σ' A' B,TPo W as tl F H A s σ t s' v F' H' σ' A' B->D4.rt t s'->D.rt v H'
 bk:∀ s' F' H' σ' A',SPo W as tl F H A s σ s' F' H' σ' A'->D4.bk s'->D.bk σ' H'
 ct:∀ s' F' H' σ' A',SPo W as tl F H A s σ s' F' H' σ' A'->D4.ct s'->D.ct σ' H'
 ex:∀ x s' c d F' H' σ' A',SPo W as tl F H A s σ s' F' H' σ' A'->IsX W F' x c d->D4.ex x s'->E c d σ' H'
def SS (W:Wd)(E:XS)(n:Nat)(as tl:Lc)(t:TS)(m:Sl->Ends->Prop):Prop:=∀ (F H:Hp) (s:Sl) (σ:L2.St) (A:Lb) (D4:Ends) (D:L2.Ends),Rep W F H s σ A->σ.length=n->m s D4->KO W E as tl F H A s σ D4 D->t D σ H
section
variable {as tl tl':Lc} {F H F1 H1 F2 H2:Hp} {A A1 A2:Lb} {s s1 s2:Sl} {σ σ1 σ2:L2.St} {D4:Ends} {D:L2.Ends}
theorem SPo.trans (a:SPo W as tl F H A s σ s1 F1 H1 σ1 A1)(b:SPo W as tl F1 H1 A1 s1 σ1 s2 F2 H2 σ2 A2):SPo W as tl F H A s σ s2 F2 H2 σ2 A2:=⟨b.rep,a.mv.trans' b.mv,fun i h=>(b.kp i h).trans (a.kp i h),b.len.trans a.len⟩
theorem SPo.refl (R:Rep W F H s σ A):SPo W as tl F H A s σ s F H σ A:=⟨R,Mv.refl,fun _ _=>rfl,rfl⟩
theorem SPo.mono (a:SPo W as tl F H A s σ s1 F1 H1 σ1 A1)(h:∀ j∈tl,j∈tl'):SPo W as tl' F H A s σ s1 F1 H1 σ1 A1:=⟨a.rep,a.mv.mono h,a.kp,a.len⟩
theorem KO.chain (k:KO W E as tl F H A s σ D4 D)(a:SPo W as tl F H A s σ s1 F1 H1 σ1 A1):KO W E as tl F1 H1 A1 s1 σ1 D4 D:=
 ⟨fun s' F' H' σ' A' p=>k.nx s' F' H' σ' A' (a.trans p),fun t s' v F' H' σ' A' B p=>k.rt t s' v F' H' σ' A' B ⟨a.trans p.sp,p.tr,p.vd,p.nd,fun b hb=>by
  rcases p.new b hb with z | z
  ·exact .inl (a.mv.none z)
  ·exact a.mv.ta z⟩,fun s' F' H' σ' A' p=>k.bk s' F' H' σ' A' (a.trans p),fun s' F' H' σ' A' p=>k.ct s' F' H' σ' A' (a.trans p),fun x s' c d F' H' σ' A' p=>k.ex x s' c d F' H' σ' A' (a.trans p)⟩
theorem KO.mono (k:KO W E as tl' F H A s σ D4 D)(h:∀ j∈tl,j∈tl'):KO W E as tl F H A s σ D4 D:=
 ⟨fun s' F' H' σ' A' p=>k.nx s' F' H' σ' A' (p.mono h),fun t s' v F' H' σ' A' B p=>k.rt t s' v F' H' σ' A' B ⟨p.sp.mono h,p.tr,p.vd,p.nd,fun b hb=>(p.new b hb).imp id fun⟨j,h1,h2⟩=>⟨j,h j h1,h2⟩⟩,fun s' F' H' σ' A' p=>k.bk s' F' H' σ' A' (p.mono h),fun s' F' H' σ' A' p=>k.ct s' F' H' σ' A' (p.mono h),fun x s' c d F' H' σ' A' p=>k.ex x s' c d F' H' σ' A' (p.mono h)⟩
theorem KO.xk (k:KO W E as tl F H A s σ D4 D):XK4 W E F H A s σ tl D4.ex:=fun x s' c d F' H' A' p h=>k.ex x s' c d F' H' σ A' ⟨p.rep,p.mv,fun _ _=>rfl,rfl⟩ p.xr h
theorem spo (R:Rep W F1 H1 s1 σ A1)(m:Mv F H s A tl F1 H1 s1 A1):SPo W as tl F H A s σ s1 F1 H1 σ A1:=⟨R,m,fun _ _=>rfl,rfl⟩
end
variable {n:Nat} {as:Lc}
theorem zed {tl:Lc}:SS W E n as tl zck (WSs []):=by
 intro F H s σ A D4 D R hn h K
 exact K.nx s F H σ A (SPo.refl R) h
theorem zbU {tl1 tl2:Lc}{t u:TS}{c:Cm}{cs:List Cm}(h1:SS W E n as tl1 t (WS c))(h2:SS W E n as tl2 u (WSs cs)):SS W E n as (tl1++tl2) (tSeq t u) (WSs (c::cs)):=by
 intro F H s σ A D4 D R hn h K
 have K1:=K.mono (tl:=tl1) zb
 refine h1 F H s σ A _ { D with nx:=u D } R hn h ⟨fun s' F' H' σ' A' p h'=>?_,K1.rt,K1.bk,K1.ct,K1.ex⟩
 exact h2 F' H' s' σ' A' D4 D p.rep (p.len.trans hn) h' ((K.chain (p.mono zb)).mono zc)
theorem zee {tl:Lc}{te:TE}{e:Xp}(he:SE W E tl [] te (WE false e)):SS W E n as tl (tRet te) (WS (.ret e)):=by
 intro F H s σ A D4 D R hn h K
 exact he F H s σ A _ _ _ R h (fun t s' v F' H' A' B p h'=>K.rt t s' v F' H' σ A' B ⟨spo p.rep p.mv,p.tr,p.vd,p.nd,fun b hb=>p.new b hb ((p.vd.at_ b hb).resolve_right fun⟨_,z,_⟩=>by cases z)⟩ h') K.xk
theorem zaf {tl:Lc}{t:TS}:SS W E n as tl t (WS .never):=by
 intro F H s σ A D4 D R hn h K
 exact False.elim h
theorem zfK {tl rl:Lc}{te:TE}{e:Xp}(he:SE W E tl rl te (WE true e)):SS W E n as tl (zcl te) (WS (.ex e)):=by
 intro F H s σ A D4 D R hn h K
 exact he F H s σ A _ _ _ R h (fun t s' v F' H' A' B p h'=>K.nx s' F' H' σ A' (spo p.rep p.mv) h') K.xk
theorem zef {tl1 tl2 tl3:Lc}{tt:TT}{ta tb:TS}{t:Xp}{a b:List Cm}(ht:ST W E tl1 tt (fun s K X=>WE true t s (fun x s1=>∃ z,blO x=some z/\K z s1) X))(ha:SS W E n as tl2 ta (WSs a))(hb:SS W E n as tl3 tb (WSs b)):SS W E n as (tl1++(tl2++tl3)) (tIfS tt ta tb) (WS (.ife t a b)):=by
 intro F H s σ A D4 D R hn h K
 refine ht F H s σ A (fun z s1=>if z=true then WSs a s1 D4 else WSs b s1 D4) D4.ex _ R h (fun z s1 F1 H1 A1 p h1=>?_) (K.xk.sub zb)
 have K1:=K.chain (spo (as:=as) p.rep (p.mv.mono zb))
 cases z with
 | true=>exact ha F1 H1 s1 σ A1 D4 D p.rep hn h1 (K1.mono fun j h=>zc j (zb j h))
 | false=>exact hb F1 H1 s1 σ A1 D4 D p.rep hn h1 (K1.mono fun j h=>zc j (zc j h))
theorem Mv.set {F H F1 H1:Hp}{s s1:Sl}{A A1:Lb}{tl:Lc}{i:Nat}{x:Slot}{B:Ld}(m:Mv F H s A tl F1 H1 s1 A1)(hi:i∈tl)(nw:∀ b∈B,H b=Option.none\/Tch A tl b):Mv F H s A tl F1 H1 (setS s1 i x) (setA A1 i B):=by
 refine⟨m.sF,m.keep,m.dom,m.frz,fun j b hj hb=>?_,fun j hj=>?_⟩
 ·by_cases e:j=i
  ·subst e;rw [zI] at hb;exact nw b hb
  ·rw [zq e] at hb;exact m.cells j b hj hb
 ·have e:j≠i:=fun z=>hj (z ▸ hi)
  exact⟨fun t z=>(wb e).mpr ((m.slot j hj).1 t z),by rw [zq e];exact(m.slot j hj).2⟩
theorem ZQ {σ:L2.St}{as:Lc}{i j:Nat}{x:Option V}(ha:i∈as)(hj:j∉as):(σ.set i x)[j]? = σ[j]?:=uN fun(z:i=j)=>hj (by rw [← z];exact ha)
theorem zag {tl:Lc}{i:Nat}{te:TE}{e:Xp}(hi:i<n)(ha:i∈as)(he:SE W E tl [] te (WE false e)):SS W E n as (tl++[i]) (tAsg te (jv i)) (WS (.asg (.v i) e)):=by
 intro F H s σ A D4 D R hn h K
 refine he F H s σ A _ _ _ R h (fun t s1 v F1 H1 A1 B p h1=>?_) (K.xk.sub zb)
 have hl:i<s1.length:=by rw [p.rep.len,hn];exact hi
 have no:∀ b∈B,¬ Ow A1 b:=fun b hb=>(p.vd.at_ b hb).resolve_right fun⟨_,z,_⟩=>by cases z
 refine K.nx _ F1 H1 _ _ ⟨p.rep.set hl p.tr p.vd p.nd,(p.mv.mono zb).set (zc i (ui.mpr rfl)) fun b hb=>(p.new b hb (no b hb)).imp id fun⟨j,h1,h2⟩=>⟨j,zb j h1,h2⟩,fun j hj=>?_,by rw [uZ]⟩ h1
 exact ZQ ha hj
theorem ZR {F H F1 H1:Hp}{s0:Sl}{A0:Lb}{tl:Lc}:∀ {is:Lc} {ts:List T} {vs:List V} {B:Ld} {s s':Sl} {σ:L2.St} {A:Lb} {Q:L2.St->Hp->Prop},Rep W F1 H1 s σ A->Mv F H s0 A0 tl F1 H1 s A->TrL W F1 H1 ts vs B->Vd A F1 H1 [] B->B.Nodup->(∀ b∈B,H b=none\/Tch A0 tl b)->setN is ts s=some s'->(∀ i∈is,i<σ.length/\i∈tl) ->
  (∀ σ' A',Rep W F1 H1 s' σ' A'->Mv F H s0 A0 tl F1 H1 s' A'->(∀ j,j∉is->σ'[j]? = σ[j]?)->σ'.length=σ.length->Q σ' H1)->(is.foldr (fun i g=>Zu (jv i) g) gNil) vs σ H1 Q
 | [],[],vs,B,s,s',σ,A,Q,R,m,t,d,nd,nw,e,hi,q=>by
  cases e
  exact⟨t.1,q σ A R m (fun _ _=>rfl) rfl⟩
 | [],_::_,vs,B,s,s',σ,A,Q,R,m,t,d,nd,nw,e,hi,q=>by cases e
 | _::_,[],vs,B,s,s',σ,A,Q,R,m,t,d,nd,nw,e,hi,q=>by cases e
 | i::is,t0::ts,vs,B,s,s',σ,A,Q,R,m,⟨v,r,B1,B2,ev,eb,h1,h2⟩,d,nd,nw,e,hi,q=>by
  subst ev eb
  rw [uB] at nd
  obtain⟨hi1,hi2⟩:=hi i ue
  have hl:i<s.length:=by rw [R.len];exact hi1
  have d1:=d.sub (C:=B1) fun b hb=>uj _ hb
  have R1:=R.set hl h1 d1 nd.1
  have m1:=m.set (x:=.own t0) (B:=B1) hi2 fun b hb=>nw b (uj _ hb)
  have d2:Vd (setA A i B1) F1 H1 [] B2:=by
   refine⟨fun b hb=>d.fr b (uc _ hb),fun b hb=>d.ob b (uc _ hb),fun b hb=>.inl fun z=>?_⟩
   rcases vW z with z | ⟨j,_,z⟩
   ·exact nd.2.2 b z b hb rfl
   ·exact(d.at_ b (uc _ hb)).elim (fun y=>y ⟨j,z⟩) fun⟨_,y,_⟩=>by cases y
  refine⟨v,r,rfl,ZR (is:=is) R1 m1 h2 d2 nd.2.1 (fun b hb=>nw b (uc _ hb)) (by simpa only [setN] using e) (fun j hj=>?_) fun σ' A' R' m' k l=>q σ' A' R' m' (fun j hj=>?_) (by rw [l,uZ])⟩
  ·rw [uZ];exact hi j (ug _ hj)
  ·rw [um,UY] at hj
   rw [k j hj.2,uN (Ne.symm hj.1)]
theorem ZS:∀ {is:Lc} {ts:List T} {s s':Sl},setN is ts s=some s'->ts.length=is.length
 | [],[],_,_,_=>rfl
 | _::is,_::ts,_,_,h=>by simp only [setN] at h;simp [ZS h]
 | [],_::_,_,_,h=>by cases h
 | _::_,[],_,_,h=>by cases h
theorem zbV {tl:Lc}{is:Lc}{te:TE}{e:Xp}(hi:∀ i∈is,i<n/\i∈as)(he:SE W E tl [] te (WE false e)):SS W E n as (tl++is) (tAsg te (gTup W.K is.length (is.foldr (fun i g=>Zu (jv i) g) gNil))) (WS (.asg (.tup is) e)):=by
 intro F H s σ A D4 D R hn h K
 refine he F H s σ A _ _ _ R h (fun t s1 v F1 H1 A1 B p ⟨ds,s2,e1,e2,h1⟩=>?_) (K.xk.sub zb)
 have no:∀ b∈B,¬ Ow A1 b:=fun b hb=>(p.vd.at_ b hb).resolve_right fun⟨_,z,_⟩=>by cases z
 obtain⟨p',vs,C,rfl,k1,k2,k3⟩:=vi p.tr e1
 refine⟨p',vs,rfl,SqT.of (p.rep.fh _ _ k1),by rw [k2.len,ZS e2],?_⟩
 refine ZR (tl:=tl++is) p.rep (p.mv.mono zb) k2 (p.vd.sub fun b hb=>k3.subset hb) (k3.nodup p.nd) (fun b hb=>(p.new b (k3.subset hb) (no b (k3.subset hb))).imp id fun⟨j,h1,h2⟩=>⟨j,zb j h1,h2⟩) e2 (fun i h=>⟨by rw [hn];exact(hi i h).1,zc i h⟩) fun σ' A' R' m' k l=>K.nx s2 F1 H1 σ' A' ⟨R',m',fun j hj=>k j fun z=>hj (hi j z).2,l⟩ h1
theorem zah {X:Cx}(hu:X.A.units+64<cLine):PSet X putR:=by
 intro pins s σ H o i v ov iv u Q I ro ri rv h
 rcases h with h | ⟨a,H',rfl,g,q⟩
 ·exact set_list pins s σ H o i v ov iv u Q I ro ri rv h
 ·cases ro
  exact Yh (by lia) I g ri rv fun s' I'=>⟨H',I',q⟩
theorem zeg {tl1 tl2 tl3 rl rl3:Lc}{te to ti:TE}{e p k:Xp}(he:SE W E tl1 [] te (WE false e))(hp:SP W E tl2 rl to (WP p))(hk:SE W E tl3 rl3 ti (WE true k))(dj:∀ j∈rl,j∉tl3):SS W E n as (tl1++(rl++(tl2++tl3))) (tAsg te (gSub to ti putR)) (WS (.asg (.sub p k) e)):=by
 intro F H s σ A D4 D R hn h K
 have x:=K.xk
 refine he F H s σ A _ _ _ R h (fun o s1 v F1 H1 A1 B p1 h1=>?_) (x.sub zb)
 have m1:Mv F H s A (tl1++(rl++(tl2++tl3))) F1 H1 s1 A1:=p1.mv.mono zb
 refine hp F1 H1 s1 σ A1 _ _ _ p1.rep h1 (fun i q s2 v2 F2 H2 A2 p2 h2=>?_) (x.mono m1 fun j h=>zc j (zc j (zb j h)))
 have m2:Mv F H s A (tl1++(rl++(tl2++tl3))) F2 H2 s2 A2:=m1.trans' (p2.mv.mono fun j h=>zc j (zc j (zb j h)))
 refine hk F2 H2 s2 σ A2 _ _ _ p2.rep h2 (fun y s3 u F3 H3 A3 B3 p3 ⟨t,t',e1,e2,h3⟩=>?_) (x.mono m2 fun j h=>zc j (zc j (zc j h)))
 have p4:=p2.step p3.rep p3.mv dj
 obtain⟨r0,w,C,g1,g2,g3,g4,g5⟩:=p4.tr e1
 have dis:=fun i j a=>p1.rep.dis i j a
 have none0:∀ j∈([]:Lc),j∉tl2++tl3:=fun _ h=>by cases h
 have vo:=p1.vd.mv dis none0 p4.mv
 have to3:=p1.vd.tr dis none0 p4.mv p1.tr
 have m3:Mv F H s A (tl1++(rl++(tl2++tl3))) F3 H3 s3 A3:=m1.trans' (p4.mv.mono fun j h=>zc j (zc j h))
 have no:∀ b∈B,¬ Ow A1 b:=fun b hb=>(p1.vd.at_ b hb).resolve_right fun⟨_,z,_⟩=>by cases z
 have nw:∀ b∈B,H b=none\/Tch A (tl1++(rl++(tl2++tl3))) b:=fun b hb=>(p1.new b hb (no b hb)).imp id fun⟨j,h1,h2⟩=>⟨j,zb j h1,h2⟩
 obtain⟨w',v',M,f1,f2,f3,f4,f5,f6,f7⟩:=p3.rep.mut g1 g2 vo
 rw [g3] at f1
 cases f1
 rw [g4] at f2
 cases f2
 refine zdW f3 p3.tr to3 f4 p1.nd f6 e2 fun H4 M' mu=>?_
 obtain⟨A4,R4,d4,a1,a2⟩:=f7 mu
 have hi:i∈tl1++(rl++(tl2++tl3)):=zc i (zb i p2.rt)
 have m4:=m3.mut (s':=putS s3 i q t') hi mu f5 nw a1 a2 fun j e t z=>(z8 g1 e).mpr z
 exact K.nx _ F3 H4 σ A4 (spo R4 m4) h3
theorem zeh {tl1 tl2 rl:Lc}{te to:TE}{e p:Xp}{c:Nat}{f:Str}(hc:Cls W.K (W.cl c))(hna:qk W.K (W.cl c) f)(he:SE W E tl1 [] te (WE false e))(hp:SP W E tl2 rl to (WP p)):SS W E n as (tl1++(rl++tl2)) (sFld W.K to te f) (WS (.asg (.fld p c f) e)):=by
 intro F H s σ A D4 D R hn h K
 have x:=K.xk
 refine he F H s σ A _ _ _ R h (fun o s1 v F1 H1 A1 B p1 h1=>?_) (x.sub zb)
 have m1:Mv F H s A (tl1++(rl++tl2)) F1 H1 s1 A1:=p1.mv.mono zb
 refine hp F1 H1 s1 σ A1 _ _ _ p1.rep h1 (fun i q s2 v2 F2 H2 A2 p2 ⟨t,t',e1,e2,h2⟩=>?_) (x.mono m1 fun j h=>zc j (zc j h))
 obtain⟨r0,w,C,g1,g2,g3,g4,g5⟩:=p2.tr e1
 have dis:=fun i j a=>p1.rep.dis i j a
 have none0:∀ j∈([]:Lc),j∉tl2:=fun _ h=>by cases h
 have vo:=p1.vd.mv dis none0 p2.mv
 have to3:=p1.vd.tr dis none0 p2.mv p1.tr
 have m3:Mv F H s A (tl1++(rl++tl2)) F2 H2 s2 A2:=m1.trans' (p2.mv.mono fun j h=>zc j (zc j h))
 have no:∀ b∈B,¬ Ow A1 b:=fun b hb=>(p1.vd.at_ b hb).resolve_right fun⟨_,z,_⟩=>by cases z
 have nw:∀ b∈B,H b=none\/Tch A (tl1++(rl++tl2)) b:=fun b hb=>(p1.new b hb (no b hb)).imp id fun⟨j,h1,h2⟩=>⟨j,zb j h1,h2⟩
 obtain⟨w',v',M,f1,f2,f3,f4,f5,f6,f7⟩:=p2.rep.mut g1 g2 vo
 rw [g3] at f1
 cases f1
 rw [g4] at f2
 cases f2
 obtain⟨fs,xs,pa,dx,kvs,et,ev,k1,k2,k3,M',mu⟩:=zdX f3 to3 f4 p1.nd f6 e2
 obtain⟨A4,R4,d4,a1,a2⟩:=f7 mu
 have hi:i∈tl1++(rl++tl2):=zc i (zb i p2.rt)
 have m4:=m3.mut (s':=putS s2 i q t') hi mu f5 nw a1 a2 fun j e t z=>(z8 g1 e).mpr z
 exact⟨pa,_,dx,kvs,ev,k1,hc,hna,k3,K.nx _ F2 _ σ A4 (spo R4 m4) h2⟩
theorem zfL {tl rl:Lc}{j:Nat}{te:TE}{e:Xp}(hj:j<n)(ha:j∈as)(he:SP W E tl rl te (WP e)):SS W E n as (tl++[j]) (tAsg te (jv j)) (WS (.asg (.al j) e)):=by
 intro F H s σ A D4 D R hn h K
 refine he F H s σ A _ _ _ R h (fun i p s1 v F1 H1 A1 p1 ⟨ne,h1⟩=>?_) (K.xk.sub zb)
 obtain⟨r,u,w,e1,e2,e3,e4⟩:=p1.at_
 have hl:j<s1.length:=by rw [p1.rep.len,hn];exact hj
 have R1:=p1.rep.setX hl (x:=.no) (v:=some v) (B:=[]) (.inl ⟨rfl,rfl⟩) (fun _ z=>by cases z) (fun _ z=>by cases z) .nil
 have hs1:(setS s1 j .no)[i]? = some (.own r):=(wb (Ne.symm ne)).mpr e1
 have R2:Rep W F1 H1 (setS s1 j (.al i p)) (σ.set j (some v)) (setA A1 j []):=by
  have sne:∀ k,k≠j->(setS s1 j (.al i p))[k]? = (setS s1 j .no)[k]?:=fun k hk=>by rw [jV hk,jV hk]
  refine⟨R1.fh,fun k t z=>?_,fun k i' q z=>?_,fun k z=>?_,R1.own,R1.dis,R1.nd,by rw [xZ,uZ,p1.rep.len]⟩
  ·by_cases ek:k=j
   ·subst ek;rw [jf hl] at z;cases z
   ·rw [sne k ek] at z;exact R1.slot k t z
  ·by_cases ek:k=j
   ·subst ek
    rw [jf hl] at z
    cases z
    exact⟨r,u,w,v,by rw [sne i (Ne.symm ne)];exact hs1,e2,by rw [uN ne];exact e3,by rw [uP (by rw [hn];exact hj)],e4⟩
   ·rw [sne k ek] at z
    obtain⟨t',u',w',v',y1,y2,y3,y4,y5⟩:=R1.al k i' q z
    have:i'≠j:=fun e=>by subst e;rw [jf hl] at y1;cases y1
    exact⟨t',u',w',v',by rw [sne i' this];exact y1,y2,y3,y4,y5⟩
  ·by_cases ek:k=j
   ·subst ek;rw [zI]
   ·refine R1.emp k fun t y=>z t ?_
    rw [sne k ek];exact y
 refine K.nx _ F1 H1 _ _ ⟨R2,(p1.mv.mono zb).set (zc j (ui.mpr rfl)) (fun b hb=>by cases hb),fun k hk=>?_,by rw [uZ]⟩ h1
 exact ZQ ha hk
def augR (op:BO):TIp:=match op with
 | .sub=>ipI fun i j=>i - j
 | _=>ipI fun i j=>i+j
theorem zai {tl rl:Lc}{i:Nat}{op:BO}{te:TE}{e:Xp}(hop:op=.add\/op=.sub)(hi:i<n)(ha:i∈as)(he:SE W E tl rl te (WE true e)):SS W E n as (tl++[i]) (tAug i te (augR op)) (WS (.aug i op e)):=by
 intro F H s σ A D4 D R hn h K
 obtain⟨x,h1,h2⟩:=h
 obtain⟨vx,k1,k2⟩:=R.slot i x h1
 refine⟨vx,k1,he F H s σ A _ _ _ R h2 (fun y s1 v F1 H1 A1 B p ⟨z,e1,ix,iy,h3⟩=>?_) (K.xk.sub zb)⟩
 obtain⟨a,rfl⟩:∃ a,x=.int a:=by cases x<;>first | exact⟨_,rfl⟩ | cases ix
 obtain⟨b,rfl⟩:∃ b,y=.int b:=by cases y<;>first | exact⟨_,rfl⟩ | cases iy
 have hl:i<s1.length:=by rw [p.rep.len,hn];exact hi
 have fin:∀ k:Int,z=.int k->D.nx (σ.set i (some (.int k))) H1:=fun k ez=>by
  subst ez
  refine K.nx _ F1 H1 _ _ ⟨p.rep.set hl vh Vd.nil .nil,(p.mv.mono zb).set (zc i (ui.mpr rfl)) (fun b hb=>by cases hb),fun j hj=>?_,by rw [uZ]⟩ h3
  exact ZQ ha hj
 rcases hop with rfl | rfl
 ·exact⟨a,b,k2.2,p.tr.2,fin _ (by cases e1;rfl)⟩
 ·exact⟨a,b,k2.2,p.tr.2,fin _ (by cases e1;rfl)⟩
end L4
namespace L4
open PySem L2 PySem.Spec PyProof.Rows
variable {W:Wd} {E:XS} {n:Nat}
theorem KO.amono {as as' tl:Lc}{F H:Hp}{A:Lb}{s:Sl}{σ:L2.St}{D4:Ends}{D:L2.Ends}(k:KO W E as' tl F H A s σ D4 D)(h:∀ j∈as,j∈as'):KO W E as tl F H A s σ D4 D:=by
 have up:∀ {s' F' H' σ' A'},SPo W as tl F H A s σ s' F' H' σ' A'->SPo W as' tl F H A s σ s' F' H' σ' A':=fun p=>⟨p.rep,p.mv,fun i hi=>p.kp i fun z=>hi (h i z),p.len⟩
 exact⟨fun s' F' H' σ' A' p=>k.nx s' F' H' σ' A' (up p),fun t s' v F' H' σ' A' B p=>k.rt t s' v F' H' σ' A' B ⟨up p.sp,p.tr,p.vd,p.nd,p.new⟩,fun s' F' H' σ' A' p=>k.bk s' F' H' σ' A' (up p),fun s' F' H' σ' A' p=>k.ct s' F' H' σ' A' (up p),fun x s' c d F' H' σ' A' p=>k.ex x s' c d F' H' σ' A' (up p)⟩
theorem SS.amono {as as' tl:Lc}{t:TS}{m:Sl->Ends->Prop}(h:SS W E n as tl t m)(k:∀ j∈as,j∈as'):SS W E n as' tl t m:=fun F H s σ A D4 D R hn e K=>h F H s σ A D4 D R hn e (K.amono k)
def SB (W:Wd)(n:Nat)(as tl:Lc)(g:TG)(bd:T->Sl->Option Sl):Prop:=∀ (F H:Hp) (s:Sl) (σ:L2.St) (A:Lb) (d:T) (x:V) (s':Sl) (Q:L2.St->Hp->Prop),Rep W F H s σ A->σ.length=n->Tr W F H d x []->bd d s=some s'->(∀ σ' A',SPo W as tl F H A s σ s' F H σ' A'->Q σ' H)->g x σ H Q
theorem sb_v {as:Lc}{i:Nat}(hi:i<n)(ha:i∈as):SB W n as [i] (jv i) (Wj (.v i)):=by
 intro F H s σ A d x s' Q R hn t e q
 cases e
 have hl:i<s.length:=by rw [R.len,hn];exact hi
 exact q _ _ ⟨R.set hl t Vd.nil .nil,Mv.refl.set (ui.mpr rfl) (fun b hb=>by cases hb),fun j hj=>ZQ ha hj,by rw [uZ]⟩
theorem zei {as:Lc}{is:Lc}(hi:∀ i∈is,i<n/\i∈as):SB W n as is (gTup W.K is.length (is.foldr (fun i g=>Zu (jv i) g) gNil)) (Wj (.tup is)):=by
 intro F H s σ A d x s' Q R hn t e q
 have e':(unT d).bind (fun ds=>setN is ds s)=some s':=e
 rw [uO] at e'
 obtain⟨ds,e1,e2⟩:=e'
 obtain⟨p',vs,C,rfl,k1,k2,k3⟩:=vi t e1
 have hC:C=[]:=List.sublist_nil.mp k3
 subst hC
 exact⟨p',vs,rfl,SqT.of (R.fh _ _ k1),by rw [k2.len,ZS e2],ZR (tl:=is) R Mv.refl k2 Vd.nil .nil (fun b hb=>by cases hb) e2 (fun i h=>⟨by rw [hn];exact(hi i h).1,h⟩) fun σ' A' R' m' k l=>q σ' A' ⟨R',m',fun j hj=>k j fun z=>hj (hi j z).2,l⟩⟩
theorem Vw {as:Lc}{tl1 tl2 tl3 rl:Lc}{wi:TI}{g:TG}{tb:TS}{t:Tg}{k:IK}{its:List Xp}{b:List Cm}(hi:SI W E tl1 rl wi (fun s Q X=>WEs true its s (fun ts s1=>∃ ds,itT k ts=some ds/\Q ds s1) X))(hg:SB W n as tl2 g (Wj t))(hb:SS W E n as tl3 tb (WSs b))(dj:∀ j∈rl,j∉tl2++tl3):SS W E n as (tl1++(tl2++tl3)) (tFor wi g tb) (WS (.loop t k its b)):=by
 intro F H s σ A D4 D R hn h K
 refine hi F H s σ A _ _ _ R h (fun ds s1 J F1 H1 A1 Z p h1=>?_) (K.xk.sub zb)
 have K1:=(K.chain (spo (as:=as) p.rep (p.mv.mono zb))).mono (tl:=tl2++tl3) zc
 let I:Nat->Nat->L2.St->Hp->Prop:=fun i m σ' H'=>m=ds.length - i/\i<=ds.length/\∃ s' F' A',SPo W as (tl2++tl3) F1 H1 A1 s1 σ s' F' H' σ' A'/\ve (Wj t) (fun s D=>WSs b s D) D4 (ds.drop i) s'
 refine⟨I,⟨ds.length,by lia,uS _,s1,F1,A1,SPo.refl p.rep,by simpa using h1⟩,fun i m σ' H' hI=>?_⟩
 obtain⟨rfl,hle,s',F',A',q,hp⟩:=hI
 have kz:Kp Z H1 H':=fun c hc o ho=>q.mv.keep c o ho (p.vd.not (fun i j a=>p.rep.dis i j a) dj c hc)
 have sF:Same F1 H':=q.mv.sF.trans q.rep.fh
 by_cases hlt:i<ds.length
 ·refine .inr ⟨p.it.go i H' hlt sF kz,I (i+1) (ds.length - (i+1)),fun σ2 H2 z=>⟨_,by lia,z⟩,fun x H2 y=>?_⟩
  obtain⟨d,ed,hd⟩:=p.it.yld i H' x H2 hlt sF kz y
  obtain⟨F2,al,iv⟩:=hd F' q.mv.sF q.rep.fh
  have edr:ds.drop i=d::ds.drop (i+1):=by
   rw [Uq hlt]
   rw [uq hlt] at ed
   cases ed
   rfl
  rw [edr] at hp
  simp only [ve] at hp
  obtain⟨s2,es,hp⟩:=hp
  have q2:SPo W as (tl2++tl3) F1 H1 A1 s1 σ s' F2 H2 σ' A':=⟨al.rep q.rep,q.mv.trans' al.mv,q.kp,q.len⟩
  refine hg F2 H2 s' σ' A' d x s2 _ q2.rep (q2.len.trans hn) iv es fun σ3 A3 p3=>?_
  have q3:=q2.trans (p3.mono (tl':=tl2++tl3) zb)
  have K3:=(K1.chain q3).mono (tl:=tl3) zc
  refine hb F2 H2 s2 σ3 A3 _ _ q3.rep (q3.len.trans hn) hp ⟨fun s4 F4 H4 σ4 A4 p4 h4=>?_,K3.rt,fun s4 F4 H4 σ4 A4 p4 h4=>K3.nx s4 F4 H4 σ4 A4 p4 h4,fun s4 F4 H4 σ4 A4 p4 h4=>?_,K3.ex⟩
  ·exact⟨rfl,by lia,s4,F4,A4,q3.trans (p4.mono zc),h4⟩
  ·exact⟨rfl,by lia,s4,F4,A4,q3.trans (p4.mono zc),h4⟩
 ·have hi':i=ds.length:=by lia
  subst hi'
  rw [gf] at hp
  simp only [ve] at hp
  exact .inl ⟨p.it.stop H' sF kz,K1.nx s' F' H' σ' A' q hp⟩
theorem zej {as:Lc}{tl1 tl2:Lc}{tc:TT}{tb:TS}{t:Xp}{b:List Cm}(ht:ST W E tl1 tc (fun s K X=>WE true t s (fun x s1=>∃ z,blO x=some z/\K z s1) X))(hb:SS W E n as tl2 tb (WSs b)):SS W E n as (tl1++tl2) (YI tc tb) (WS (.whl t b)):=by
 intro F H s σ A D4 D R hn h K
 obtain⟨m0,h⟩:=h
 let I:Nat->L2.St->Hp->Prop:=fun m σ' H'=>∃ s' F' A',SPo W as (tl1++tl2) F H A s σ s' F' H' σ' A'/\vf (fun s K=>WE true t s (fun x s1=>∃ z,blO x=some z/\K z s1) D4.ex) (fun s D=>WSs b s D) D4 m s'
 refine⟨I,⟨m0,s,F,A,SPo.refl R,h⟩,fun m σ' H' hI=>?_⟩
 obtain⟨s',F',A',q,hp⟩:=hI
 cases m with
 | zero=>simp only [vf] at hp
 | succ m=>
  simp only [vf] at hp
  have K1:=K.chain q
  refine ht F' H' s' σ' A' (fun z s1=>if z=true then WSs b s1 { D4 with nx:=vf _ _ D4 m,ct:=vf _ _ D4 m,bk:=D4.nx } else D4.nx s1) D4.ex _ q.rep hp (fun z s1 F1 H1 A1 p1 h1=>?_) (K1.xk.sub zb)
  have q1:=q.trans (spo (as:=as) p1.rep (p1.mv.mono (tl':=tl1++tl2) zb))
  cases z with
  | false=>exact K.nx s1 F1 H1 σ' A1 q1 h1
  | true=>
   have K2:=(K.chain q1).mono (tl:=tl2) zc
   refine⟨I m,fun σ2 H2 z=>⟨m,Uz m,z⟩,hb F1 H1 s1 σ' A1 _ _ p1.rep (q1.len.trans hn) h1 ⟨fun s4 F4 H4 σ4 A4 p4 h4=>?_,K2.rt,fun s4 F4 H4 σ4 A4 p4 h4=>K2.nx s4 F4 H4 σ4 A4 p4 h4,fun s4 F4 H4 σ4 A4 p4 h4=>?_,K2.ex⟩⟩
   ·exact⟨s4,F4,A4,q1.trans (p4.mono zc),h4⟩
   ·exact⟨s4,F4,A4,q1.trans (p4.mono zc),h4⟩
theorem Xz {F H:Hp}{s:Sl}{σ:L2.St}{A:Lb}{h:Option Nat}{i:Nat}{p:Lc}{t:T}{xs:List T}(R:Rep W F H s σ A)(ha:Vj h i p s)(g:getP s i p=some t)(e:seqK t=some xs):∃ r w v a vs,s[i]? = some (.own r)/\getT r p=some t/\σ[i]? = some (some w)/\vAt H w p=some v/\σ[h.getD i]? = some (some v)/\v=.ref a/\H a=some (if isLs t=true then .lst vs else .tup vs)/\vs.length=xs.length/\∀ k x,xs[k]? = some x->∃ u C,vs[k]? = some u/\Tr W F H x u C/\C.Sublist (A i)/\((kids t).isSome=true->getT r (p++[k])=some x/\vAt H w (p++[k])=some u):=by
 obtain⟨r,e1,e2⟩:=ZO g
 obtain⟨w,k1,k2⟩:=R.slot i r e1
 obtain⟨v,A1,A2,A3,f1,f2,f3,_⟩:=k2.focus R.fh p e2
 have sub2:A2.Sublist (A i):=by rw [f2];exact(UC _ _).trans (UA _ _)
 have hv:σ[h.getD i]? = some (some v):=by
  cases h with
  | none=>
   have hp:p=[]:=ha
   subst hp
   cases f1
   exact k1
  | some k=>
   obtain⟨t',u,w',v',y1,y2,y3,y4,y5⟩:=R.al k i p ha
   rw [k1] at y3
   cases y3
   rw [f1] at y5
   cases y5
   exact y4
 have main:∀ (a:Addr) (vs:List V) (B:Ld) (o:HO),v=.ref a->H a=some o->hk o=some vs->TrL W F H xs vs B->B.Sublist A2->((kids t).isSome=true->kids t=some xs)->vs.length=xs.length/\∀ k x,xs[k]? = some x->∃ u C,vs[k]? = some u/\Tr W F H x u C/\C.Sublist (A i)/\((kids t).isSome=true->getT r (p++[k])=some x/\vAt H w (p++[k])=some u):=fun a vs B o ev ho hh tl sb kd=>by
  refine⟨tl.len,fun k x hx=>?_⟩
  obtain⟨u,B1,B2,B3,g1,g2,g3,_⟩:=tl.get hx
  refine⟨u,B2,g1,g3,?_,fun z=>⟨kF e2 (kd z) hx,Zh p f1 ?_⟩⟩
  ·refine List.Sublist.trans ?_ (sb.trans sub2)
   rw [g2];exact(UC _ _).trans (UA _ _)
  ·subst ev
   simp only [kAt,ho,hh,uJ,g1]
 match t,e,e2,f3,main with
 | .tp ys,e,e2,f3,main=>
  cases e
  obtain⟨a,vs,ev,h1,h2⟩:=f3
  obtain⟨m1,m2⟩:=main _ _ _ _ ev (R.fh _ _ h1) rfl h2 (U1 _) fun _=>rfl
  exact⟨r,w,v,a,vs,e1,e2,k1,f1,hv,ev,R.fh _ _ h1,m1,m2⟩
 | .ls ys,e,e2,f3,main=>
  cases e
  obtain⟨a,vs,B,ev,h1,eb,h2⟩:=f3
  obtain⟨m1,m2⟩:=main _ _ _ _ ev h1 rfl h2 (by rw [eb];exact UJ _ _) fun _=>rfl
  exact⟨r,w,v,a,vs,e1,e2,k1,f1,hv,ev,h1,m1,m2⟩
 | .fz (.tp ys),e,e2,f3,main=>
  cases e
  obtain⟨rfl,a,vs,ev,h1,h2⟩:=f3
  have tl:TrL W F H (ys.map fzi) vs []:=je h2
  obtain⟨m1,m2⟩:=main _ _ _ _ ev (R.fh _ _ h1) rfl tl (U1 _) fun z=>by cases z
  exact⟨r,w,v,a,vs,e1,e2,k1,f1,hv,ev,R.fh _ _ h1,m1,m2⟩
theorem Rep.ali {F H:Hp}{s:Sl}{σ:L2.St}{A:Lb}(R:Rep W F H s σ A){j i:Nat}{p:Lc}{r u:T}{w v:V}(hl:j<s.length)(ne:j≠i)(e1:s[i]? = some (.own r))(e2:getT r p=some u)(e3:σ[i]? = some (some w))(e4:vAt H w p=some v):Rep W F H (setS s j (.al i p)) (σ.set j (some v)) (setA A j []):=by
 have R1:=R.setX hl (x:=.no) (v:=some v) (B:=[]) (.inl ⟨rfl,rfl⟩) (fun _ z=>by cases z) (fun _ z=>by cases z) .nil
 have hs1:(setS s j .no)[i]? = some (.own r):=(wb (Ne.symm ne)).mpr e1
 have sne:∀ k,k≠j->(setS s j (.al i p))[k]? = (setS s j .no)[k]?:=fun k hk=>by rw [jV hk,jV hk]
 refine⟨R1.fh,fun k t z=>?_,fun k i' q z=>?_,fun k z=>?_,R1.own,R1.dis,R1.nd,by rw [xZ,uZ,R.len]⟩
 ·by_cases ek:k=j
  ·subst ek;rw [jf hl] at z;cases z
  ·rw [sne k ek] at z;exact R1.slot k t z
 ·by_cases ek:k=j
  ·subst ek
   rw [jf hl] at z
   cases z
   exact⟨r,u,w,v,by rw [sne i (Ne.symm ne)];exact hs1,e2,by rw [uN ne];exact e3,by rw [uP (by rw [← R.len];exact hl)],e4⟩
  ·rw [sne k ek] at z
   obtain⟨t',u',w',v',y1,y2,y3,y4,y5⟩:=R1.al k i' q z
   have:i'≠j:=fun e=>by subst e;rw [jf hl] at y1;cases y1
   exact⟨t',u',w',v',by rw [sne i' this];exact y1,y2,y3,y4,y5⟩
 ·by_cases ek:k=j
  ·subst ek;rw [zI]
  ·refine R1.emp k fun t y=>z t ?_
   rw [sne k ek];exact y
theorem zaj {as asb tl:Lc}{tb:TS}{j i:Nat}{h:Option Nat}{b:List Cm}(hj:j<n)(hja:j∈as)(hab:∀ k∈asb,k∈as)(hji:j≠i)(hjh:j≠h.getD i)(hib:h.getD i∉asb)(hb:SS W E n asb tl tb (WSs b)):SS W E n as ([j]++tl) (tFor (iAny W.K (tVar (h.getD i))) (jv j) tb) (WS (.loopA j h i b)):=by
 intro F H s σ A D4 D R hn hw K
 obtain⟨p,t,xs,h1,h2,h3,h4⟩:=hw
 obtain⟨r,w,v,a,vs,e1,e2,e3,e4,e5,rfl,e6,e7,e8⟩:=Xz R h1 h2 h3
 refine⟨.ref a,e5,?_⟩
 let J:It:=if isLs t=true then Itl W.K a else Itt W.K a
 let I:Nat->Nat->L2.St->Hp->Prop:=fun k m σ' H'=>m=xs.length - k/\k<=xs.length/\∃ s' F' A',SPo W as ([j]++tl) F H A s σ s' F' H' σ' A'/\σ'[h.getD i]? = some (some (.ref a))/\jh j h i p (isLs t) (fun s D=>WSs b s D) D4 xs.length (xs.length - k) s'
 have body:∃ I:Nat->Nat->L2.St->Hp->Prop,(∃ m,I 0 m σ H)/\∀ i m σ H,I i m σ H->(J.stop i H/\D.nx σ H)\/(J.go i H/\∃ N:L2.St->Hp->Prop,(∀ σ' H',N σ' H'->∃ m',m' < m/\I (i+1) m' σ' H')/\∀ x H',J.yld i H x H'->jv j x σ H' fun σ2 H2=>tb { D with nx:=N,ct:=N,bk:=D.nx } σ2 H2):=by
  refine⟨I,⟨xs.length,by lia,uS _,s,F,A,SPo.refl R,e5,by simpa using h4⟩,fun k m σ' H' hI=>?_⟩
  obtain⟨rfl,hle,s',F',A',q,hv,hp⟩:=hI
  cases em:xs.length - k with
  | zero=>
   rw [em] at hp
   simp only [jh] at hp
   obtain⟨⟨g1,t',ys,g2,g3,g4,g5⟩,hp⟩:=hp
   obtain⟨r',w',v',a',vs',y1,y2,y3,y4,y5,rfl,y6,y7,y8⟩:=Xz q.rep g1 g2 g4
   rw [hv] at y5
   cases y5
   rw [g3] at y6
   refine .inl ⟨?_,K.nx s' F' H' σ' A' q hp⟩
   show J.stop k H'
   show(if isLs t=true then Itl W.K a else Itt W.K a).stop k H'
   cases hil:isLs t with
   | true=>
    rw [uz rfl]
    rw [hil,uz rfl] at y6
    exact⟨vs',SqL.of y6,by lia⟩
   | false=>
    rw [uy (by decide)]
    rw [hil,uy (by decide)] at y6
    exact⟨vs',SqT.of y6,by lia⟩
  | succ m'=>
   rw [em] at hp
   simp only [jh] at hp
   obtain⟨g1,t',ys,x,g2,g3,g4,g5,g6,hp⟩:=hp
   obtain⟨r',w',v',a',vs',y1,y2,y3,y4,y5,rfl,y6,y7,y8⟩:=Xz q.rep g1 g2 g4
   rw [hv] at y5
   cases y5
   rw [g3] at y6
   have ek:xs.length - (m' + 1)=k:=by lia
   rw [ek] at g6 hp
   obtain⟨u,C,z1,z2,z3,z4⟩:=y8 k x g6
   refine .inr ⟨?_,I (k+1) (xs.length - (k+1)),fun σ2 H2 z=>⟨_,by lia,z⟩,fun x' H2 y=>?_⟩
   ·show(if isLs t=true then Itl W.K a else Itt W.K a).go k H'
    cases hil:isLs t with
    | true=>
     rw [uz rfl]
     rw [hil,uz rfl] at y6
     exact⟨vs',u,SqL.of y6,z1⟩
    | false=>
     rw [uy (by decide)]
     rw [hil,uy (by decide)] at y6
     exact⟨vs',u,SqT.of y6,z1⟩
   ·have yy:H2=H'/\x' = u:=by
     have y:(if isLs t=true then Itl W.K a else Itt W.K a).yld k H' x' H2:=y
     cases hil:isLs t with
     | true=>
      rw [hil,uz rfl] at y y6
      obtain⟨rfl,y⟩:=y
      have:=y vs' (SqL.of y6)
      rw [z1] at this
      cases this
      exact⟨rfl,rfl⟩
     | false=>
      rw [hil,uy (by decide)] at y y6
      obtain⟨rfl,y⟩:=y
      have:=y vs' (SqT.of y6)
      rw [z1] at this
      cases this
      exact⟨rfl,rfl⟩
    obtain⟨rfl,rfl⟩:=yy
    have hl:j<s'.length:=by rw [q.rep.len,q.len,hn];exact hj
    have go:∀ {sl:Slot},Rep W F' H2 (setS s' j sl) (σ'.set j (some x')) (setA A' j [])->WSs b (setS s' j sl) { D4 with nx:=jh j h i p (isLs t) (fun s D=>WSs b s D) D4 xs.length m',ct:=jh j h i p (isLs t) (fun s D=>WSs b s D) D4 xs.length m',bk:=D4.nx }->tb { D with nx:=I (k+1) (xs.length - (k+1)),ct:=I (k+1) (xs.length - (k+1)),bk:=D.nx } (σ'.set j (some x')) H2:=fun {sl} R2 hp=>by
     have q2:SPo W as ([j]++tl) F H A s σ (setS s' j sl) F' H2 (σ'.set j (some x')) (setA A' j []):=⟨R2,q.mv.set (zb j (ui.mpr rfl)) (fun b hb=>by cases hb),fun c hc=>(ZQ hja hc).trans (q.kp c hc),by rw [uZ];exact q.len⟩
     have hv2:(σ'.set j (some x'))[h.getD i]? = some (some (.ref a)):=by rw [uN hjh];exact hv
     have K2:=(K.chain q2).mono (tl:=tl) zc
     have st:∀ s4 F4 H4 σ4 A4,SPo W asb tl F' H2 (setA A' j []) (setS s' j sl) (σ'.set j (some x')) s4 F4 H4 σ4 A4->jh j h i p (isLs t) (fun s D=>WSs b s D) D4 xs.length m' s4->I (k+1) (xs.length - (k+1)) σ4 H4:=fun s4 F4 H4 σ4 A4 p4 h4=>by
      refine⟨rfl,by lia,s4,F4,A4,q2.trans ⟨p4.rep,p4.mv.mono zc,fun c hc=>p4.kp c fun z=>hc (hab c z),p4.len⟩,?_,?_⟩
      ·rw [p4.kp _ hib];exact hv2
      ·rw [show xs.length - (k+1)=m' by lia];exact h4
     exact hb F' H2 _ _ _ _ _ R2 (q2.len.trans hn) hp ⟨st,(K2.amono hab).rt,fun s4 F4 H4 σ4 A4 p4 h4=>(K2.amono hab).nx s4 F4 H4 σ4 A4 p4 h4,st,(K2.amono hab).ex⟩
    obtain⟨sl,hsl,hp⟩:=hp
    rcases hsl with⟨hs,rfl⟩ | ⟨hs,rfl⟩
    ·exact go (q.rep.ali hl hji y1 (z4 hs).1 y3 (z4 hs).2) hp
    ·have hC:=vV hs z2
     subst hC
     exact go (q.rep.set hl z2 Vd.nil .nil) hp
 show(∃ a',V.ref a=.ref a'/\_/\_)\/_\/_
 have ei:J=if isLs t=true then Itl W.K a else Itt W.K a:=rfl
 cases hil:isLs t with
 | true=>
  rw [hil,uz rfl] at e6 ei
  rw [ei] at body
  exact .inl ⟨a,rfl,⟨vs,SqL.of e6⟩,body⟩
 | false=>
  rw [hil,uy (by decide)] at e6 ei
  rw [ei] at body
  exact .inr (.inr ⟨a,rfl,⟨vs,SqT.of e6⟩,body⟩)
end L4
namespace L4
open PySem L2 PySem.Spec PyProof.Rows
noncomputable def star:Expr->Bool
 | .Starred _ _=>true
 | _=>false
noncomputable def noSt (es:Lg):Bool:=es.all fun e=>!star e
theorem zf {e:Expr}{es:Lg}{env:Env}(h:star e=false):starEach (e::es) env=(false,eval e env)::starEach es env:=by
 cases e<;>first | rfl | cases h
theorem qh:∀ {es:Lg} {env:Env} {pos:Pos},noSt es=true->(backTo pos (starEach es env)).any (·.1)=false
 | [],env,pos,_=>rfl
 | e::es,env,pos,h=>by
  unfold noSt at h
  rw [Up,ub] at h
  rw [zf (by simpa using h.1)]
  have:=qh (es:=es) (env:=env) (pos:=pos) h.2
  simp only [backTo,uA,Ui,gz] at this ⊢
  exact this
theorem Ww:∀ {es:Lg} {env:Env} {pos:Pos},noSt es=true->(backTo pos (starEach es env)).all (fun x=>!x.1)=true
 | [],env,pos,_=>rfl
 | e::es,env,pos,h=>by
  unfold noSt at h
  rw [Up,ub] at h
  rw [zf (by simpa using h.1)]
  have:=Ww (es:=es) (env:=env) (pos:=pos) h.2
  simp only [backTo,uA,Up,Bool.not_false,gS] at this ⊢
  exact this
theorem yq {es:Lg}{env:Env}{pos:Pos}(h:noSt es=true)(hl:es.length<30):((backTo pos (starEach es env)).all (fun x=>!x.1)&&(backToKw pos (keywordEach [] env)).all (fun x=>x.1.isSome)
   && decide (es.length+([]:List Keyword).length+(if ([]:List Keyword).isEmpty then 0 else 1)<30))=true:=by
 rw [Ww h]
 simp only [gS,ub,uv]
 exact⟨rfl,by simpa using hl⟩
noncomputable def yU:Expr->Bool
 | .Slice _ _ _ _=>false
 | _=>true
theorem Wx {e:Expr}(h:yU e=true):X8 e:=by
 intro o i
 cases e<;>first | rfl | cases h
theorem zL {e:Expr}{es:Lg}(h:noSt (e::es)=true):star e=false/\noSt es=true:=by
 unfold noSt at h
 rw [Up,ub] at h
 exact⟨by simpa using h.1,h.2⟩
noncomputable def z5:Expr->Bool
 | .Call (.Name _ _) [] [] _=>false
 | _=>true
theorem qd {o:Expr}{nm:Str}{env:Env}{wh:Sem Value}(h:z5 o=true):attributeBase o nm env wh=wh:=by
 unfold attributeBase
 split
 ·cases h
 ·rfl
noncomputable def plainT:Expr->Bool
 | .Name _ _=>true
 | .Call _ _ _ _=>true
 | .Subscript _ _ _=>true
 | .Attribute _ _ _=>true
 | .ListComp _ _ _ _=>true
 | .BinOp _ _ _ _=>true
 | _=>false
theorem zbW {e:Expr}{env:Env}(h:plainT e=true):∀ whole,isTrue e env whole=(do let v ← whole;standAt e.pos;holding [v] (truthy v)):=by
 intro wh
 cases e<;>first | rfl | cases h
noncomputable def Vx:Expr->Bool
 | .Set _ _ _=>false
 | _=>true
theorem kI {e:Expr}{env:Env}(h:Vx e=true):∀ x,foldedSetIterable e env x=pure x:=by
 intro x
 cases e<;>first | rfl | cases h
noncomputable def ZT:Expr->Bool
 | .ListComp _ _ _ _=>false
 | .SetComp _ _ _ _=>false
 | .DictComp _ _ _ _ _=>false
 | _=>true
theorem Jo {e:Expr}{tg:Option Expr}{l:Nat}{env:Env}(h:ZT e=true):swapsWith e tg l env=pure false:=by
 cases e<;>first | rfl | cases h
noncomputable def zak:Expr->Bool
 | .Tuple _ _ _=>false
 | _=>true
noncomputable def noTL:Expr->Bool
 | .Tuple _ _ _=>false
 | .List _ _=>false
 | _=>true
theorem zj {P:Prop}(h:false=true):P:=nomatch h
theorem zV {α:Type}{x:α}{P:Prop}(h:none=some x):P:=nomatch h
theorem Ys {tg e:Expr}{env:Env}(h:(noTL tg||zak e)=true):swappedStores [tg] e env=pure none:=by
 cases tg<;>first | exact rfl | (cases e<;>first | exact rfl | cases h)
theorem XA {tg:Expr}{env:Env}(h:star tg=false):(assignEach [tg] env).map (·.2)=[assign tg env]:=by
 cases tg<;>first | rfl | cases h
noncomputable def okN (x:Str):Bool:=!(x == ("__debug__":Str))&&!(x == ("__classdict__":Str))
noncomputable def vis (sc:Scope)(x:Str):Bool:=decide (sc.names.lookup x=some .local)||decide (sc.names.lookup x=some .cell)||decide (sc.names.lookup x=some .free)
noncomputable def glb (sc:Scope)(x:Str):Bool:=decide (sc.names.lookup x=some .globalImplicit)&&okN x
noncomputable def chkC:T->Const->Bool
 | .non,.none=>true
 | .bl b,.bool c=>b == c
 | .int i,.int j=>i == j
 | .str t,.str x=>decide (x=S t)&&decide (t.length<=16777216)
 | _,_=>false
noncomputable def relS (scope sc:Scope):Scope:={ kind:=scope.kind,names:=scope.names.map fun x=>match x with
 | (n,k)=>if (k == NameKind.free&&sc.kind == ScopeKind.function&&sc.names.lookup n == some NameKind.cell)=true then(n,NameKind.cell) else(n,k),isGenerator:=scope.isGenerator,isCoroutine:=scope.isCoroutine,more:=scope.more }
noncomputable def eName:Expr->Option Str
 | .Name x _=>some x
 | _=>none
noncomputable def eCon:Expr->Option (Const×Nat×Pos)
 | .Constant k j p=>some (k,j,p)
 | _=>none
noncomputable def eBin:Expr->Option (Expr×Operator×Expr)
 | .BinOp a o b _=>some (a,o,b)
 | _=>none
noncomputable def eUn:Expr->Option (UnaryOp×Expr)
 | .UnaryOp o a _=>some (o,a)
 | _=>none
noncomputable def eCmp:Expr->Option (Expr×List CmpOp×Lg)
 | .Compare a os bs _=>some (a,os,bs)
 | _=>none
noncomputable def eBo:Expr->Option (BoolOp×Lg)
 | .BoolOp o es _=>some (o,es)
 | _=>none
noncomputable def eIf:Expr->Option (Expr×Expr×Expr)
 | .IfExp t a b _=>some (t,a,b)
 | _=>none
noncomputable def eLst:Expr->Option (Lg)
 | .List es _=>some es
 | _=>none
noncomputable def eTup:Expr->Option (Lg)
 | .Tuple es _ _=>some es
 | _=>none
noncomputable def eSub:Expr->Option (Expr×Expr)
 | .Subscript a b _=>some (a,b)
 | _=>none
noncomputable def eSli:Expr->Option (Option Expr×Option Expr×Option Expr)
 | .Slice a b c _=>some (a,b,c)
 | _=>none
noncomputable def xT:Expr->Option (Expr×Lg×List Keyword×Pos)
 | .Call f es ks p=>some (f,es,ks,p)
 | _=>none
noncomputable def eAtt:Expr->Option (Expr×Str×Pos)
 | .Attribute e x p=>some (e,x,p)
 | _=>none
noncomputable def eLc:Expr->Option (Expr×List Comprehension×Scope)
 | .ListComp e gs sc _=>some (e,gs,sc)
 | _=>none
noncomputable def eD0:Expr->Bool
 | .Dict [] [] _=>true
 | _=>false
theorem ZU {e:Expr}{x:Str}(h:eName e=some x):∃ p,e=.Name x p:=by cases e<;>first | exact zV h | (cases h;exact⟨_,rfl⟩)
theorem zbX {e:Expr}{x:Const×Nat×Pos}(h:eCon e=some x):e=.Constant x.1 x.2.1 x.2.2:=by cases e<;>first | exact zV h | (cases h;rfl)
theorem zbY {e:Expr}{x:Expr×Operator×Expr}(h:eBin e=some x):∃ p,e=.BinOp x.1 x.2.1 x.2.2 p:=by cases e<;>first | exact zV h | (cases h;exact⟨_,rfl⟩)
theorem XB {e:Expr}{x:UnaryOp×Expr}(h:eUn e=some x):∃ p,e=.UnaryOp x.1 x.2 p:=by cases e<;>first | exact zV h | (cases h;exact⟨_,rfl⟩)
theorem Zi {e:Expr}{x:Expr×List CmpOp×Lg}(h:eCmp e=some x):∃ p,e=.Compare x.1 x.2.1 x.2.2 p:=by cases e<;>first | exact zV h | (cases h;exact⟨_,rfl⟩)
theorem zal {e:Expr}{x:BoolOp×Lg}(h:eBo e=some x):∃ p,e=.BoolOp x.1 x.2 p:=by cases e<;>first | exact zV h | (cases h;exact⟨_,rfl⟩)
theorem zek {e:Expr}{x:Expr×Expr×Expr}(h:eIf e=some x):∃ p,e=.IfExp x.1 x.2.1 x.2.2 p:=by cases e<;>first | exact zV h | (cases h;exact⟨_,rfl⟩)
theorem zbZ {e:Expr}{x:Lg}(h:eLst e=some x):∃ p,e=.List x p:=by cases e<;>first | exact zV h | (cases h;exact⟨_,rfl⟩)
theorem Jp {e:Expr}{x:Lg}(h:eTup e=some x):∃ k p,e=.Tuple x k p:=by cases e<;>first | exact zV h | (cases h;exact⟨_,_,rfl⟩)
theorem Zj {e:Expr}{x:Expr×Expr}(h:eSub e=some x):∃ p,e=.Subscript x.1 x.2 p:=by cases e<;>first | exact zV h | (cases h;exact⟨_,rfl⟩)
theorem zb0 {e:Expr}{x:Option Expr×Option Expr×Option Expr}(h:eSli e=some x):∃ p,e=.Slice x.1 x.2.1 x.2.2 p:=by cases e<;>first | exact zV h | (cases h;exact⟨_,rfl⟩)
theorem qC {e:Expr}{x:Expr×Lg×List Keyword×Pos}(h:xT e=some x):e=.Call x.1 x.2.1 x.2.2.1 x.2.2.2:=by cases e<;>first | exact zV h | (cases h;rfl)
theorem xp {e:Expr}{x:Expr×Str×Pos}(h:eAtt e=some x):e=.Attribute x.1 x.2.1 x.2.2:=by cases e<;>first | exact zV h | (cases h;rfl)
theorem zam {e:Expr}{x:Expr×List Comprehension×Scope}(h:eLc e=some x):∃ p,e=.ListComp x.1 x.2.1 x.2.2 p:=by cases e<;>first | exact zV h | (cases h;exact⟨_,rfl⟩)
theorem zd {α:Type}{o:Option α}{f:α->Bool}(h:o.any f=true):∃ x,o=some x/\f x=true:=by
 cases o with
 | none=>cases h
 | some x=>exact⟨x,rfl,h⟩
noncomputable def djs (a b:Lc):Bool:=a.all fun j=>!b.contains j
theorem qN {a b:Lc}(h:djs a b=true):∀ j∈a,j∉b:=fun j hj z=>by
 have:=UM.mp h j hj
 simp [z] at this
variable {W:Wd} {E:XS}
structure OkMt (P:Program)(w:World)(K:Le)(mg:La)(base:Heap)(k:Nat)(C:Addr)(m:Str)(ps:Lh)(sp:Sp):Prop where
 ex:∃ (f:Addr) (fd:FuncData),Cls K C/\Meth K C m f/\Binds K fd ps []/\FnOk P w K mg base (CXE P w) k f fd ps sp
structure OkMk (P:Program)(w:World)(K:Le)(mg:La)(base:Heap)(k:Nat)(C:Addr)(x:Str)(ps:Lh)(sp:Sp):Prop where
 ex:∃ (f:Addr) (fd:FuncData),Mk K C f/\Binds K fd ps []/\mg x=some (.ref C)/\FnOk P w K mg base (CXE P w) k f fd ps sp
def Jq (C:Addr)(sp:Sp)(E:XS)(t:TA):TE:=fun σ H Q=>t σ H fun vs H1=>∀ x dx,H1 x=none->H1 dx=none->dx≠x ->
 sp (.ref x::vs) (upd (upd H1 dx (.own x)) x (.ins C dx [])) (fun v H2=>v=.non/\Q (.ref x) H2) fun c d H'=>E c d σ H'
section
variable {X:Cx} {k j:Nat} {C:Addr} {x m:Str} {ps:Lh} {sp:Sp} {p pos apos:Pos} {e o:Expr} {es:Lg} {to:TE} {t:TA} {c:Nat}
theorem QZ {env:Env}(hb:z5 o=true)(hs:noSt es=true)(hn:es.length<30)(hl:(apos.endLine == pos.line)=true):eval (.Call (.Attribute o m apos) es [] pos) env=(do
   let ov ← eval o env
   standAt apos.atName
   let (f,first) ← holding [ov] (getMethod ov m (do
    let b ← importBound o env
    pure (b.getD true)))
   callWith pos f first (backTo pos (starEach es env)) (backToKw pos (keywordEach [] env))):=by
 show(do
  let ov ← attributeBase o m env (eval o env)
  standAt apos.atName
  methodCall o m apos pos env ov (es.length+([]:List Keyword).length) (backTo pos (starEach es env)) (backToKw pos (keywordEach [] env)))=_
 rw [qd hb]
 have hf:methodCallForm (es.length+([]:List Keyword).length) (backTo pos (starEach es env)) (backToKw pos (keywordEach [] env))=true:=yq hs hn
 unfold methodCall
 rw [hf]
 simp only [calleeOf,methodCallPos,hl,Ul,Bool.not_true,gz,pure_bind]
abbrev tMt (W:Wd)(c:Nat)(m:Str)(sp:Sp)(E:XS)(to:TE)(t:TA):TE:=wL sp E (tCk (ckV W (some (c,m))) to t)
theorem zan (hK:X.K=W.K)(hx:Thr X E)(F:OkMt X.prog X.w X.K X.mg X.base k (W.cl c) m ps sp)(hr:Room j X.A)(hk:k<=j)(ho:PE X o to)(ha:PA X es t)(h0:es=[]->t=tNil)(hb:z5 o=true)(hs:noSt es=true)(hn:es.length<30)(hl:(apos.endLine == pos.line)=true) :
  PE X (.Call (.Attribute o m apos) es [] pos) (tMt W c m sp E to t):=by
 intro pins s σ H Q I h
 obtain⟨f,fd,cl,hm,b,G⟩:=F.ex
 refine PySem.W.methodCall_KW (thn (ho pins s σ H _ I h) fun u s1 ⟨x,H1,I1,rx,⟨a,dx,fs,ex,ea,l⟩,q⟩=>?_) (QZ hb hs hn hl)
 subst ex
 obtain rfl:u=Value.ref a:=rx
 refine Zw I1 ea cl hm l ?_
 cases es with
 | nil=>
  rw [h0 rfl] at q
  exact UB (first:=[.ref a]) I1.kIn hm.kp (Ze (us:=[.ref a]) (vs:=[.ref a]) G (hr.mono hk) b hx I1 (.cons rfl .nil) q)
 | cons e es=>
  obtain⟨s1',s2⟩:=zL hs
  refine UD (first:=[.ref a]) (h₀:=X.base) I.ok.mod.kin hm.kp (thn (ha pos pins s1 σ H1 _ I1 q) fun us s2 ⟨vs,H2,I2,r,q2⟩=>⟨I2.kIn,?_⟩) (zf s1') (qh s2)
  exact Ze (us:=.ref a::us) (vs:=.ref a::vs) G (hr.mono hk) b hx I2 (.cons rfl r) q2
theorem Vy {f:Addr}{fd:FuncData}{pins:List (Addr×Obj)}{σ:L2.St}{H:Hp}{s:Shared}{Q:VK}{us:Lf}{vs:List V}(F:FnOk X.prog X.w X.K X.mg X.base (CXE X.prog X.w) k f fd ps sp)(hr:Room k X.A)(hb:Binds X.K fd ps [])(I:Inv X pins σ H s)(r:Vals vs us)(h:sp vs H Q fun _ _ _=>False):wpAny (model X.prog X.w) X.A (call (.ref f) us) (EP X pins σ Q) X.xe s:=by
 have:=Xk (dvs:=[]) (ds:=[]) (E:=E0) F hr hb .nil Kc I r (by rw [ux];exact h)
 exact this
theorem zao (hK:X.K=W.K)(F:OkMt X.prog X.w X.K X.mg X.base k (W.cl c) m ps sp)(hr:Room j X.A)(hk:k<=j)(ho:PE X o to)(ha:PA X es t)(h0:es=[]->t=tNil)(hb:z5 o=true)(hs:noSt es=true)(hn:es.length<30)(hl:(apos.endLine == pos.line)=true) :
  PE X (.Call (.Attribute o m apos) es [] pos) (tMt W c m sp (fun _ _ _ _=>False) to t):=by
 intro pins s σ H Q I h
 obtain⟨f,fd,cl,hm,b,G⟩:=F.ex
 refine PySem.W.methodCall_KW (thn (ho pins s σ H _ I h) fun u s1 ⟨x,H1,I1,rx,⟨a,dx,fs,ex,ea,l⟩,q⟩=>?_) (QZ hb hs hn hl)
 subst ex
 obtain rfl:u=Value.ref a:=rx
 refine Zw I1 ea cl hm l ?_
 cases es with
 | nil=>
  rw [h0 rfl] at q
  exact UB (first:=[.ref a]) I1.kIn hm.kp (Vy (us:=[.ref a]) (vs:=[.ref a]) G (hr.mono hk) b I1 (.cons rfl .nil) q)
 | cons e es=>
  obtain⟨s1',s2⟩:=zL hs
  refine UD (first:=[.ref a]) (h₀:=X.base) I.ok.mod.kin hm.kp (thn (ha pos pins s1 σ H1 _ I1 q) fun us s2 ⟨vs,H2,I2,r,q2⟩=>⟨I2.kIn,?_⟩) (zf s1') (qh s2)
  exact Vy (us:=.ref a::us) (vs:=.ref a::vs) G (hr.mono hk) b I2 (.cons rfl r) q2
theorem Q0 {f:Addr}{fd:FuncData}{pins:List (Addr×Obj)}{σ:L2.St}{H:Hp}{s:Shared}{Q:VK}{us:Lf}{vs:List V}(M:Mk X.K C f)(F:FnOk X.prog X.w X.K X.mg X.base (CXE X.prog X.w) k f fd ps sp)(hr:Room (k+1) X.A)(hb:Binds X.K fd ps [])
  (hx:Thr X E\/E=fun _ _ _ _=>False) (I:Inv X pins σ H s) (r:Vals vs us)
  (h:∀ x dx,H x=none->H dx=none->dx≠x->sp (.ref x::vs) (upd (upd H dx (.own x)) x (.ins C dx [])) (fun v H2=>v=.non/\Q (.ref x) H2) fun c d H'=>E c d σ H') :
  wpAny (model X.prog X.w) X.A (call (.ref C) us) (EP X pins σ Q) X.xe s:=by
 have hq:=h (s.heap.objs.size+1) s.heap.objs.size (I.hok.fresh (UO _)) (I.hok.fresh (uu _)) (Ud (Uz _))
 have I2:=Inv.made (C:=C) I
 have r2:Vals (V.ref (s.heap.objs.size+1)::vs) (Value.ref (s.heap.objs.size+1)::us):=.cons rfl r
 have hl:(Value.ref (s.heap.objs.size+1)::us++[]).length=ps.length:=by
  have e:=r2.length
  rw [F.len _ _ _ _ hq] at e
  rw [ux]
  exact e.symm
 have hb':=hb _ (Value.ref (s.heap.objs.size+1)::us) I2.kIn hl
 rw [ux] at hb'
 refine wpAny_call (YR (f:=f) I.kIn M.makes M.init (gA.mp M.fn) (codeAny_mono (F.run _ X.stack _ _ ⟨Value.ref (s.heap.objs.size+1)::us,[]⟩ (Value.ref (s.heap.objs.size+1)::us) _ _ _ (hr.make C us [])
  (I2.env0.make C us []) hb' r2 hq) fun r s' hq'=>?_))
 cases r with
 | error e=>
  rcases hx with hx | hx
  ·exact hx e s' (Vb I2 hq')
  ·subst hx
   obtain⟨_,_,_,_,_,_,_,_,_,_,_,_,_,_,_,z⟩:=hq'
   exact z.elim
 | ok fl=>
  cases fl with
  | ret u=>
   obtain⟨v,H',I3,rv,ev,q3⟩:=I2.after hq'
   subst ev
   exact⟨rv,⟨V.ref (s.heap.objs.size+1),H',I3,rfl,q3⟩⟩
  | next=>exact False.elim hq'
  | brk=>exact False.elim hq'
  | cont=>exact False.elim hq'
theorem zap (hx:Thr X E\/E=fun _ _ _ _=>False)(F:OkMk X.prog X.w X.K X.mg X.base k C x ps sp)(hr:Room j X.A)(hk:k+1<=j)(ha:PA X es t)(h0:es=[]->t=tNil)(hs:noSt es=true)(hg:Gl X x)(hdb:(x == ("__debug__":Str))=false):PE X (.Call (.Name x p) es [] pos) (Jq C sp E t):=by
 intro pins s σ H Q I h
 obtain⟨f,fd,M,b,m,G⟩:=F.ex
 refine wpAny_Call_Name_kw (xj I hg m ?_ hdb)
 cases es with
 | nil=>
  rw [h0 rfl] at h
  exact UB I.kIn M.kp (Q0 (us:=[]) M G (hr.mono hk) b hx I .nil h)
 | cons e es=>
  obtain⟨s1',s2⟩:=zL hs
  refine UD (h₀:=X.base) I.ok.mod.kin M.kp (thn (ha pos pins s σ H _ I h) fun us s1 ⟨vs,H1,I1,r,q⟩=>⟨I1.kIn,?_⟩) (zf s1') (qh s2)
  exact Q0 M G (hr.mono hk) b hx I1 r q
end
theorem zaq {c:Nat}{tl pl:Lc}{ms:List Md}{ta:TA}{f:Fn}{m:Sl->(List T->List (Nat×Lc)->Sl->Prop)->XP->Prop}(hm:SM W E tl [] pl ms ta m)(np:pl.Nodup):SE W E (pl++tl) [] (Jq (W.cl c) (SpM W (.mu::ms) f) E ta) (fun s Q X=>m s (fun ts ps s1=>f (.ob c [] []::ts) (fun r ts'=>r=.non/\∃ o os',ts' = o::os'/\Q o (putBack ms ps os' s1)) fun x ts'=>X x (putBack ms ps ts'.tail s1)) X):=by
 intro F H s σ A Q4 X4 Q R h q x
 refine hm F H s σ A _ X4 _ R h (fun ts ps s1 vs F1 H1 A1 Z M p sp h1=>?_) (x.sub zc)
 obtain⟨l,B,b1,b2,b3,b4,b5⟩:=back p sp np
 intro a dx n1 n2 ne
 generalize hH2:upd (upd H1 dx (.own a)) a (.ins (W.cl c) dx [])=H2
 have at_a:H2 a=some (.ins (W.cl c) dx []):=by rw [← hH2];exact zw
 have keep:∀ b o,H1 b=some o->H2 b=some o:=fun b o e=>by
  rw [← hH2,zt (fun z:b=a=>by rw [z,n1] at e;cases e),zt (fun z:b=dx=>by rw [z,n2] at e;cases e)]
  exact e
 have less:∀ b,H2 b=none->H1 b=none:=fun b e=>by
  cases z:H1 b with
  | none=>rfl
  | some o=>rw [keep b o z] at e;cases e
 have aB:a∉B:=fun z=>by obtain⟨y,hy⟩:=b2.cell a z;rw [n1] at hy;cases hy
 have Fa:adds F1 H1 Z a=none:=by
  cases z:adds F1 H1 Z a with
  | none=>rfl
  | some o=>rw [b1 _ _ z] at n1;cases n1
 have fp':∀ {ts':List T} {F' H':Hp} {C:Ld},FPo W (adds F1 H1 Z) H2 (a::B) (.mu::ms) (.ref a::vs) ts' F' H' C->∃ o os' C1 C2,ts' = o::os'/\C=C1++C2/\Tr W F' H' o (.ref a) C1/\FPo W (adds F1 H1 Z) H1 B ms vs os' F' H' C2:=fun {ts' F' H' C} fp=>by
  cases ts' with
  | nil=>exact absurd fp.len (by simp)
  | cons o os'=>
   obtain⟨v,r,C1,C2,e1,e2,e3,e4⟩:=fp.back
   cases e1
   refine⟨o,os',C1,C2,rfl,e2,e3,fp.sF,fp.fh,fun b y e n=>fp.keep b y (keep b y e) fun z=>?_,fun b y e=>fp.dom b y (keep b y e),fun b y e=>?_,by simpa using fp.len,e4⟩
   ·rcases um.mp z with z | z
    ·rw [z,n1] at e;cases e
    ·exact n z
   ·rcases fp.frz b y e with z | z | z
    ·exact .inl z
    ·exact .inr (.inl (less b z))
    ·rcases um.mp z with z | z
     ·rw [z];exact .inr (.inl n1)
     ·exact .inr (.inr z)
 have nw':∀ b,H2 b=none\/b∈a::B->H1 b=none\/b∈B:=fun b z=>by
  rcases z with z | z
  ·exact .inl (less b z)
  ·rcases um.mp z with z | z
   ·rw [z];exact .inl n1
   ·exact .inr z
 refine⟨by simp [l],_,.ob c [] []::ts,a::B,_,_,fun b o e=>keep b o (b1 b o e),⟨.ref a,vs,[a],B,rfl,rfl,⟨a,dx,[],[],rfl,at_a,rfl,rfl,rfl,rfl⟩,b2.frame (fun _ _ h=>h) fun b hb o e=>keep b o e⟩,uH.mpr ⟨aB,b3⟩,fun b hb=>?_,h1,fun r ts' v F' H' C Br fp tr nf nd nw h2=>?_,fun ex ts' cc d F' H' C fp xr nf nd nw h2=>?_⟩
 ·rcases um.mp hb with z | z
  ·rw [z];exact Fa
  ·exact b4 b z
 ·obtain⟨rfl,o,os',rfl,h2⟩:=h2
  obtain⟨o',os2,C1,C2,e1,rfl,tr1,fp2⟩:=fp' fp
  cases e1
  obtain⟨rfl,rfl⟩:=tr
  rw [ux] at nf nd nw
  have nd':=uB.mp nd
  obtain⟨A',cp⟩:=b5 (Br:=C1) fp2 (fun b hb=>nf b (by rcases ud.mp hb with z | z<;>simp [z])) (zF nd'.2.1 nd'.1 fun b hb z=>nd'.2.2 b z b hb rfl) (fun b hb=>nw' b (nw b (by rcases ud.mp hb with z | z<;>simp [z])))
  exact⟨rfl,q o _ (.ref a) F' H' A' C1 ⟨cp.rep,cp.mv,tr1,⟨fun b hb=>nf b (uj _ hb),tr1.cell,fun b hb=>.inl (cp.at_ b hb)⟩,nd'.1,fun b hb _=>cp.new b hb⟩ h2⟩
 ·obtain⟨o',os2,C1,C2,rfl,rfl,tr1,fp2⟩:=fp' fp
  obtain⟨A',cp⟩:=b5 (Br:=[]) fp2 (fun b hb=>nf b (by simp at hb;simp [hb])) (by rw [ux];exact(uB.mp nd).2.1) (fun b hb=>nw' b (nw b (by simp at hb;simp [hb])))
  exact x ex _ cc d F' H' A' ⟨cp.rep,cp.mv,xr⟩ h2
end L4
namespace L4
open PySem L2 PySem.Spec PyProof.Rows
variable {W:Wd} {E:XS}
theorem zfM {md:Bool}{tl rl:Lc}{te:TE}{e:Xp}(he:SP W E tl rl te (WP e)):SE W E (rl++tl) [] te (WE md (.fp e)):=by
 intro F H s σ A Q4 X4 Q R h q x
 refine he F H s σ A _ X4 _ R h (fun i p s1 v F1 H1 A1 p1 h1=>?_) (x.sub zc)
 obtain⟨t,e1,h2⟩:=h1
 obtain⟨r,w,C,g1,g2,g3,g4,g5⟩:=p1.tr e1
 obtain⟨w',v',B1,B2,d1,d2,d3,d4,d5,d6,d7⟩:=p1.rep.detach g1 g2
 rw [g3] at d1
 cases d1
 rw [g4] at d2
 cases d2
 have R2:=d7.adds d6
 have iv:=d6.frozen d4
 obtain⟨C',R3,hC⟩:=R2.attach (ql (p:=p) (t:=.hol v) g1) (wZ p g2) (kC (H:=H1) iv) Vd.nil .nil
 rw [kG g1 g2] at R3
 have m:Mv F H s A (rl++tl) F1 H1 s1 A1:=p1.mv.mono zc
 have hi:i∈rl++tl:=zb i p1.rt
 have m2:=m.adds d6.fr fun b hb=>m.cells i b hi ((d3 b).mpr (.inr hb))
 refine q (fzn t) _ v _ H1 _ [] ⟨R3,⟨m2.sF,m2.keep,m2.dom,m2.frz,fun j b hj hb=>?_,fun j hj=>?_⟩,kC iv,Vd.nil,.nil,fun b hb=>by cases hb⟩ h2
 ·by_cases z:j=i
  ·subst z
   rw [zI] at hb
   have:=(hC b).mp hb
   rw [zI] at this
   rcases this with y | y
   ·exact m.cells j b hj ((d3 b).mpr (.inl y))
   ·cases y
  ·rw [zq z,zq z] at hb
   exact m.cells j b hj hb
 ·have z:j≠i:=fun z=>hj (z ▸ hi)
  obtain⟨k1,k2⟩:=m.slot j hj
  exact⟨fun t' e'=>(z8 g1 z).mpr (k1 t' e'),by rw [zq z,zq z,k2]⟩
theorem zel {md:Bool}{tl:Lc}{te:TE}{e:Xp}(he:SE W E tl [] te (WE false e)):SE W E tl [] (tCB (biR W.K .tuple) (j9 te tNil)) (WE md (.tpl e)):=by
 intro F H s σ A Q4 X4 Q R h q x
 refine he F H s σ A _ X4 _ R h (fun t s1 v F1 H1 A1 B p ⟨xs,ex,h1⟩=>?_) x
 subst ex
 have tr:=p.tr
 obtain⟨a,vs,B0,rfl,k1,rfl,k2⟩:=tr
 refine⟨a,vs,rfl,.inl ⟨SqL.of k1,fun l hl=>?_⟩⟩
 have al:=Al.froz (o:=.tup vs) p.rep.fh hl
 have nd:=uH.mp p.nd
 have k3:TrL W (upd F1 l (.tup vs)) (upd H1 l (.tup vs)) xs vs B0:=k2.frame al.sF fun b hb y hy=>al.sH b y hy
 refine q (.tp xs) s1 (.ref l) _ _ A1 B0 ⟨al.rep p.rep,p.mv.trans' al.mv,⟨l,vs,rfl,zw,k3⟩,⟨fun b hb=>?_,k3.cell,fun b hb=>p.vd.at_ b (ug _ hb)⟩,nd.2,fun b hb=>p.new b (ug _ hb)⟩ h1
 rw [zt (fun z:b=l=>by obtain⟨y,hy⟩:=k2.cell b hb;rw [z,hl] at hy;cases hy)]
 exact p.vd.fr b (ug _ hb)
end L4
namespace L4
open PySem L2 PySem.Spec PyProof.Rows
variable {W:Wd} {E:XS}
def DTr (W:Wd):List (Lc×T)->List (Key×V)->Prop
 | [],kvs=>kvs=[]
 | p::d,kvs=>∃ v r,kvs=(.inr (S p.1),v)::r/\(∀ F H:Hp,Tr W F H p.2 v [])/\DTr W d r
def KGet (W:Wd)(w:World)(mg:La)(x:Str)(d:List (Lc×T)):Prop:=∃ a kvs,mg x=some (.ref a)/\Wa w W.K a kvs/\DTr W d kvs
def zar (kvs:List (Key×V))(t:TA):TE:=fun σ H Q=>t σ H fun vs H1=>∃ k z,vs=[kV k,z]/\Q ((valV kvs k).getD z) H1
theorem zas {X:Cx}{x:Str}{p apos cpos:Pos}{e f:Expr}{t:TA}{kvs:List (Key×V)}(hm:∃ a,X.mg x=some (.ref a)/\Wa X.w X.K a kvs)(ha:PA X [e,f] t)(hg:Gl X x)(hd:(x == ("__debug__":Str))=false)(hs:noSt [e,f]=true)
  (hl:(apos.endLine == cpos.line)=true):PE X (.Call (.Attribute (.Name x p) "get" apos) [e,f] [] cpos) (zar kvs t):=by
 intro pins s σ H Q I h
 obtain⟨a,hm,D⟩:=hm
 refine wpAny_Call_method (qd rfl) (yq hs (by simp)) hl PySem.F.plainAttrs_dict PySem.F.slot_dict_get PySem.F.type_dict_get (xj I hg hm ?_ hd)
 obtain⟨h0,vs,rel,dd⟩:=D.at I
 refine⟨dd.typeIs,fun b q=>?_,?_⟩
 ·cases q
  obtain⟨ob,_,_,h1,h2,_⟩:=dd
  exact⟨ob,h1,h2.2.1⟩
 have hA:=ha cpos pins s σ H _ I h
 obtain⟨s1,s2⟩:=zL hs
 rw [zf s1] at hA ⊢
 refine Calls.callWith_builtin (by show(false||(backTo cpos (starEach [f] X.env)).any (·.1))=false;rw [qh s2]<;>rfl) (Calls.evalArgs_plain ?_)
 refine thn hA fun us s2 ⟨xs,H2,I2,r,k,z,ex,q2⟩=>?_
 subst ex
 obtain⟨u1,u2,rfl,r1,r2⟩:=vals2 r
 obtain⟨_,vs2,rel2,dd2⟩:=D.at I2
 refine call_meetsIn PySem.F.slot_dict_get dd2.typeIs PySem.F.entry_dict_get (PySem.F.args_dict_get_3 _ _ _) (meets_dict_get_default (zU X.prog X.w) a (J8 r1) h0 u2) ⟨_,dd2.mapOf,_,H2,I2.tok _,?_,q2⟩
 exact(rel2.val k).getD r2
theorem zfN {l m:Lc}(h:S l=S m):l=m:=by
 have:(S l).cps.toList=(S m).cps.toList:=by rw [h]
 simpa [S] using this
theorem Vz {t:Lc}{w:T}{z:V}{F H:Hp}{B:Ld}(hw:Tr W F H w z B):∀ {d:List (Lc×T)} {kvs:List (Key×V)},DTr W d kvs->∃ B',Tr W F H (kgO d t w) ((valV kvs (.inr (S t))).getD z) B'/\(B' = B\/B' = [])
 | [],kvs,h=>by
  simp only [DTr] at h
  subst h
  exact⟨B,hw,.inl rfl⟩
 | p::d,kvs,⟨v,r,e,h1,h2⟩=>by
  subst e
  simp only [kgO]
  split
  ·rename_i z
   rw [yL (by rw [z])]
   exact⟨[],h1 F H,.inr rfl⟩
  ·rename_i z
   rw [yM (fun y=>z (zfN (Sum.inr.inj y)))]
   exact Vz hw h2
theorem zb1 {md:Bool}{tl:Lc}{t:TA}{x:Str}{d:List (Lc×T)}{es:List Xp}{kvs:List (Key×V)}(hd:DTr W d kvs)(ha:SA W E tl [] t (WEs false es)):SE W E tl [] (zar kvs t) (WE md (.kget x d es)):=by
 intro F H s σ A Q4 X4 Q R h q x
 refine ha F H s σ A _ X4 _ R h (fun ts s1 vs F1 H1 A1 B p h1=>?_) x
 obtain⟨y,w,t,rfl,e1,h1⟩:=h1
 obtain⟨v1,r1,B1,B2,rfl,rfl,t1,v2,r2,B3,B4,rfl,rfl,t2,rfl,rfl⟩:=p.tr
 have ey:y=.str t:=by
  cases y<;>first | (cases e1;rfl) | cases e1
 subst ey
 obtain⟨rfl,rfl,_⟩:=t1
 rw [gq,ux] at p
 obtain⟨B',tr,hB⟩:=Vz (t:=t) t2 hd
 have nd:=p.nd rfl
 have hs:∀ b∈B',b∈B3:=fun b hb=>by
  rcases hB with rfl | rfl
  ·exact hb
  ·cases hb
 refine⟨.inr (S t),v2,rfl,q _ s1 _ F1 H1 A1 B' ⟨p.rep,p.mv,tr,⟨fun b hb=>p.vd.fr b (hs b hb),fun b hb=>p.vd.ob b (hs b hb),fun b hb=>p.vd.at_ b (hs b hb)⟩,?_,fun b hb=>p.new b (hs b hb)⟩ h1⟩
 rcases hB with rfl | rfl
 ·exact nd
 ·exact .nil
structure IsCl (W:Wd)(mg:La)(x:Str)(c:Nat):Prop where
 m:mg x=some (.ref (W.cl c))
 cl:Cls W.K (W.cl c)
 ha:PySem.W.findIn W.K (.ref (W.cl c)) "__class__" = some (some (.builtin "object.__class__"))
 hn:PySem.W.specialIn W.K (.builtin "object.__class__") "__get__" = some (some (.builtin "getset_descriptor.__get__"))
 htk:PySem.W.takesIn W.K (.builtin "object.__class__")=some true
 hm:PySem.W.mroIn W.K (W.cl c) (.type "object")=some true
 kit:PySem.W.kitOne W.K (.ref (W.cl c)) (.ref (W.cl c))=some true
def rIsC (K:Le)(C:Addr):List V->Hp->VK->Prop:=fun xs H Q=>∃ x,xs=[x,.ref C]/\TyOf K H x (.ref C)/\Q (.bl true) H
theorem zat {X:Cx}{mg:La}{x:Str}{c:Nat}(hK:X.K=W.K)(i:IsCl W mg x c):jc X (.builtin "isinstance") (rIsC W.K (W.cl c)):=by
 intro pins s σ H xs us Q I r h
 obtain⟨x,rfl,ty,q⟩:=h
 obtain⟨u1,u2,rfl,r1,r2⟩:=vals2 r
 obtain rfl:u2=Value.ref (W.cl c):=r2
 exact QF I r1 (by rw [hK];exact ty) (by rw [hK];exact i.kit) fun tk=>⟨.bl true,H,I.tok _,rfl,q⟩
theorem zem {mg:La}{md:Bool}{tl rl:Lc}{ta:TE}{a:Xp}{x:Str}{c:Nat}(i:IsCl W mg x c)(ha:SE W E tl rl ta (WE true a)):SE W E tl [] (tCB (rIsC W.K (W.cl c)) (j9 ta (j9 (tC (.ref (W.cl c))) tNil))) (WE md (.isc a x c)):=by
 intro F H s σ A Q4 X4 Q R h q x
 refine ha F H s σ A _ X4 _ R h (fun t s1 v F1 H1 A1 B p ⟨o,e1,e2,h1⟩=>?_) x
 have hn:=p.tr.now p.rep.fh
 refine⟨v,rfl,?_,q _ s1 _ F1 H1 A1 [] (EPo.al p.mv p.rep (Al.refl p.rep.fh) yd) h1⟩
 subst e2
 have:∃ b dx kvs,v=.ref b/\H1 b=some (.ins (W.cl o.1) dx kvs):=by
  unfold obV at e1
  split at e1
  ·cases e1
   obtain⟨b,dx,kvs,e,h2,_⟩:=hn
   exact⟨b,dx,kvs,e,h2⟩
  ·cases e1
   obtain⟨b,dx,kvs,e,h2,_⟩:=hn
   exact⟨b,dx,kvs,e,h2⟩
  ·cases e1
 obtain⟨b,dx,kvs,rfl,h2⟩:=this
 exact .ins h2 i.cl i.ha i.hn i.htk i.hm
end L4
namespace L4
open PySem L2 PySem.Spec PyProof.Rows
noncomputable def one? {α:Type}:List α->Option α
 | [a]=>some a
 | _=>none
noncomputable def two? {α:Type}:List α->Option (α×α)
 | [a,b]=>some (a,b)
 | _=>none
theorem ZV {α:Type}{l:List α}{a:α}(h:one? l=some a):l=[a]:=by
 match l,h with
 | [_],h=>cases h;rfl
theorem Jr {α:Type}{l:List α}{a:α×α}(h:two? l=some a):l=[a.1,a.2]:=by
 match l,h with
 | [_,_],h=>cases h;rfl
noncomputable def meN:ME->Str
 | .join=>"join"
 | .get2=>"get"
 | .split=>"split"
 | .find=>"find"
noncomputable def muN:MU->Str
 | .append=>"append"
 | .pop=>"pop"
 | .insert=>"insert"
 | .popI=>"pop"
noncomputable def muAr:MU->Nat
 | .append=>1
 | .popI=>1
 | _=>0
noncomputable def chkV (N:Lh)(sc:Scope)(i:Nat)(e:Expr):Bool:=(eName e).any fun x=>decide (N[i]? = some x)&&vis sc x&&okN x
noncomputable def xa (sc:Scope)(x:Str)(e:Expr):Bool:=(eName e).any fun y=>decide (y=x)&&glb sc y
noncomputable def zfO (sc:Scope):List TyK->Lg->Bool
 | [],es=>es.isEmpty
 | k::ks,es=>match es with
  | e::es=>xa sc (tyN k) e&&zfO sc ks es
  | []=>false
def djL:List Xp->Bool
 | []=>true
 | e::es=>djs (root e) (zu es)&&djL es
def plM:List Md->List Xp->Lc
 | .mu::ms,c::cs=>root c++plM ms cs
 | _::ms,_::cs=>plM ms cs
 | _,_=>[]
noncomputable def gen? (gs:List Comprehension):Option (Expr×Expr×Lg):=match gs with
 | [⟨t,i,fs,0⟩]=>some (t,i,fs)
 | _=>none
theorem zau {gs:List Comprehension}{x:Expr×Expr×Lg}(h:gen? gs=some x):gs=[⟨x.1,x.2.1,x.2.2,0⟩]:=by
 unfold gen? at h
 split at h
 ·cases h;rfl
 ·cases h
noncomputable def lcG (N:Lh)(sc scope:Scope)(xs:Lh):Bool:=
 decide ((xs++N.map (renL xs)).Nodup)&&decide (scope.kind=.function)&&decide (∀ y∈scope.names,y.2≠.cell)&&decide (∀ y∈scope.names,y.2=.local->scope.names.lookup y.1=some .local)&&decide (∀ x∈xs,scope.names.lookup x=some .local)
  && decide (∀ y∈scope.names,y.2=.free->sc.names.lookup y.1=some .cell)&&decide (∀ y∈N.map (renL xs),scope.names.lookup y≠some .local)&&decide (scope.names.lookup (Str.ofString "")=none)
noncomputable def ikN:IK->Str
 | .seq=>""
 | .rng=>"range"
 | .enumS=>"enumerate"
def roots:List Xp->Lc
 | []=>[]
 | e::es=>root e++roots es
noncomputable def ZW (e:Expr):Bool:=(eTup e).isSome
mutual
noncomputable def chkE (N:Lh)(sc:Scope)(cm:Bool):Xp->Expr->Bool
 | .b i=>fun e=>chkV N sc i e
 | .a j _=>fun e=>chkV N sc j e
 | .v i=>fun e=>chkV N sc i e
 | .m i=>fun e=>chkV N sc i e
 | .c t=>fun e=>(eCon e).any fun k=>chkC t k.1
 | .g x _=>fun e=>xa sc x e
 | .frz a=>fun e=>chkE N sc cm a e
 | .fp a=>fun e=>chkP N sc cm a e
 | .bin op a b=>fun e=>(eBin e).any fun p=>decide (p.2.1=binC op)&&djs (root a) (zp b)&&chkE N sc cm a p.1&&chkE N sc cm b p.2.2
 | .neg a=>fun e=>(eUn e).any fun p=>decide (p.1=.USub)&&chkE N sc cm a p.2
 | .cmp op a b=>fun e=>(eCmp e).any fun p=>decide (p.2.1=[cmpC op])&&(one? p.2.2).any fun eb=>!behindInMarks (cmpC op) eb&&djs (root a) (zp b)&&chkE N sc cm a p.1&&chkE N sc cm b eb
 | .chn o1 o2 a b c=>fun e=>(eCmp e).any fun p=>decide (p.2.1=[cmpC o1,cmpC o2])&&(two? p.2.2).any fun q=>!lastMarks [cmpC o1,cmpC o2] [q.1,q.2]&&chkE N sc cm a p.1&&chkE N sc cm b q.1&&chkE N sc cm c q.2
 | .bo k es=>fun e=>(eBo e).any fun p=>decide (p.1=if k then .And else .Or)&&!es.isEmpty&&qD N sc cm es p.2
 | .not a=>fun e=>(eUn e).any fun p=>decide (p.1=.Not)&&chkE N sc cm a p.2
 | .t _=>fun _=>false
 | .tn _=>fun _=>false
 | .tb _ _=>fun _=>false
 | .ife t a b=>fun e=>(eIf e).any fun p=>chkT N sc cm t p.1&&chkE N sc cm a p.2.1&&chkE N sc cm b p.2.2
 | .lst es=>fun e=>(eLst e).any fun p=>noSt p&&qD N sc cm es p
 | .tup es=>fun e=>(eTup e).any fun p=>noSt p&&qD N sc cm es p
 | .dct es=>fun e=>es.isEmpty&&eD0 e
 | .ix a k=>fun e=>(eSub e).any fun p=>yU p.2&&djs (root a) (zp k)&&chkE N sc cm a p.1&&chkE N sc cm k p.2
 | .sl a lo hi=>fun e=>(eSub e).any fun p=>(eSli p.2).any fun q=>q.2.2.isNone&&djs (root a) (zu lo++zu hi)&&chkE N sc cm a p.1&&chkO N sc cm lo q.1&&chkO N sc cm hi q.2.1
 | .at a _ f=>fun e=>(eAtt e).any fun p=>decide (p.2.1=f)&&z5 p.1&&chkE N sc cm a p.1
 | .call x ms ln _ es=>fun e=>(xT e).any fun p=>xa sc x p.1&&p.2.2.1.isEmpty&&noSt p.2.1&&(if ln then ms.all (· = .fz) else decide (plM ms es).Nodup)&&chkA N sc cm ln ms es p.2.1
 | .meth _ x ms ln _ es=>fun e=>(xT e).any fun p=>(eAtt p.1).any fun q=>decide (q.2.1=x)&&z5 q.1&&(q.2.2.endLine == p.2.2.2.line)&&p.2.2.1.isEmpty&&noSt p.2.1&&decide (p.2.1.length<30)&&(if ln then ms.all (· = .fz) else decide (plM ms es).Nodup)&&chkA N sc cm ln ms es (q.1::p.2.1)
 | .make _ x ms _ es=>fun e=>(xT e).any fun p=>xa sc x p.1&&p.2.2.1.isEmpty&&noSt p.2.1&&decide (plM ms es).Nodup&&chkA N sc cm false ms es p.2.1
 | .bi b es=>fun e=>(xT e).any fun p=>xa sc (biN b) p.1&&p.2.2.1.isEmpty&&noSt p.2.1&&cm&&!es.isEmpty&&djL es&&qD N sc cm es p.2.1
 | .isi a ks=>fun e=>(xT e).any fun p=>xa sc "isinstance" p.1&&p.2.2.1.isEmpty&&(two? p.2.1).any fun q=>!star q.1&&chkE N sc cm a q.1&&(one? ks).any (fun k=>xa sc (tyN k) q.2)
 | .me m o es=>fun e=>(xT e).any fun p=>(eAtt p.1).any fun q=>decide (q.2.1=meN m)&&z5 q.1&&(q.2.2.endLine == p.2.2.2.line)&&p.2.2.1.isEmpty&&noSt p.2.1&&decide (p.2.1.length<30)&&decide (m≠.get2)&&!es.isEmpty&&djL es&&chkE N sc cm o q.1&&qD N sc cm es p.2.1
 | .mu m o es=>fun e=>(xT e).any fun p=>(eAtt p.1).any fun q=>decide (q.2.1=muN m)&&z5 q.1&&(q.2.2.endLine == p.2.2.2.line)&&p.2.2.1.isEmpty&&noSt p.2.1&&decide (p.2.1.length=muAr m)&&decide (m≠.insert)&&djs (root o) (zu es)&&chkP N sc cm o q.1&&qD N sc cm es p.2.1
 | .tpl a=>fun e=>(xT e).any fun p=>xa sc "tuple" p.1&&p.2.2.1.isEmpty&&noSt p.2.1&&cm&&(one? p.2.1).any fun e0=>chkE N sc cm a e0
 | .kget x _ es=>fun e=>(xT e).any fun p=>(eAtt p.1).any fun q=>decide (q.2.1=("get":Str))&&xa sc x q.1&&(q.2.2.endLine == p.2.2.2.line)&&p.2.2.1.isEmpty&&noSt p.2.1&&decide (p.2.1.length=2)&&qD N sc cm es p.2.1
 | .isc a x _=>fun e=>(xT e).any fun p=>xa sc "isinstance" p.1&&p.2.2.1.isEmpty&&(two? p.2.1).any fun q=>!star q.1&&chkE N sc cm a q.1&&xa sc x q.2
 | .lc elt n k its ifs=>fun e=>(eLc e).any fun p=>(gen? p.2.1).any fun g=>cm&&Vx g.2.1&&decide (g.2.2.length<=1)&&chkI N sc cm k its g.2.1 (ZW g.1)&&djs (roots its) (outT n (zp elt++zu ifs)) &&
   (tgN g.1).any fun q=>decide (q.2.length=n)&&decide (q.1=decide (n≠1))&&lcG N sc p.2.2 q.2&&chkE (q.2++N.map (renL q.2)) (relS p.2.2 sc) true elt p.1&&xb (q.2++N.map (renL q.2)) (relS p.2.2 sc) true ifs g.2.2
noncomputable def qD (N:Lh)(sc:Scope)(cm:Bool):List Xp->Lg->Bool
 | [],es=>es.isEmpty
 | c::cs,es=>match es with
  | e::es=>chkE N sc cm c e&&qD N sc cm cs es
  | []=>false
noncomputable def chkA (N:Lh)(sc:Scope)(cm ln:Bool):List Md->List Xp->Lg->Bool
 | ms,[],es=>ms.isEmpty&&es.isEmpty
 | ms,c::cs,es=>(ms.head?.any fun m=>es.head?.any fun e=>if m=.mu then chkP N sc cm c e&&djs (root c) (zS ms.tail cs) else chkE N sc cm c e&&(m == .mv||!ln||djs (root c) (zS ms.tail cs)))&&chkA N sc cm ln ms.tail cs es.tail
noncomputable def chkP (N:Lh)(sc:Scope)(cm:Bool):Xp->Expr->Bool
 | .b i,e=>chkV N sc i e
 | .a j _,e=>chkV N sc j e
 | .ix a k,e=>(eSub e).any fun p=>yU p.2&&djs (root a) (zp k)&&chkP N sc cm a p.1&&chkE N sc cm k p.2
 | .at a _ f,e=>(eAtt e).any fun p=>decide (p.2.1=f)&&z5 p.1&&chkP N sc cm a p.1
 | _,_=>false
noncomputable def chkO (N:Lh)(sc:Scope)(cm:Bool):List Xp->Option Expr->Bool
 | [],e=>e.isNone
 | c::cs,e=>cs.isEmpty&&e.any fun e=>chkE N sc cm c e
noncomputable def chkT (N:Lh)(sc:Scope)(cm:Bool):Xp->Expr->Bool
 | .t a,e=>plainT e&&chkE N sc cm a e
 | .tn a,e=>(eUn e).any fun p=>decide (p.1=.Not)&&chkT N sc cm a p.2
 | .tb k es,e=>(eBo e).any fun p=>decide (p.1=if k then .And else .Or)&&!es.isEmpty&&xb N sc cm es p.2
 | .cmp op a b,e=>(eCmp e).any fun p=>decide (p.2.1=[cmpC op])&&(one? p.2.2).any fun eb=>!behindInMarks (cmpC op) eb&&djs (root a) (zp b)&&chkE N sc cm a p.1&&chkE N sc cm b eb
 | .chn o1 o2 a b c,e=>(eCmp e).any fun p=>decide (p.2.1=[cmpC o1,cmpC o2])&&(two? p.2.2).any fun q=>!lastMarks [cmpC o1,cmpC o2] [q.1,q.2]&&chkE N sc cm a p.1&&chkE N sc cm b q.1&&chkE N sc cm c q.2
 | _,_=>false
noncomputable def xb (N:Lh)(sc:Scope)(cm:Bool):List Xp->Lg->Bool
 | [],es=>es.isEmpty
 | c::cs,es=>match es with
  | e::es=>chkT N sc cm c e&&xb N sc cm cs es
  | []=>false
noncomputable def chkI (N:Lh)(sc:Scope)(cm:Bool):IK->List Xp->Expr->Bool->Bool
 | _,[],_,_=>false
 | k,c::cs,e,tup=>if k=.seq then cs.isEmpty&&chkE N sc cm c e else(tup||decide (k=.rng))&&(xT e).any fun p=>xa sc (ikN k) p.1&&p.2.2.1.isEmpty&&noSt p.2.1&&djL (c::cs)&&decide (cs.length<=1)&&(decide (k=.rng)||cs.isEmpty) &&
   (p.2.1.head?.any fun e1=>chkE N sc cm c e1&&qD N sc cm cs p.2.1.tail)
end
structure Env4 where
 F:Str->List Md->Fn->Prop
 G:Str->T->Prop
 B:Str->Prop
 A:Nat->Str->Prop
 M:Nat->Str->List Md->Fn->Prop
 C:Nat->Str->List Md->Fn->Prop
 w:World
 D:Str->List (Lc×T)->Prop
 I:Str->Nat->Prop
mutual
noncomputable def Need (Γ:Env4):Xp->Prop
 | .g x t=>Γ.G x t
 | .frz a=>Need Γ a
 | .fp a=>Need Γ a
 | .bin _ a b=>Need Γ a/\Need Γ b
 | .neg a=>Need Γ a
 | .cmp _ a b=>Need Γ a/\Need Γ b
 | .chn _ _ a b c=>Need Γ a/\Need Γ b/\Need Γ c
 | .bo _ es=>qx Γ es
 | .not a=>Need Γ a
 | .t a=>Need Γ a
 | .tn a=>Need Γ a
 | .tb _ es=>qx Γ es
 | .ife t a b=>Need Γ t/\Need Γ a/\Need Γ b
 | .lst es=>qx Γ es
 | .tup es=>qx Γ es
 | .dct es=>qx Γ es
 | .ix a k=>Need Γ a/\Need Γ k
 | .sl a lo hi=>Need Γ a/\qx Γ lo/\qx Γ hi
 | .at a c f=>Need Γ a/\Γ.A c f
 | .call x ms _ f es=>Γ.F x ms f/\qx Γ es
 | .meth c x ms _ f es=>Γ.M c x ms f/\qx Γ es
 | .make c x ms f es=>Γ.C c x ms f/\qx Γ es
 | .bi b es=>Γ.B (biN b)/\qx Γ es
 | .isi a ks=>Γ.B "isinstance"/\Need Γ a/\∀ k∈ks,Γ.B (tyN k)
 | .me _ o es=>Need Γ o/\qx Γ es
 | .mu _ o es=>Need Γ o/\qx Γ es
 | .tpl a=>Γ.B "tuple"/\Need Γ a
 | .kget x d es=>Γ.D x d/\qx Γ es
 | .isc a x c=>Γ.B "isinstance"/\Γ.I x c/\Need Γ a
 | .lc elt _ k its ifs=>Need Γ elt/\(k≠.seq->Γ.B (ikN k))/\qx Γ its/\qx Γ ifs
 | .b _=>True
 | .a _ _=>True
 | .v _=>True
 | .m _=>True
 | .c _=>True
noncomputable def qx (Γ:Env4):List Xp->Prop
 | []=>True
 | e::es=>Need Γ e/\qx Γ es
end
variable {W:Wd} {E:XS} {Γ:Env4} {mg:La}
structure VA (X X':Cx):Prop where
 prog:X'.prog=X.prog
 w:X'.w=X.w
 K:X'.K=X.K
 mg:X'.mg=X.mg
 base:X'.base=X.base
 A:X'.A=X.A
def XC (W:Wd)(X:Cx)(E:XS)(x:Str)(ms:List Md)(f:Fn):Prop:=∀ (es:Lg) (t:TA) (p pos:Pos),PA X es t->noSt es=true->Gl X x->okN x=true->(es=[]->t=tNil)->PE X (.Call (.Name x p) es [] pos) (wL (SpM W ms f) E t)
def Js (W:Wd)(X:Cx)(E:XS)(c:Nat)(x:Str)(ms:List Md)(f:Fn):Prop:=∀ (o:Expr) (es:Lg) (to:TE) (t:TA) (apos pos:Pos),PE X o to->PA X es t->(es=[]->t=tNil)->z5 o=true->noSt es=true->es.length<30->(apos.endLine == pos.line)=true->PE X (.Call (.Attribute o x apos) es [] pos) (tMt W c x (SpM W ms f) E to t)
def XD (W:Wd)(X:Cx)(E:XS)(c:Nat)(x:Str)(ms:List Md)(f:Fn):Prop:=∀ (es:Lg) (t:TA) (p pos:Pos),PA X es t->noSt es=true->Gl X x->okN x=true->(es=[]->t=tNil)->PE X (.Call (.Name x p) es [] pos) (Jq (W.cl c) (SpM W (.mu::ms) f) E t)
structure Ctx (W:Wd)(mg:La)(X:Cx)(N:Lh)(sc:Scope)(cm:Bool)(E:XS)(Γ:Env4):Prop where
 hK:X.K=W.K
 hN:X.N=N
 nd:N.Nodup
 hs:X.env.scope=sc
 hc:X.calm=cm
 hu:X.A.units+64<cLine
 call:∀ x ms f,Γ.F x ms f->XC W X E x ms f
 callN:∀ x ms f,Γ.F x ms f->∀ X',VA X X'->XC W X' (fun _ _ _ _=>False) x ms f
 meth:∀ c x ms f,Γ.M c x ms f->Js W X E c x ms f
 methN:∀ c x ms f,Γ.M c x ms f->∀ X',VA X X'->Js W X' (fun _ _ _ _=>False) c x ms f
 make:∀ c x ms f,Γ.C c x ms f->XD W X E c x ms f
 makeN:∀ c x ms f,Γ.C c x ms f->∀ X',VA X X'->XD W X' (fun _ _ _ _=>False) c x ms f
 hmg:X.mg=mg
 hw:X.w=Γ.w
 blt:∀ x,Γ.B x->X.mg x=none
structure GOk (W:Wd)(mg:La)(Γ:Env4):Prop where
 g:∀ x t,Γ.G x t->∃ v,(∀ F H:Hp,Tr W F H (fzi t) v [])/\∃ u,mg x=some u/\RelV v u
 a:∀ c f,Γ.A c f->Cls W.K (W.cl c)/\qk W.K (W.cl c) f
 d:∀ x d,Γ.D x d->KGet W Γ.w mg x d
 i:∀ x c,Γ.I x c->IsCl W mg x c
theorem vk {x:Str}(h:okN x=true):(x == ("__debug__":Str))=false/\(x == ("__classdict__":Str))=false:=by
 unfold okN at h
 simp only [ub,uQ] at h
 exact h
theorem Ctx.gl {X:Cx}{N:Lh}{sc:Scope}{cm:Bool}(C:Ctx W mg X N sc cm E Γ){x:Str}(h:glb sc x=true):Gl X x/\okN x=true:=by
 unfold glb at h
 rw [ub,uv] at h
 refine⟨?_,h.2⟩
 show X.env.scope.names.lookup x=_
 rw [C.hs];exact h.1
theorem qE {sc:Scope}{x:Str}{e:Expr}(h:xa sc x e=true):∃ p,e=.Name x p/\glb sc x=true:=by
 obtain⟨y,h1,h2⟩:=zd h
 rw [ub,uv] at h2
 obtain⟨p,rfl⟩:=ZU h1
 obtain⟨rfl,h2⟩:=h2
 exact⟨p,rfl,h2⟩
theorem Ctx.var {X:Cx}{N:Lh}{sc:Scope}{cm:Bool}(C:Ctx W mg X N sc cm E Γ){e:Expr}{i:Nat}(h:chkV N sc i e=true):PE X e (tVar i):=by
 obtain⟨x,h1,h2⟩:=zd h
 obtain⟨pos,rfl⟩:=ZU h1
 rw [ub,ub,uv] at h2
 obtain⟨⟨h1,h2⟩,h3⟩:=h2
 obtain⟨d1,d2⟩:=vk h3
 refine pv i (by rw [C.hN];exact h1) ?_ d1 d2
 rw [C.hs]
 unfold vis at h2
 simp only [UQ,uv] at h2
 rcases h2 with(z | z) | z
 ·exact .inl z
 ·exact .inr (.inl z)
 ·exact .inr (.inr z)
theorem Ctx.blkG {X:Cx}{N:Lh}{sc scope:Scope}{xs:Lh}(C:Ctx W mg X N sc true E Γ)(h:lcG N sc scope xs=true):vj X xs scope/\∀ (cl:List (Str×Addr)) (Ca:Addr) (s3:Shared) (H3:Hp) (fp:Ld),Ctx W mg (L2.blkG X xs scope cl Ca s3 H3 fp) (xs++N.map (renL xs)) (relS scope sc) true (fun _ _ _ _=>False) Γ:=by
 unfold lcG at h
 simp only [ub,uv] at h
 obtain⟨⟨⟨⟨⟨⟨⟨h1,h2⟩,h3⟩,h4⟩,h5⟩,h6⟩,h7⟩,h8⟩:=h
 refine⟨⟨by rw [C.hN];exact h1,h2,h3,h4,h5,fun y hy hf=>?_,by rw [C.hN];exact h7,h8,C.hc⟩,fun cl Ca s3 H3 fp=>?_⟩
 ·show X.env.scope.names.lookup y.1=some .cell
  rw [C.hs];exact h6 y hy hf
 exact⟨C.hK,by show xs++X.N.map (renL xs)=_;rw [C.hN],h1,by rw [← C.hs];rfl,C.hc,C.hu,fun y ms f hf=>C.callN y ms f hf _ ⟨rfl,rfl,rfl,rfl,rfl,rfl⟩,fun y ms f hf X' g=>C.callN y ms f hf X' ⟨g.prog,g.w,g.K,g.mg,g.base,g.A⟩,fun c y ms f hf=>C.methN c y ms f hf _ ⟨rfl,rfl,rfl,rfl,rfl,rfl⟩,fun c y ms f hf X' g=>C.methN c y ms f hf X' ⟨g.prog,g.w,g.K,g.mg,g.base,g.A⟩,fun c y ms f hf=>C.makeN c y ms f hf _ ⟨rfl,rfl,rfl,rfl,rfl,rfl⟩,fun c y ms f hf X' g=>C.makeN c y ms f hf X' ⟨g.prog,g.w,g.K,g.mg,g.base,g.A⟩,C.hmg,C.hw,C.blt⟩
theorem Ctx.tgt {X:Cx}{N:Lh}{sc scope:Scope}{tg:Expr}{q:Bool×Lh}(C:Ctx W mg X N sc true E Γ)(L:vj X q.2 scope)(h:tgN tg=some q):∀ (cl:List (Str×Addr)) (Ca:Addr) (s3:Shared) (H3:Hp) (fp:Ld),PG (L2.blkG X q.2 scope cl Ca s3 H3 fp) tg (gOf W.K q.1 q.2.length):=fun cl Ca s3 H3 fp=>by
 rw [← C.hK]
 refine zec (X:=L2.blkG X q.2 scope cl Ca s3 H3 fp) L.calm L.nd (fun _=>rfl) h (fun k x hx=>?_) fun x hx=>?_
 ·show(q.2++X.N.map (renL q.2))[k]? = some x
  rw [u5 (uF.mp hx).1];exact hx
 ·have e:(L2.blkG X q.2 scope cl Ca s3 H3 fp).env.scope.names.lookup x=(scope.names.lookup x).map fun k=>if (k == NameKind.free&&X.env.scope.kind == .function&&X.env.kindOf x == some .cell) then NameKind.cell else k:=wa x scope.names
  rw [e,L.var x hx]
  rfl
theorem zen {t:T}{k:Const}{j:Nat}{pos:Pos}(h:chkC t k=true):∃ v,(∀ X,PE X (.Constant k j pos) (tC v))/\∀ F H:Hp,Tr W F H t v []:=by
 cases t<;>cases k<;>simp only [chkC,reduceCtorEq,Uw] at h
 ·exact⟨.non,fun X=>zda,fun F H=>yo⟩
 ·rename_i b c
  have:b=c:=by simpa using h
  subst this
  exact⟨.bl b,fun X=>zfb,fun F H=>yd⟩
 ·rename_i i j
  have:i=j:=by simpa using h
  subst this
  exact⟨.int i,fun X=>zc9,fun F H=>vh⟩
 ·rename_i t x
  rw [ub,uv,uv] at h
  exact⟨.str (S t),fun X=>pe_S h.1,fun F H=>xn h.2⟩
theorem zav {X:Cx}{P:V->Hp->Prop}{e:Expr}{es:Lg}{te:TE}{t:TA}(ha:PE X e te)(hr:PA X es t)(hs:starEach (e::es) X.env=(false,eval e X.env)::starEach es X.env):PA X (e::es) (tCk P te t):=by
 intro pos pins s σ H Q I h
 rw [hs]
 show wpAny _ _ (spliced ((false,eval e X.env)::backTo pos (starEach es X.env))) _ _ s
 refine Calls.spliced_cons (thn (ha pins s σ H _ I h) fun u s1 ⟨x,H1,I1,r1,_,q1⟩=>?_)
 exact thn (hr pos pins s1 σ H1 _ I1 q1) fun us s2 ⟨xs,H2,I2,r2,q2⟩=>⟨x::xs,H2,I2,.cons r1 r2,q2⟩
theorem zfP {X:Cx}{N:Lh}{sc:Scope}{cm:Bool}{k:TyK}{pos:Pos}(C:Ctx W mg X N sc cm E Γ)(hz:glb sc (tyN k)=true)(hb:Γ.B (tyN k)):PE X (.Name (tyN k) pos) (tC (.ty (tyN k))):=by
 obtain⟨hg,hok⟩:=C.gl hz
 cases k
 ·exact ky (C.blt _ hb) zdE rfl hg (by decide) (by decide)
 ·exact ky (C.blt _ hb) Ka rfl hg (by decide) (by decide)
 ·exact ky (C.blt _ hb) zbx rfl hg (by decide) (by decide)
 ·exact ky (C.blt _ hb) zbA rfl hg (by decide) (by decide)
 ·exact ky (C.blt _ hb) J9 rfl hg (by decide) (by decide)
 ·exact ky (C.blt _ hb) (by rfl) rfl hg (by decide) (by decide)
theorem zfQ {X:Cx}{o e:Expr}{es:Lg}{to:TE}{ta:TA}{apos cpos:Pos}(m:ME)(hm:m≠.get2)(hK:X.K=W.K)(ho:PE X o to)(ha:PA X (e::es) ta)(hb:z5 o=true)(hl:(apos.endLine == cpos.line)=true)(hs:noSt (e::es)=true)(hn:(e::es).length<30):PE X (.Call (.Attribute o (meN m) apos) (e::es) [] cpos) (tBM W.K "str" (meR W.K m) to ta):=by
 obtain⟨s1,s2⟩:=zL hs
 cases m
 ·exact Zy hK gp PySem.F.slot_str_join PySem.F.type_str_join (Yd hK) ho ha (qd hb) (yq hs hn) hl (zf s1) (qh s2)
 ·exact absurd rfl hm
 ·exact Zy hK gp UH PySem.F.type_str_split Ym ho ha (qd hb) (yq hs hn) hl (zf s1) (qh s2)
 ·exact Zy hK gp PySem.F.slot_str_find PySem.F.type_str_find Ki ho ha (qd hb) (yq hs hn) hl (zf s1) (qh s2)
theorem zfR {X:Cx}{o:Expr}{es:Lg}{to:TE}{ta:TA}{apos cpos:Pos}(m:MU)(hm:m≠.insert)(hK:X.K=W.K)(ho:PE X o to)(ha:PA X es ta)(hb:z5 o=true)(hl:(apos.endLine == cpos.line)=true)(hs:noSt es=true)(hn:es.length=muAr m)(h0:es=[]->ta=tNil) :
  PE X (.Call (.Attribute o (muN m) apos) es [] cpos) (fun σ H Q=>to σ H fun x H1=>tyV W.K "list" x H1/\ta σ H1 fun xs H2=>muR m x xs H2 Q):=by
 cases m
 ·match es,hn,ha,hs with
  | [e],_,ha,hs=>exact Zy hK gg PySem.F.slot_list_append PySem.F.type_list_append QO ho ha (qd hb) (yq hs (by simp)) hl (zf (zL hs).1) rfl
 ·match es,hn,ha,hs,h0 with
  | [],_,ha,hs,h0=>
   have:=h0 rfl
   subst this
   exact zbD hK gg PySem.F.slot_list_pop PySem.F.type_list_pop zdA ho (qd hb) hl
 ·exact absurd rfl hm
 ·match es,hn,ha,hs with
  | [e],_,ha,hs=>exact Zy hK gg PySem.F.slot_list_pop PySem.F.type_list_pop Y3 ho ha (qd hb) (yq hs (by simp)) hl (zf (zL hs).1) rfl
end L4
namespace L4
open PySem L2 PySem.Spec PyProof.Rows
variable {W:Wd} {E:XS} {Γ:Env4} {mg:La}
end L4
set_option maxHeartbeats 2000000
namespace L4
open PySem L2 PySem.Spec PyProof.Rows
variable {W:Wd} {Γ:Env4}
theorem zeo {E:XS}{md:Bool}{tl rl:Lc}{ta:TE}{a:Xp}{k:TyK}(ha:SE W E tl rl ta (WE true a)):SE W E tl [] (tCB (rIsA W.K (tyN k)) (j9 ta (j9 (tC (.ty (tyN k))) tNil))) (WE md (.isi a [k])):=by
 intro F H s σ A Q4 X4 Q R h q x
 refine ha F H s σ A _ X4 _ R h (fun t s1 v F1 H1 A1 B p ⟨b,e1,h1⟩=>?_) x
 obtain⟨ty,g1,f,g2,g3⟩:=zdV p.rep.fh p.tr e1
 have g3:f k=b:=by simpa using g3
 exact⟨v,ty,b,rfl,g1,by rw [g2,g3],q _ s1 _ F1 H1 A1 [] (EPo.al p.mv p.rep (Al.refl p.rep.fh) yd) h1⟩
abbrev tst (c:Xp):Sl->(Bool->Sl->Prop)->XP->Prop:=fun s K X=>WE true c s (fun x s1=>∃ z,blO x=some z/\K z s1) X
theorem zfS {E:XS}{tl rl:Lc}{ta:TE}{a:Xp}(ha:SE W E tl rl ta (WE true a)):ST W E tl (zcv W.K ta) (tst (.t a)):=by
 intro F H s σ A Q4 X4 Q R h q x
 exact ha F H s σ A _ X4 _ R h (fun t s1 v F1 H1 A1 B p ⟨b,e1,z,e2,h1⟩=>by cases e2;exact⟨b,zdU p.rep.fh p.tr e1,q b s1 F1 H1 A1 ⟨p.rep,p.mv⟩ h1⟩) x
theorem zfT {E:XS}{tl:Lc}{ta:TT}{a:Xp}(ha:ST W E tl ta (tst a)):ST W E tl (tNot ta) (tst (.tn a)):=by
 intro F H s σ A Q4 X4 Q R h q x
 refine ha F H s σ A (fun b s1=>∃ z,blO (.bl (!b))=some z/\Q4 z s1) X4 _ R h (fun b s1 F1 H1 A1 p ⟨z,e,h1⟩=>?_) x
 cases e
 exact q (!b) s1 F1 H1 A1 p h1
theorem zfU {E:XS}{tl:Lc}{ta:TT}{k:Bool}{es:List Xp}(ha:ST W E tl ta (WTb k es)):ST W E tl ta (tst (.tb k es)):=by
 intro F H s σ A Q4 X4 Q R h q x
 refine ha F H s σ A (fun b s1=>∃ z,blO (.bl b)=some z/\Q4 z s1) X4 _ R h (fun b s1 F1 H1 A1 p ⟨z,e,h1⟩=>?_) x
 cases e
 exact q b s1 F1 H1 A1 p h1
theorem VB {E:XS}{k:Bool}{tl:Lc}{ta:TT}{e:Xp}(he:ST W E tl ta (tst e)):ST W E tl ta (WTb k [e]):=by
 intro F H s σ A Q4 X4 Q R h q x
 rw [WTb] at h
 refine he F H s σ A (fun b s1=>if b=k then WTb k [] s1 Q4 X4 else Q4 b s1) X4 _ R h (fun b s1 F1 H1 A1 p h1=>?_) x
 split at h1
 ·rename_i e
  subst e
  rw [WTb] at h1
  exact q b s1 F1 H1 A1 p h1
 ·exact q b s1 F1 H1 A1 p h1
def OkE (W:Wd)(mg:La)(N:Lh)(sc:Scope)(cm:Bool)(E:XS)(Γ:Env4)(c:Xp)(e:Expr):Prop:=∃ t,(∀ X,Ctx W mg X N sc cm E Γ->PE X e t)/\∀ md,SE W E (zp c) (if md=true then root c else []) t (WE md c)
def OkP (W:Wd)(mg:La)(N:Lh)(sc:Scope)(cm:Bool)(E:XS)(Γ:Env4)(c:Xp)(e:Expr):Prop:=∃ t,(∀ X,Ctx W mg X N sc cm E Γ->PE X e t)/\SP W E (zp c) (root c) t (WP c)
def OkT (W:Wd)(mg:La)(N:Lh)(sc:Scope)(cm:Bool)(E:XS)(Γ:Env4)(c:Xp)(e:Expr):Prop:=∃ t,(∀ X,Ctx W mg X N sc cm E Γ->PT X e t)/\ST W E (zp c) t (tst c)
def OkA (W:Wd)(mg:La)(N:Lh)(sc:Scope)(cm:Bool)(E:XS)(Γ:Env4)(cs:List Xp)(es:Lg):Prop:=∃ t,(∀ X,Ctx W mg X N sc cm E Γ->PA X es t)/\SA W E (zu cs) [] t (WEs false cs)/\(djL cs=true->SA W E (zu cs) (roots cs) t (WEs true cs))/\(es=[]->t=tNil)
def OkM (W:Wd)(mg:La)(N:Lh)(sc:Scope)(cm:Bool)(E:XS)(Γ:Env4)(ln:Bool)(ms:List Md)(cs:List Xp)(es:Lg):Prop:=∃ t tl rl,(∀ X,Ctx W mg X N sc cm E Γ->PA X es t)/\SM W E tl rl (plM ms cs) ms t (WA ln none ms cs)/\(∀ j∈tl,j∈zS ms cs)/\(ln=false->rl=[])/\(es=[]->t=tNil)
section
variable {mg:La} {N:Lh} {sc:Scope} {cm:Bool} {E:XS}
theorem ifn {md:Bool}:(if md=true then([]:Lc) else [])=[]:=by cases md<;>rfl
theorem mkE {c:Xp}{e:Expr}{t:TE}(hr:root c=[])(h1:∀ X,Ctx W mg X N sc cm E Γ->PE X e t)(h2:∀ md,SE W E (zp c) [] t (WE md c)):OkE W mg N sc cm E Γ c e:=⟨t,h1,fun md=>by rw [hr,ifn];exact h2 md⟩
theorem SE.nil {tl rl:Lc}{t:TE}{m:Sl->QP->XP->Prop}(h:SE W E tl rl t m)(e:rl=[]):SE W E tl [] t m:=by subst e;exact h
end
theorem kJ:∀ {ms:List Md} {cs:List Xp},∀ j∈plM ms cs,j∈zS ms cs
 | .mu::ms,c::cs,j,h=>by
  simp only [plM,zS] at h ⊢
  rcases ud.mp h with z | z
  ·exact zb j z
  ·exact zc j (zc j (kJ j z))
 | .fz::ms,c::cs,j,h=>by simp only [plM,zS] at h ⊢;exact zc j (kJ j h)
 | .mv::ms,c::cs,j,h=>by simp only [plM,zS] at h ⊢;exact zc j (kJ j h)
 | [],_,j,h=>by simp [plM] at h
 | .mu::_,[],j,h=>by simp [plM] at h
 | .fz::_,[],j,h=>by simp [plM] at h
 | .mv::_,[],j,h=>by simp [plM] at h
mutual
theorem zi {mg:La}(G:GOk W mg Γ)(c:Xp)(e:Expr){N:Lh}{sc:Scope}{cm:Bool}{E:XS}(hh:chkE N sc cm c e=true)(nn:Need Γ c):OkE W mg N sc cm E Γ c e:=by
 match c,hh,nn with
 | .b i,h,_=>
  exact⟨_,fun X C=>C.var h,fun md=>se_b⟩
 | .a j i,h,_=>
  exact⟨_,fun X C=>C.var h,fun md=>se_a⟩
 | .v i,h,_=>
  exact mkE rfl (fun X C=>C.var h) fun md=>se_v
 | .m i,h,_=>
  exact mkE rfl (fun X C=>C.var h) fun md=>se_m
 | .c t,h,_=>
  obtain⟨k,h1,h2⟩:=zd h
  have:=zbX h1
  subst this
  obtain⟨v,k1,k2⟩:=zen (W:=W) (j:=k.2.1) (pos:=k.2.2) h2
  exact mkE rfl (fun X C=>k1 X) fun md=>KQ k2 fun s Q X z=>by exact z
 | .g x t,h,n=>
  obtain⟨p,rfl,hg⟩:=qE h
  obtain⟨v,k1,u,k2,k3⟩:=G.g x t n
  refine mkE rfl (fun X C=>?_) fun md=>KQ k1 fun s Q X z=>by exact z
  obtain⟨g1,g2⟩:=C.gl hg
  obtain⟨d1,d2⟩:=vk g2
  exact zcs (by rw [C.hmg];exact⟨u,k2,k3⟩) g1 d1
 | .frz a,h,n=>
  obtain⟨t,p1,p2⟩:=zi (E:=E) G a e h n
  exact mkE rfl p1 fun md=>zdY (p2 false)
 | .fp a,h,n=>
  obtain⟨tp,p1,p2⟩:=xq (E:=E) G a e h n
  exact mkE rfl p1 fun md=>zfM p2
 | .bin op a b,h,n=>
  obtain⟨p,h1,h2⟩:=zd h
  obtain⟨pos,rfl⟩:=zbY h1
  simp only [ub,uv] at h2
  obtain⟨⟨⟨ho,hd⟩,ha⟩,hb⟩:=h2
  obtain⟨ta,a1,a2⟩:=zi (E:=E) G a _ ha n.1
  obtain⟨tb,b1,b2⟩:=zi (E:=E) G b _ hb n.2
  exact mkE rfl (fun X C=>by rw [ho];exact zff (zdN op) (a1 X C) (b1 X C)) fun md=>zd0 (a2 true) (b2 true) (qN hd)
 | .neg a,h,n=>
  obtain⟨p,h1,h2⟩:=zd h
  obtain⟨pos,rfl⟩:=XB h1
  simp only [ub,uv] at h2
  obtain⟨ta,a1,a2⟩:=zi (E:=E) G a _ h2.2 n
  exact mkE rfl (fun X C=>by rw [h2.1];exact zfg zdt (a1 X C)) fun md=>zd1 (a2 true)
 | .cmp op a b,h,n=>
  obtain⟨p,h1,h2⟩:=zd h
  obtain⟨pos,rfl⟩:=Zi h1
  simp only [ub,uv] at h2
  obtain⟨ho,h2⟩:=h2
  obtain⟨eb,h3,h4⟩:=zd h2
  simp only [ub,uQ] at h4
  obtain⟨⟨⟨hm,hd⟩,ha⟩,hb⟩:=h4
  obtain⟨ta,a1,a2⟩:=zi (E:=E) G a _ ha n.1
  obtain⟨tb,b1,b2⟩:=zi (E:=E) G b _ hb n.2
  exact mkE rfl (fun X C=>by rw [ho,ZV h3];exact zbg (kD C.hK C.hu op) (a1 X C) (b1 X C) hm) fun md=>KR (a2 true) (b2 true) (qN hd)
 | .chn o1 o2 a b c,h,n=>
  obtain⟨p,h1,h2⟩:=zd h
  obtain⟨pos,rfl⟩:=Zi h1
  simp only [ub,uv] at h2
  obtain⟨ho,h2⟩:=h2
  obtain⟨q,h3,h4⟩:=zd h2
  simp only [ub,uQ] at h4
  obtain⟨⟨⟨hm,ha⟩,hb⟩,hc⟩:=h4
  obtain⟨ta,a1,a2⟩:=zi (E:=E) G a _ ha n.1
  obtain⟨tb,b1,b2⟩:=zi (E:=E) G b _ hb n.2.1
  obtain⟨tc,c1,c2⟩:=zi (E:=E) G c _ hc n.2.2
  exact mkE rfl (fun X C=>by rw [ho,Jr h3];exact YM (kD C.hK C.hu o1) (kD C.hK C.hu o2) (a1 X C) (b1 X C) (c1 X C) hm) fun md=>KS (a2 true) (b2 true) (c2 true)
 | .bo k es,h,n=>
  obtain⟨p,h1,h2⟩:=zd h
  obtain⟨pos,rfl⟩:=zal h1
  simp only [ub,uv,uQ] at h2
  obtain⟨⟨ho,he⟩,hs⟩:=h2
  obtain⟨t,p1,p2⟩:=VD (E:=E) G k es p.2 pos hs n he
  exact mkE rfl (fun X C=>by rw [ho];exact p1 X C) fun md F H s σ A Q4 X4 Q R z=>p2 F H s σ A Q4 X4 Q R (by exact z)
 | .not a,h,n=>
  obtain⟨p,h1,h2⟩:=zd h
  obtain⟨pos,rfl⟩:=XB h1
  simp only [ub,uv] at h2
  obtain⟨ta,a1,a2⟩:=zi (E:=E) G a _ h2.2 n
  exact mkE rfl (fun X C=>by rw [h2.1];exact zdh (a1 X C)) fun md=>zd2 (a2 true)
 | .t _,h,_=>exact zj h
 | .tn _,h,_=>exact zj h
 | .tb _ _,h,_=>exact zj h
 | .ife t a b,h,n=>
  obtain⟨p,h1,h2⟩:=zd h
  obtain⟨pos,rfl⟩:=zek h1
  simp only [ub] at h2
  obtain⟨⟨ht,ha⟩,hb⟩:=h2
  obtain⟨tt,t1,t2⟩:=kK (E:=E) G t _ ht n.1
  obtain⟨ta,a1,a2⟩:=zi (E:=E) G a _ ha n.2.1
  obtain⟨tb,b1,b2⟩:=zi (E:=E) G b _ hb n.2.2
  refine⟨_,fun X C=>YD (t1 X C) (a1 X C) (b1 X C),fun md=>?_⟩
  have:=zd3 (md:=md) t2 (a2 md) (b2 md)
  cases md
  ·exact this
  ·exact this
 | .lst es,h,n=>
  obtain⟨p,h1,h2⟩:=zd h
  obtain⟨pos,rfl⟩:=zbZ h1
  simp only [ub] at h2
  obtain⟨t,p1,p2,_⟩:=xt (E:=E) G es p h2.2 n h2.1
  exact mkE rfl (fun X C=>zdy (p1 X C)) fun md=>zd4 p2
 | .tup es,h,n=>
  obtain⟨p,h1,h2⟩:=zd h
  obtain⟨k,pos,rfl⟩:=Jp h1
  simp only [ub] at h2
  obtain⟨t,p1,p2,_⟩:=xt (E:=E) G es p h2.2 n h2.1
  exact mkE rfl (fun X C=>zdx (p1 X C)) fun md=>zd5 p2
 | .dct es,h,n=>
  replace h:(_&&eD0 e)=true:=h
  simp only [ub,uE] at h
  obtain⟨rfl,h⟩:=h
  have:∃ pos,e=.Dict [] [] pos:=by
   unfold eD0 at h
   split at h
   ·exact⟨_,rfl⟩
   ·cases h
  obtain⟨pos,rfl⟩:=this
  exact mkE rfl (fun X C=>zfs) fun md=>zbL
 | .ix a k,h,n=>
  obtain⟨p,h1,h2⟩:=zd h
  obtain⟨pos,rfl⟩:=Zj h1
  simp only [ub] at h2
  obtain⟨⟨⟨hp,hd⟩,ha⟩,hb⟩:=h2
  obtain⟨ta,a1,a2⟩:=zi (E:=E) G a _ ha n.1
  obtain⟨tb,b1,b2⟩:=zi (E:=E) G k _ hb n.2
  exact⟨_,fun X C=>zcp (Kv C.hK C.hu) (a1 X C) (b1 X C) (Wx hp),fun md=>zfB (a2 true) (b2 true) (qN hd)⟩
 | .sl a lo hi,h,n=>
  obtain⟨p,h1,h2⟩:=zd h
  obtain⟨pos,rfl⟩:=Zj h1
  obtain⟨q,h3,h4⟩:=zd h2
  obtain⟨pos2,hq⟩:=zb0 h3
  simp only [ub,gR] at h4
  obtain⟨⟨⟨⟨hz,hd⟩,ha⟩,hl⟩,hh⟩:=h4
  obtain⟨ta,a1,a2⟩:=zi (E:=E) G a _ ha n.1
  obtain⟨tl,l1,l2⟩:=zaw (E:=E) G lo _ hl n.2.1
  obtain⟨th,u1,u2⟩:=zaw (E:=E) G hi _ hh n.2.2
  exact mkE rfl (fun X C=>by rw [hq,hz];exact YV (zdP C.hK) (a1 X C) (l1 X C) (u1 X C)) fun md=>zfD (a2 true) l2 u2 (qN hd)
 | .at a c f,h,n=>
  obtain⟨p,h1,h2⟩:=zd h
  have hp:=xp h1
  subst hp
  simp only [ub,uv] at h2
  obtain⟨⟨hf,hb⟩,ha⟩:=h2
  obtain⟨ta,a1,a2⟩:=zi (E:=E) G a _ ha n.1
  obtain⟨g1,g2⟩:=G.a c f n.2
  exact⟨_,fun X C=>by rw [hf,← C.hK];exact YS (a1 X C) (qd hb),fun md=>zfC g1 g2 (a2 true)⟩
 | .call x ms ln f es,h,n=>
  obtain⟨p,h1,h2⟩:=zd h
  have hp:=qC h1
  subst hp
  simp only [ub,uE] at h2
  obtain⟨⟨⟨⟨hg,hk⟩,hs⟩,hm⟩,ha⟩:=h2
  obtain⟨np,hx,hg⟩:=qE hg
  obtain⟨t,tl,rl,p1,p2,p3,p4,p5⟩:=Jt (E:=E) G ln ms es p.2.1 ha n.2 hs
  have pe:∀ X,Ctx W mg X N sc cm E Γ->PE X (.Call p.1 p.2.1 p.2.2.1 p.2.2.2) (wL (SpM W ms f) E t):=fun X C=>by
   obtain⟨g1,g2⟩:=C.gl hg
   rw [hx,hk]
   exact C.call x ms f n.1 p.2.1 t np p.2.2.2 (p1 X C) hs g1 g2 p5
  cases ln with
  | false=>
   rw [uy (by decide),uv] at hm
   rw [p4 rfl] at p2
   refine mkE rfl pe fun md=>?_
   have:=(Wq (f:=f) p2 hm).mono (tl':=zS ms es) fun j z=>by
    rcases ud.mp z with z | z
    ·exact kJ j z
    ·exact p3 j z
   exact fun F H s σ A Q4 X4 Q R z=>this F H s σ A Q4 X4 Q R (by exact z)
  | true=>
   rw [uz rfl] at hm
   refine mkE rfl pe fun md=>?_
   have:=(Wr (f:=f) p2 hm).mono (tl':=zS ms es) p3
   exact fun F H s σ A Q4 X4 Q R z=>this F H s σ A Q4 X4 Q R (by exact z)
 | .meth _ _ _ _ _ [],h,_=>
  obtain⟨p,h1,h2⟩:=zd h
  obtain⟨q,h3,h4⟩:=zd h2
  simp [chkA] at h4
 | .meth c x ms ln f (o::es),h,n=>
  obtain⟨p,h1,h2⟩:=zd h
  have hp:=qC h1
  subst hp
  obtain⟨q,h3,h4⟩:=zd h2
  have hq:=xp h3
  simp only [ub,uE,uv] at h4
  obtain⟨⟨⟨⟨⟨⟨⟨hx,hb⟩,hl⟩,hk⟩,hs⟩,hn⟩,hm⟩,ha⟩:=h4
  cases ms with
  | nil=>simp [chkA] at ha
  | cons m ms=>
   simp only [chkA,List.head?_cons,Option.any_some,gP,ub] at ha
   obtain⟨h1',h2'⟩:=ha
   obtain⟨t,tl,rl,q1,q2,q3,q4,q5⟩:=Jt (E:=E) G ln ms es p.2.1 h2' n.2.2 hs
   have key:∃ tp tl' rl',(∀ X,Ctx W mg X N sc cm E Γ->PE X q.1 tp)/\SM W E tl' rl' (plM (m::ms) (o::es)) (m::ms) (tCk (ckV W (some (c,x))) tp t) (WA ln (some (c,x)) (m::ms) (o::es))/\(∀ j∈tl',j∈zS (m::ms) (o::es))/\(ln=false->rl' = []):=by
    cases m with
    | mu=>
     rw [uz rfl] at h1'
     simp only [ub] at h1'
     obtain⟨hc,hd⟩:=h1'
     obtain⟨tp,p1,p2⟩:=xq (E:=E) G o q.1 hc n.2.1
     refine⟨tp,_,rl,p1,zcE p2 q2 (fun j hj z=>qN hd j hj (q3 j z)),fun j z=>?_,q4⟩
     simp only [zS]
     rcases ud.mp z with z | z
     ·exact zc j (zb j z)
     ·exact zc j (zc j (q3 j z))
    | fz=>
     rw [uy (by decide)] at h1'
     simp only [ub,UQ,uQ] at h1'
     obtain⟨hc,hd⟩:=h1'
     obtain⟨tp,p1,p2⟩:=zi (E:=E) G o q.1 hc n.2.1
     refine⟨tp,_,_,p1,zcC (p2 ln) q2 (fun j hj z=>?_),fun j z=>?_,fun e=>?_⟩
     ·cases ln with
      | false=>rw [uy (by decide)] at hj;cases hj
      | true=>
       rw [uz rfl] at hj
       rcases hd with(hd | hd) | hd
       ·cases hd
       ·cases hd
       ·exact qN hd j hj (q3 j z)
     ·simp only [zS]
      rcases ud.mp z with z | z
      ·exact zb j z
      ·exact zc j (q3 j z)
     ·rw [q4 e]
      subst e
      rfl
    | mv=>
     rw [uy (by decide)] at h1'
     simp only [ub] at h1'
     obtain⟨tp,p1,p2⟩:=zi (E:=E) G o q.1 h1'.1 n.2.1
     refine⟨tp,_,rl,p1,zcD (p2 false) q2,fun j z=>?_,q4⟩
     simp only [zS]
     rcases ud.mp z with z | z
     ·exact zb j z
     ·exact zc j (q3 j z)
   obtain⟨tp,tl',rl',k1,k2,k3,k4⟩:=key
   have pe:∀ X,Ctx W mg X N sc cm E Γ->PE X (.Call p.1 p.2.1 p.2.2.1 p.2.2.2) (wL (SpM W (m::ms) f) E (tCk (ckV W (some (c,x))) tp t)):=fun X C=>by
    rw [hq,hk,hx]
    exact C.meth c x (m::ms) f n.1 q.1 p.2.1 tp t q.2.2 p.2.2.2 (k1 X C) (q1 X C) q5 hb hs hn hl
   cases ln with
   | false=>
    rw [uy (by decide),uv] at hm
    rw [k4 rfl] at k2
    refine mkE rfl pe fun md=>?_
    have:=(Wq (f:=f) k2 hm).mono (tl':=zS (m::ms) (o::es)) fun j z=>by
     rcases ud.mp z with z | z
     ·exact kJ j z
     ·exact k3 j z
    exact fun F H s σ A Q4 X4 Q R z=>this F H s σ A Q4 X4 Q R (by exact z)
   | true=>
    rw [uz rfl] at hm
    refine mkE rfl pe fun md=>?_
    have:=(Wr (f:=f) k2 hm).mono (tl':=zS (m::ms) (o::es)) k3
    exact fun F H s σ A Q4 X4 Q R z=>this F H s σ A Q4 X4 Q R (by exact z)
 | .make c x ms f es,h,n=>
  obtain⟨p,h1,h2⟩:=zd h
  have hp:=qC h1
  subst hp
  simp only [ub,uE,uv] at h2
  obtain⟨⟨⟨⟨hg,hk⟩,hs⟩,hm⟩,ha⟩:=h2
  obtain⟨np,hx,hg⟩:=qE hg
  obtain⟨t,tl,rl,p1,p2,p3,p4,p5⟩:=Jt (E:=E) G false ms es p.2.1 ha n.2 hs
  have pe:∀ X,Ctx W mg X N sc cm E Γ->PE X (.Call p.1 p.2.1 p.2.2.1 p.2.2.2) (Jq (W.cl c) (SpM W (.mu::ms) f) E t):=fun X C=>by
   obtain⟨g1,g2⟩:=C.gl hg
   rw [hx,hk]
   exact C.make c x ms f n.1 p.2.1 t np p.2.2.2 (p1 X C) hs g1 g2 p5
  rw [p4 rfl] at p2
  refine mkE rfl pe fun md=>?_
  have:=(zaq (c:=c) (f:=f) p2 hm).mono (tl':=zS ms es) fun j z=>by
   rcases ud.mp z with z | z
   ·exact kJ j z
   ·exact p3 j z
  exact fun F H s σ A Q4 X4 Q R z=>this F H s σ A Q4 X4 Q R (by exact z)
 | .bi b es,h,n=>
  obtain⟨p,h1,h2⟩:=zd h
  have hp:=qC h1
  subst hp
  simp only [ub,uE,uQ] at h2
  obtain⟨⟨⟨⟨⟨⟨hg,hk⟩,hs⟩,hc⟩,he⟩,hd⟩,ha⟩:=h2
  obtain⟨np,hx,hg⟩:=qE hg
  obtain⟨t,p1,_,p2,_⟩:=xt (E:=E) G es p.2.1 ha n.2 hs
  subst hc
  refine mkE rfl (fun X C=>?_) fun md=>zfE (p2 hd)
  obtain⟨g1,g2⟩:=C.gl hg
  rw [hx,hk]
  have pp:=p1 X C
  revert pp hs
  cases hes:p.2.1 with
  | nil=>
   rw [hes] at ha
   cases es with
   | nil=>cases he
   | cons _ _=>simp [qD] at ha
  | cons e0 es0=>
   intro hs pp
   exact zcA b C.hK C.hc g1 (C.blt _ n.1) pp (zf (zL hs).1) (qh (zL hs).2)
 | .isi a ks,h,n=>
  obtain⟨p,h1,h2⟩:=zd h
  have hp:=qC h1
  subst hp
  simp only [ub,uE] at h2
  obtain⟨⟨hg,hk⟩,h2⟩:=h2
  obtain⟨q,h3,h4⟩:=zd h2
  simp only [ub,uQ] at h4
  obtain⟨⟨hst,ha⟩,h5⟩:=h4
  obtain⟨np,hx,hg⟩:=qE hg
  obtain⟨ta,a1,a2⟩:=zi (E:=E) G a _ ha n.2.1
  ·obtain⟨k,h6,h7⟩:=zd h5
   have:=ZV h6
   subst this
   obtain⟨np2,hx2,hg2⟩:=qE h7
   refine mkE rfl (fun X C=>?_) fun md=>zeo (a2 true)
   obtain⟨g1,g2⟩:=C.gl hg
   rw [hx,hk,Jr h3,hx2]
   have ty:=zfP (pos:=np2) C hg2 (n.2.2 k (ui.mpr rfl))
   have hq2:star (.Name (tyN k) np2)=false:=rfl
   exact yI (Yj C.hK) g1 (C.blt _ n.1) ya (jU (a1 X C) (jU ty yk (zf hq2)) (zf hst)) (by decide) (by decide) (zf hst) rfl
 | .me m o es,h,n=>
  obtain⟨p,h1,h2⟩:=zd h
  have hp:=qC h1
  subst hp
  obtain⟨q,h3,h4⟩:=zd h2
  have hq:=xp h3
  simp only [ub,uE,uQ,uv] at h4
  obtain⟨⟨⟨⟨⟨⟨⟨⟨⟨⟨hn,hb⟩,hl⟩,hk⟩,hs⟩,h30⟩,hm⟩,he⟩,hd⟩,ho⟩,ha⟩:=h4
  obtain⟨to,o1,o2⟩:=zi (E:=E) G o _ ho n.1
  obtain⟨t,p1,_,p2,_⟩:=xt (E:=E) G es p.2.1 ha n.2 hs
  refine mkE rfl (fun X C=>?_) fun md=>zfF hm (o2 true) (p2 hd)
  rw [hq,hk,hn]
  have pp:=p1 X C
  revert pp hs h30
  cases hes:p.2.1 with
  | nil=>
   rw [hes] at ha
   cases es with
   | nil=>cases he
   | cons _ _=>simp [qD] at ha
  | cons e0 es0=>
   intro h30 hs pp
   exact zfQ m hm C.hK (o1 X C) pp hb hl hs h30
 | .mu m o es,h,n=>
  obtain⟨p,h1,h2⟩:=zd h
  have hp:=qC h1
  subst hp
  obtain⟨q,h3,h4⟩:=zd h2
  have hq:=xp h3
  simp only [ub,uE,uv] at h4
  obtain⟨⟨⟨⟨⟨⟨⟨⟨⟨hn,hb⟩,hl⟩,hk⟩,hs⟩,har⟩,hm⟩,hd⟩,ho⟩,ha⟩:=h4
  obtain⟨to,o1,o2⟩:=xq (E:=E) G o _ ho n.1
  obtain⟨t,p1,p2,_,p4⟩:=xt (E:=E) G es p.2.1 ha n.2 hs
  exact mkE rfl (fun X C=>by rw [hq,hk,hn];exact zfR m hm C.hK (o1 X C) (p1 X C) hb hl hs har p4) fun md=>zfI o2 p2 (qN hd)
 | .kget x d es,h,n=>
  obtain⟨p,h1,h2⟩:=zd h
  have hp:=qC h1
  subst hp
  obtain⟨q,h3,h4⟩:=zd h2
  have hq:=xp h3
  simp only [ub,uE,uv] at h4
  obtain⟨⟨⟨⟨⟨⟨hn,hg⟩,hl⟩,hk⟩,hs⟩,h2l⟩,ha⟩:=h4
  obtain⟨np,hx,hg⟩:=qE hg
  obtain⟨a,kvs,k1,k2,k3⟩:=G.d x d n.1
  obtain⟨t,p1,p2,_,_⟩:=xt (E:=E) G es p.2.1 ha n.2 hs
  refine mkE rfl (fun X C=>?_) fun md=>zb1 k3 p2
  obtain⟨g1,g2⟩:=C.gl hg
  rw [hq,hk,hn,hx]
  have pp:=p1 X C
  revert pp hs h2l
  match p.2.1 with
  | [e1,e2]=>exact fun h2l hs pp=>zas ⟨a,by rw [C.hmg];exact k1,by rw [C.hw,C.hK];exact k2⟩ pp g1 (vk g2).1 hs hl
  | []=>exact fun h2l=>by cases h2l
  | [_]=>exact fun h2l=>by cases h2l
  | _::_::_::_=>exact fun h2l=>by simp at h2l
 | .isc a x c,h,n=>
  obtain⟨p,h1,h2⟩:=zd h
  have hp:=qC h1
  subst hp
  simp only [ub,uE] at h2
  obtain⟨⟨hg,hk⟩,h2⟩:=h2
  obtain⟨q,h3,h4⟩:=zd h2
  simp only [ub,uQ] at h4
  obtain⟨⟨hst,ha⟩,h5⟩:=h4
  obtain⟨np,hx,hg⟩:=qE hg
  obtain⟨np2,hx2,hg2⟩:=qE h5
  obtain⟨ta,a1,a2⟩:=zi (E:=E) G a _ ha n.2.2
  have ic:=G.i x c n.2.1
  refine mkE rfl (fun X C=>?_) fun md=>zem ic (a2 true)
  obtain⟨g1,g2⟩:=C.gl hg
  obtain⟨g3,g4⟩:=C.gl hg2
  rw [hx,hk,Jr h3,hx2]
  have hq2:star (.Name x np2)=false:=rfl
  have pc:PE X (.Name x np2) (tC (.ref (W.cl c))):=zcs (by rw [C.hmg];exact⟨_,ic.m,rfl⟩) g3 (vk g4).1
  exact yI (zat C.hK ic) g1 (C.blt _ n.1) ya (jU (a1 X C) (jU pc yk (zf hq2)) (zf hst)) (by decide) (by decide) (zf hst) rfl
 | .tpl a,h,n=>
  obtain⟨p,h1,h2⟩:=zd h
  have hp:=qC h1
  subst hp
  simp only [ub,uE] at h2
  obtain⟨⟨⟨⟨hg,hk⟩,hs⟩,hc⟩,h3⟩:=h2
  obtain⟨e0,h4,h5⟩:=zd h3
  have h6:=ZV h4
  obtain⟨np,hx,hg⟩:=qE hg
  obtain⟨ta,a1,a2⟩:=zi (E:=E) G a e0 h5 n.2
  subst hc
  refine mkE rfl (fun X C=>?_) fun md=>zel ((a2 false).nil rfl)
  obtain⟨g1,g2⟩:=C.gl hg
  rw [h6] at hs
  rw [hx,hk,h6]
  exact zcA .tuple C.hK C.hc g1 (C.blt _ n.1) (jU (a1 X C) yk (zf (zL hs).1)) (zf (zL hs).1) (qh (zL hs).2)
 | .lc elt m k its ifs,h,n=>
  obtain⟨p,h1,h2⟩:=zd h
  obtain⟨pos,rfl⟩:=zam h1
  obtain⟨g,h3,h4⟩:=zd h2
  have hg:=zau h3
  simp only [ub,uv] at h4
  obtain⟨⟨⟨⟨⟨hc,hset⟩,hle⟩,hi⟩,hd⟩,h5⟩:=h4
  subst hc
  obtain⟨wi,rl,i1,i2,i3⟩:=XE (E:=E) G k its g.2.1 g.1 hi n.2.2.1 n.2.1
  have dj:∀ j∈rl,j∉outT m (zp elt++zu ifs):=fun j hj=>qN hd j (i3 j hj)
  obtain⟨q,e1,e2⟩:=zd h5
  simp only [ub,uv] at e2
  obtain⟨⟨⟨⟨hn,htu⟩,hl⟩,he⟩,ht⟩:=e2
  obtain⟨te,q1,q2⟩:=zi (E:=fun _ _ _ _=>False) G elt p.1 he n.1
  obtain⟨tt,t1,t2⟩:=Wy (E:=fun _ _ _ _=>False) G ifs g.2.2 ht n.2.2.2 hle
  subst hn
  refine mkE rfl (fun X C=>?_) fun md=>zcF i2 t2 (q2 false) rfl (Vu htu) dj
  obtain⟨L,bl⟩:=C.blkG hl
  rw [hg]
  exact zae L (i1 X C) (fun cl Ca s3 H3 fp=>t1 _ (bl cl Ca s3 H3 fp)) (fun cl Ca s3 H3 fp=>q1 _ (bl cl Ca s3 H3 fp)) (C.tgt L e1) (Xy htu) (kI hset)
theorem xq {mg:La}(G:GOk W mg Γ)(c:Xp)(e:Expr){N:Lh}{sc:Scope}{cm:Bool}{E:XS}(hh:chkP N sc cm c e=true)(nn:Need Γ c):OkP W mg N sc cm E Γ c e:=by
 match c,hh,nn with
 | .b i,h,_=>
  exact⟨_,fun X C=>C.var h,sp_b⟩
 | .a j i,h,_=>
  exact⟨_,fun X C=>C.var h,sp_a⟩
 | .ix a k,h,n=>
  obtain⟨p,h1,h2⟩:=zd h
  obtain⟨pos,rfl⟩:=Zj h1
  simp only [ub] at h2
  obtain⟨⟨⟨hp,hd⟩,ha⟩,hb⟩:=h2
  obtain⟨ta,a1,a2⟩:=xq (E:=E) G a _ ha n.1
  obtain⟨tb,b1,b2⟩:=zi (E:=E) G k _ hb n.2
  exact⟨_,fun X C=>zcp (Kv C.hK C.hu) (a1 X C) (b1 X C) (Wx hp),zfG a2 (b2 true) (qN hd)⟩
 | .at a c f,h,n=>
  obtain⟨p,h1,h2⟩:=zd h
  have hp:=xp h1
  subst hp
  simp only [ub,uv] at h2
  obtain⟨⟨hf,hb⟩,ha⟩:=h2
  obtain⟨ta,a1,a2⟩:=xq (E:=E) G a _ ha n.1
  obtain⟨g1,g2⟩:=G.a c f n.2
  exact⟨_,fun X C=>by rw [hf,← C.hK];exact YS (a1 X C) (qd hb),zfH g1 g2 a2⟩
 | .v _,h,_=>exact zj h
 | .m _,h,_=>exact zj h
 | .c _,h,_=>exact zj h
 | .g _ _,h,_=>exact zj h
 | .frz _,h,_=>exact zj h
 | .fp _,h,_=>exact zj h
 | .bin _ _ _,h,_=>exact zj h
 | .neg _,h,_=>exact zj h
 | .cmp _ _ _,h,_=>exact zj h
 | .chn _ _ _ _ _,h,_=>exact zj h
 | .bo _ _,h,_=>exact zj h
 | .not _,h,_=>exact zj h
 | .t _,h,_=>exact zj h
 | .tn _,h,_=>exact zj h
 | .tb _ _,h,_=>exact zj h
 | .ife _ _ _,h,_=>exact zj h
 | .lst _,h,_=>exact zj h
 | .tup _,h,_=>exact zj h
 | .dct _,h,_=>exact zj h
 | .sl _ _ _,h,_=>exact zj h
 | .call _ _ _ _ _,h,_=>exact zj h
 | .meth _ _ _ _ _ _,h,_=>exact zj h
 | .make _ _ _ _ _,h,_=>exact zj h
 | .bi _ _,h,_=>exact zj h
 | .isi _ _,h,_=>exact zj h
 | .me _ _ _,h,_=>exact zj h
 | .mu _ _ _,h,_=>exact zj h
 | .lc _ _ _ _ _,h,_=>exact zj h
 | .tpl _,h,_=>exact zj h
theorem xt {mg:La}(G:GOk W mg Γ)(cs:List Xp)(es:Lg){N:Lh}{sc:Scope}{cm:Bool}{E:XS}(hh:qD N sc cm cs es=true)(nn:qx Γ cs)(hs:noSt es=true):OkA W mg N sc cm E Γ cs es:=by
 match cs,hh,nn with
 | [],h,_=>
  simp only [qD,uE] at h
  subst h
  exact⟨_,fun X C=>yk,KU,fun _=>KU,fun _=>rfl⟩
 | c::cs,h,n=>
  cases es with
  | nil=>simp [qD] at h
  | cons e es=>
   simp only [qD,ub] at h
   obtain⟨s1,s2⟩:=zL hs
   obtain⟨t,p1,p2⟩:=zi (E:=E) G c e h.1 n.1
   obtain⟨ts,q1,q2,q3,_⟩:=xt (E:=E) G cs es h.2 n.2 s2
   refine⟨_,fun X C=>jU (p1 X C) (q1 X C) (zf s1),Vq (p2 false) q2 (fun _ z=>by cases z),fun hd=>?_,fun z=>by cases z⟩
   simp only [djL,ub] at hd
   exact Vq (p2 true) (q3 hd.2) (qN hd.1)
theorem Jt {mg:La}(G:GOk W mg Γ)(ln:Bool)(ms:List Md)(cs:List Xp)(es:Lg){N:Lh}{sc:Scope}{cm:Bool}{E:XS}(hh:chkA N sc cm ln ms cs es=true)(nn:qx Γ cs)(hs:noSt es=true):OkM W mg N sc cm E Γ ln ms cs es:=by
 match cs,hh,nn with
 | [],h,_=>
  simp only [chkA,ub,uE] at h
  obtain⟨rfl,rfl⟩:=h
  exact⟨_,[],[],fun X C=>yk,zd7,(fun _ z=>by cases z),fun _=>rfl,fun _=>rfl⟩
 | c::cs,h,n=>
  cases ms with
  | nil=>simp [chkA] at h
  | cons m ms=>
   cases es with
   | nil=>simp [chkA] at h
   | cons e es=>
    simp only [chkA,List.head?_cons,Option.any_some,gP,ub] at h
    obtain⟨h1,h2⟩:=h
    obtain⟨s1,s2⟩:=zL hs
    obtain⟨t,tl,rl,q1,q2,q3,q4,_⟩:=Jt (E:=E) G ln ms cs es h2 n.2 s2
    cases m with
    | mu=>
     rw [uz rfl] at h1
     simp only [ub,uv] at h1
     obtain⟨hc,hd⟩:=h1
     obtain⟨tp,p1,p2⟩:=xq (E:=E) G c e hc n.1
     refine⟨_,_,rl,fun X C=>zav (p1 X C) (q1 X C) (zf s1),zcE p2 q2 (fun j hj z=>qN hd j hj (q3 j z)),fun j z=>?_,q4,fun z=>by cases z⟩
     simp only [zS]
     rcases ud.mp z with z | z
     ·exact zc j (zb j z)
     ·exact zc j (zc j (q3 j z))
    | fz=>
     rw [uy (by decide)] at h1
     simp only [ub,UQ,uQ] at h1
     obtain⟨hc,hd⟩:=h1
     obtain⟨tp,p1,p2⟩:=zi (E:=E) G c e hc n.1
     refine⟨_,_,_,fun X C=>zav (p1 X C) (q1 X C) (zf s1),zcC (p2 ln) q2 (fun j hj z=>?_),fun j z=>?_,fun e=>?_,fun z=>by cases z⟩
     ·cases ln with
      | false=>rw [uy (by decide)] at hj;cases hj
      | true=>
       rw [uz rfl] at hj
       rcases hd with(hd | hd) | hd
       ·cases hd
       ·cases hd
       ·exact qN hd j hj (q3 j z)
     ·simp only [zS]
      rcases ud.mp z with z | z
      ·exact zb j z
      ·exact zc j (q3 j z)
     ·rw [q4 e]
      subst e
      rfl
    | mv=>
     rw [uy (by decide)] at h1
     simp only [ub] at h1
     obtain⟨tp,p1,p2⟩:=zi (E:=E) G c e h1.1 n.1
     refine⟨_,_,rl,fun X C=>zav (p1 X C) (q1 X C) (zf s1),zcD (p2 false) q2,fun j z=>?_,q4,fun z=>by cases z⟩
     simp only [zS]
     rcases ud.mp z with z | z
     ·exact zb j z
     ·exact zc j (q3 j z)
theorem zaw {mg:La}(G:GOk W mg Γ)(cs:List Xp)(e:Option Expr){N:Lh}{sc:Scope}{cm:Bool}{E:XS}(hh:chkO N sc cm cs e=true)(nn:qx Γ cs):∃ t,(∀ X,Ctx W mg X N sc cm E Γ->PO X e t)/\SO W E (zu cs) t (WO cs):=by
 match cs,hh,nn with
 | [],h,_=>
  simp only [chkO,gR] at h
  subst h
  exact⟨_,fun X C=>zbm,zbJ⟩
 | c::cs,h,n=>
  simp only [chkO,ub,uE] at h
  obtain⟨rfl,h⟩:=h
  obtain⟨e',h1,h2⟩:=zd h
  subst h1
  obtain⟨t,p1,p2⟩:=zi (E:=E) G c e' h2 n.1
  refine⟨_,fun X C=>zbn (p1 X C),?_⟩
  have:=zbK (p2 true)
  simpa only [zu,ux] using this
theorem kK {mg:La}(G:GOk W mg Γ)(c:Xp)(e:Expr){N:Lh}{sc:Scope}{cm:Bool}{E:XS}(hh:chkT N sc cm c e=true)(nn:Need Γ c):OkT W mg N sc cm E Γ c e:=by
 match c,hh,nn with
 | .t a,h,n=>
  replace h:(plainT e&&_)=true:=h
  simp only [ub] at h
  obtain⟨ta,a1,a2⟩:=zi (E:=E) G a _ h.2 n
  exact⟨_,fun X C=>Yi C.hK (a1 X C) (zbW h.1),zfS (a2 true)⟩
 | .tn a,h,n=>
  obtain⟨p,h1,h2⟩:=zd h
  obtain⟨pos,rfl⟩:=XB h1
  simp only [ub,uv] at h2
  obtain⟨ta,a1,a2⟩:=kK (E:=E) G a _ h2.2 n
  exact⟨_,fun X C=>by rw [h2.1];exact zde (a1 X C),zfT a2⟩
 | .tb k es,h,n=>
  obtain⟨p,h1,h2⟩:=zd h
  obtain⟨pos,rfl⟩:=zal h1
  simp only [ub,uv,uQ] at h2
  obtain⟨⟨ho,he⟩,hs⟩:=h2
  obtain⟨t,p1,p2⟩:=VC (E:=E) G k es p.2 pos hs n he
  exact⟨t,fun X C=>by rw [ho];exact(p1 X C).pt,zfU p2⟩
 | .cmp op a b,h,n=>
  obtain⟨p,h1,h2⟩:=zd h
  obtain⟨pos,rfl⟩:=Zi h1
  simp only [ub,uv] at h2
  obtain⟨ho,h2⟩:=h2
  obtain⟨eb,h3,h4⟩:=zd h2
  simp only [ub,uQ] at h4
  obtain⟨⟨⟨hm,hd⟩,ha⟩,hb⟩:=h4
  obtain⟨ta,a1,a2⟩:=zi (E:=E) G a _ ha n.1
  obtain⟨tb,b1,b2⟩:=zi (E:=E) G b _ hb n.2
  exact⟨_,fun X C=>by rw [ho,ZV h3];exact zbh (kD C.hK C.hu op) (a1 X C) (b1 X C) hm,zcB (KR (md:=true) (a2 true) (b2 true) (qN hd)) fun s K X z=>z⟩
 | .chn o1 o2 a b c,h,n=>
  obtain⟨p,h1,h2⟩:=zd h
  obtain⟨pos,rfl⟩:=Zi h1
  simp only [ub,uv] at h2
  obtain⟨ho,h2⟩:=h2
  obtain⟨q,h3,h4⟩:=zd h2
  simp only [ub,uQ] at h4
  obtain⟨⟨⟨hm,ha⟩,hb⟩,hc⟩:=h4
  obtain⟨ta,a1,a2⟩:=zi (E:=E) G a _ ha n.1
  obtain⟨tb,b1,b2⟩:=zi (E:=E) G b _ hb n.2.1
  obtain⟨tc,c1,c2⟩:=zi (E:=E) G c _ hc n.2.2
  exact⟨_,fun X C=>by rw [ho,Jr h3];exact YN (kD C.hK C.hu o1) (kD C.hK C.hu o2) (a1 X C) (b1 X C) (c1 X C) hm,zcB (KS (md:=true) (a2 true) (b2 true) (c2 true)) fun s K X z=>z⟩
 | .b _,h,_=>exact zj h
 | .a _ _,h,_=>exact zj h
 | .v _,h,_=>exact zj h
 | .m _,h,_=>exact zj h
 | .c _,h,_=>exact zj h
 | .g _ _,h,_=>exact zj h
 | .frz _,h,_=>exact zj h
 | .fp _,h,_=>exact zj h
 | .bin _ _ _,h,_=>exact zj h
 | .neg _,h,_=>exact zj h
 | .bo _ _,h,_=>exact zj h
 | .not _,h,_=>exact zj h
 | .ife _ _ _,h,_=>exact zj h
 | .lst _,h,_=>exact zj h
 | .tup _,h,_=>exact zj h
 | .dct _,h,_=>exact zj h
 | .ix _ _,h,_=>exact zj h
 | .sl _ _ _,h,_=>exact zj h
 | .at _ _ _,h,_=>exact zj h
 | .call _ _ _ _ _,h,_=>exact zj h
 | .meth _ _ _ _ _ _,h,_=>exact zj h
 | .make _ _ _ _ _,h,_=>exact zj h
 | .bi _ _,h,_=>exact zj h
 | .isi _ _,h,_=>exact zj h
 | .me _ _ _,h,_=>exact zj h
 | .mu _ _ _,h,_=>exact zj h
 | .lc _ _ _ _ _,h,_=>exact zj h
 | .tpl _,h,_=>exact zj h
 | .kget _ _ _,h,_=>exact zj h
 | .isc _ _ _,h,_=>exact zj h
theorem VC {mg:La}(G:GOk W mg Γ)(k:Bool)(cs:List Xp)(es:Lg)(pos:Pos){N:Lh}{sc:Scope}{cm:Bool}{E:XS}(hh:xb N sc cm cs es=true)(nn:qx Γ cs)(h1:cs.isEmpty=false):∃ t,(∀ X,Ctx W mg X N sc cm E Γ->PW X (.BoolOp (if k then .And else .Or) es pos) t)/\ST W E (zu cs) t (WTb k cs):=by
 match cs,hh,nn,h1 with
 | [],_,_,h1=>cases h1
 | c::cs,h,n,_=>
  cases es with
  | nil=>simp [xb] at h
  | cons e es=>
   simp only [xb,ub] at h
   obtain⟨k1,k2⟩:=h
   obtain⟨t,p1,p2⟩:=kK (E:=E) G c e k1 n.1
   cases hcs:cs.isEmpty with
   | true=>
    rw [uE] at hcs
    subst hcs
    simp only [xb,uE] at k2
    subst k2
    refine⟨t,fun X C=>?_,?_⟩
    ·cases k with
     | true=>exact zbb (p1 X C)
     | false=>exact zdc (p1 X C)
    ·have:=VB (k:=k) p2
     simpa only [zu,ux] using this
   | false=>
    obtain⟨u,q1,q2⟩:=VC (E:=E) G k cs es pos k2 n.2 hcs
    cases es with
    | nil=>
     cases cs with
     | nil=>cases hcs
     | cons _ _=>simp [xb] at k2
    | cons e2 es2=>
     have st:=KY (k:=k) p2 q2
     cases k with
     | true=>exact⟨_,fun X C=>zdd (p1 X C) (q1 X C),st⟩
     | false=>exact⟨_,fun X C=>zfc (p1 X C) (q1 X C),st⟩
theorem Wy {mg:La}(G:GOk W mg Γ)(cs:List Xp)(es:Lg){N:Lh}{sc:Scope}{cm:Bool}{E:XS}(hh:xb N sc cm cs es=true)(nn:qx Γ cs)(h1:es.length<=1):∃ t,(∀ X,Ctx W mg X N sc cm E Γ->PTs X es t)/\ST W E (zu cs) t (WTb true cs):=by
 match cs,hh,nn with
 | [],h,_=>
  simp only [xb,uE] at h
  subst h
  exact⟨_,fun X C=>zbs,zbN⟩
 | c::cs,h,n=>
  cases es with
  | nil=>simp [xb] at h
  | cons e es=>
   simp only [xb,ub] at h
   have he:es=[]:=by cases es with
    | nil=>rfl
    | cons a b=>simp at h1
   subst he
   have hcs:cs=[]:=by cases cs with
    | nil=>rfl
    | cons a b=>simp [xb] at h
   subst hcs
   obtain⟨t,p1,p2⟩:=kK (E:=E) G c e h.1 n.1
   refine⟨t,fun X C=>zbt (p1 X C),?_⟩
   have:=VB (k:=true) p2
   simpa only [zu,ux] using this
theorem VD {mg:La}(G:GOk W mg Γ)(k:Bool)(cs:List Xp)(es:Lg)(pos:Pos){N:Lh}{sc:Scope}{cm:Bool}{E:XS}(hh:qD N sc cm cs es=true)(nn:qx Γ cs)(h1:cs.isEmpty=false):∃ t,(∀ X,Ctx W mg X N sc cm E Γ->PE X (.BoolOp (if k then .And else .Or) es pos) t)/\SE W E (zu cs) [] t (WB k cs):=by
 match cs,hh,nn,h1 with
 | [],_,_,h1=>cases h1
 | c::cs,h,n,_=>
  cases es with
  | nil=>simp [qD] at h
  | cons e es=>
   simp only [qD,ub] at h
   obtain⟨k1,k2⟩:=h
   obtain⟨t,p1,p2⟩:=zi (E:=E) G c e k1 n.1
   cases hcs:cs.isEmpty with
   | true=>
    rw [uE] at hcs
    subst hcs
    simp only [qD,uE] at k2
    subst k2
    refine⟨t,fun X C=>zdf (p1 X C),?_⟩
    have:=zd6 (k:=k) (p2 true)
    simpa only [zu,ux] using this
   | false=>
    obtain⟨u,q1,q2⟩:=VD (E:=E) G k cs es pos k2 n.2 hcs
    cases es with
    | nil=>
     cases cs with
     | nil=>cases hcs
     | cons _ _=>simp [qD] at k2
    | cons e2 es2=>
     cases cs with
     | nil=>cases hcs
     | cons c2 cs2=>
      have st:=zbM (k:=k) (p2 true) q2
      cases k with
      | true=>exact⟨_,fun X C=>zdg (p1 X C) (q1 X C),st⟩
      | false=>exact⟨_,fun X C=>zfd (p1 X C) (q1 X C),st⟩
theorem XE {mg:La}(G:GOk W mg Γ)(k:IK)(cs:List Xp)(e tg:Expr){N:Lh}{sc:Scope}{cm:Bool}{E:XS}(hh:chkI N sc cm k cs e (ZW tg)=true)(nn:qx Γ cs)(nb:k≠.seq->Γ.B (ikN k)):∃ wi rl,(∀ X,Ctx W mg X N sc cm E Γ->PI X tg e wi)/\SI W E (zu cs) rl wi (fun s Q X=>WEs true cs s (fun ts s1=>∃ ds,itT k ts=some ds/\Q ds s1) X)/\∀ j∈rl,j∈roots cs:=by
 match cs,hh,nn with
 | [],h,_=>simp [chkI] at h
 | c::cs,h,n=>
  simp only [chkI] at h
  split at h
  ·rename_i hk
   subst hk
   simp only [ub,uE] at h
   obtain⟨rfl,h⟩:=h
   obtain⟨t,p1,p2⟩:=zi (E:=E) G c e h n.1
   refine⟨_,root c,fun X C=>K6 C.hK (p1 X C),?_,fun j z=>by simpa only [roots,ux] using z⟩
   have:=zd9 (p2 true)
   simpa only [zu,ux,Ul] using this
  ·rename_i hk
   simp only [ub] at h
   obtain⟨htup,h⟩:=h
   obtain⟨p,h1,h2⟩:=zd h
   have hp:=qC h1
   subst hp
   simp only [ub,uE,uv] at h2
   obtain⟨⟨⟨⟨⟨⟨hg,hkw⟩,hs⟩,hd⟩,hl⟩,hz⟩,h3⟩:=h2
   obtain⟨np,hx,hg⟩:=qE hg
   have hB:=nb hk
   obtain⟨e1,h4,h5⟩:=zd h3
   simp only [ub] at h5
   obtain⟨h5,h6⟩:=h5
   have hes:∃ r,p.2.1=e1::r:=by
    cases hq:p.2.1 with
    | nil=>rw [hq] at h4;cases h4
    | cons a r=>rw [hq] at h4;cases h4;exact⟨r,rfl⟩
   obtain⟨r,hes⟩:=hes
   rw [hes] at h6 hs
   rw [gP] at h6
   obtain⟨s1,s2⟩:=zL hs
   obtain⟨t,p1,p2⟩:=zi (E:=E) G c e1 h5 n.1
   simp only [djL,ub] at hd
   cases cs with
   | nil=>
    simp only [qD,uE] at h6
    subst h6
    have pa:∀ X,Ctx W mg X N sc cm E Γ->PA X [e1] (j9 t tNil):=fun X C=>jU (p1 X C) yk (zf s1)
    have st1:∀ env:Env,starEach [e1] env=[(false,eval e1 env)]:=fun env=>zf s1
    have hrt:∀ j∈root c,j∈roots [c]:=fun j z=>by simpa only [roots,ux] using z
    have tch:zu [c]=zp c:=by simp only [zu,ux]
    rw [tch]
    have tupE:k=.enumS->∃ l kk pp,tg=.Tuple l kk pp:=fun ek=>by
     have:ZW tg=true:=by
      subst ek;simpa using htup
     unfold ZW at this
     cases hq:eTup tg with
     | none=>rw [hq] at this;cases this
     | some l=>obtain⟨kk,pp,z⟩:=Jp hq;exact⟨l,kk,pp,z⟩
    cases k with
    | seq=>exact absurd rfl hk
    | rng=>exact⟨_,_,fun X C=>by rw [hx,hkw,hes];exact VZ (C.gl hg).1 (C.blt _ hB) (pa X C) (st1 _),zbP (p2 true),hrt⟩
    | enumS=>
     obtain⟨l,kk,pp,rfl⟩:=tupE rfl
     exact⟨_,_,fun X C=>by rw [hx,hkw,hes];exact Ke (C.gl hg).1 (C.blt _ hB) (pa X C) (st1 _),zea (p2 true),hrt⟩
   | cons c2 cs2=>
    have hc2:cs2=[]:=by cases cs2 with
     | nil=>rfl
     | cons _ _=>simp at hl
    subst hc2
    cases r with
    | nil=>simp [qD] at h6
    | cons e2 r2=>
     simp only [qD,ub,uE] at h6
     obtain⟨h6,rfl⟩:=h6
     obtain⟨s3,s4⟩:=zL s2
     obtain⟨t2,q1,q2⟩:=zi (E:=E) G c2 e2 h6 n.2.1
     have pa:∀ X,Ctx W mg X N sc cm E Γ->PA X [e1,e2] (j9 t (j9 t2 tNil)):=fun X C=>jU (p1 X C) (jU (q1 X C) yk (zf s3)) (zf s1)
     have st2:∀ env:Env,starEach [e2] env=[(false,eval e2 env)]:=fun env=>zf s3
     have st1:∀ env:Env,starEach [e1,e2] env=[(false,eval e1 env),(false,eval e2 env)]:=fun env=>by rw [zf s1,st2]
     cases k with
     | seq=>exact absurd rfl hk
     | rng=>
      refine⟨_,[],fun X C=>by rw [hx,hkw,hes];exact V0 (C.gl hg).1 (C.blt _ hB) (pa X C) (st1 _) (st2 _),?_,fun _ z=>by cases z⟩
      have:=zbQ (p2 true) (q2 true)
      simpa only [zu,ux] using this
     | enumS=>simp at hz
end
end L4
namespace L4
open PySem L2 PySem.Spec PyProof.Rows
variable {W:Wd} {Γ:Env4}
noncomputable def sRet:Stmt->Option (Option Expr)
 | .Return e _=>some e
 | _=>none
noncomputable def sAsg:Stmt->Option (Lg×Expr×Pos)
 | .Assign tg e p=>some (tg,e,p)
 | _=>none
noncomputable def sAug:Stmt->Option (Expr×Operator×Expr)
 | .AugAssign t o e _=>some (t,o,e)
 | _=>none
noncomputable def sIf:Stmt->Option (Expr×List Stmt×List Stmt)
 | .If t a b _=>some (t,a,b)
 | _=>none
noncomputable def sFor:Stmt->Option (Expr×Expr×List Stmt)
 | .For t i b [] _=>some (t,i,b)
 | _=>none
noncomputable def sWh:Stmt->Option (Expr×List Stmt)
 | .While t b [] _=>some (t,b)
 | _=>none
noncomputable def sEx:Stmt->Option Expr
 | .Expr e _=>some e
 | _=>none
theorem zb2 {s:Stmt}{x:Option Expr}(h:sRet s=some x):∃ p,s=.Return x p:=by cases s<;>first | exact zV h | (cases h;exact⟨_,rfl⟩)
theorem zb3 {s:Stmt}{x:Lg×Expr×Pos}(h:sAsg s=some x):s=.Assign x.1 x.2.1 x.2.2:=by cases s<;>first | exact zV h | (cases h;rfl)
theorem zb4 {s:Stmt}{x:Expr×Operator×Expr}(h:sAug s=some x):∃ p,s=.AugAssign x.1 x.2.1 x.2.2 p:=by cases s<;>first | exact zV h | (cases h;exact⟨_,rfl⟩)
theorem zep {s:Stmt}{x:Expr×List Stmt×List Stmt}(h:sIf s=some x):∃ p,s=.If x.1 x.2.1 x.2.2 p:=by cases s<;>first | exact zV h | (cases h;exact⟨_,rfl⟩)
theorem VE {s:Stmt}{x:Expr×Expr×List Stmt}(h:sFor s=some x):∃ p,s=.For x.1 x.2.1 x.2.2 [] p:=by
 cases s with
 | For t i b e p=>
  cases e with
  | nil=>cases h;exact⟨_,rfl⟩
  | cons _ _=>cases h
 | _=>cases h
theorem zeq {s:Stmt}{x:Expr×List Stmt}(h:sWh s=some x):∃ p,s=.While x.1 x.2 [] p:=by
 cases s with
 | While t b e p=>
  cases e with
  | nil=>cases h;exact⟨_,rfl⟩
  | cons _ _=>cases h
 | _=>cases h
theorem zer {s:Stmt}{x:Expr}(h:sEx s=some x):∃ p,s=.Expr x p:=by cases s<;>first | exact zV h | (cases h;exact⟨_,rfl⟩)
noncomputable def locN (N:Lh)(sc:Scope)(i:Nat)(e:Expr):Bool:=(eName e).any fun x=>decide (N[i]? = some x)&&(decide (sc.names.lookup x=some .local)||decide (sc.names.lookup x=some .cell))
noncomputable def yV (N:Lh)(sc:Scope):Lc->Lg->Bool
 | [],es=>es.isEmpty
 | i::is,es=>match es with
  | e::es=>locN N sc i e&&yV N sc is es
  | []=>false
noncomputable def isLc:Xp->Bool
 | .lc _ _ _ _ _=>true
 | _=>false
noncomputable def asgT:Tg->Lc
 | .v i=>[i]
 | .tup is=>is
 | .al j=>[j]
 | _=>[]
mutual
noncomputable def asgS:Cm->Lc
 | .asg t _=>asgT t
 | .aug i _ _=>[i]
 | .ife _ a b=>we a++we b
 | .loop t _ _ b=>asgT t++we b
 | .loopA j _ _ b=>[j]++we b
 | .whl _ b=>we b
 | _=>[]
noncomputable def we:List Cm->Lc
 | []=>[]
 | c::cs=>asgS c++we cs
end
noncomputable def plainS (tg e:Expr):Bool:=ZT e&&!star tg&&(noTL tg||zak e)
noncomputable def chkG (N:Lh)(sc:Scope)(cm:Bool)(t:Tg)(e:Xp)(tg e':Expr):Bool:=
 match t with
 | .v i=>(plainS tg e'||isLc e)&&locN N sc i tg&&chkE N sc cm e e'
 | .tup is=>plainS tg e'&&cm&&(eTup tg).any (fun es=>yV N sc is es)&&chkE N sc cm e e'
 | .sub p k=>plainS tg e'&&(eSub tg).any (fun q=>yU q.2&&djs (root p) (zp k)&&chkP N sc cm p q.1&&chkE N sc cm k q.2)&&chkE N sc cm e e'
 | .fld p _ f=>ZT e'&&(eAtt tg).any (fun q=>decide (q.2.1=f)&&chkP N sc cm p q.1)&&chkE N sc cm e e'
 | .al j=>plainS tg e'&&locN N sc j tg&&chkP N sc cm e e'
noncomputable def chkL (N:Lh)(sc:Scope)(cm:Bool)(t:Tg)(tg:Expr):Bool:=
 match t with
 | .v i=>locN N sc i tg
 | .tup is=>cm&&(eTup tg).any fun es=>yV N sc is es
 | _=>false
noncomputable def opN:BO->Option Operator
 | .add=>some .Add
 | .sub=>some .Sub
 | _=>none
mutual
noncomputable def chkS (N:Lh)(sc:Scope)(cm:Bool):Cm->Stmt->Bool
 | .ret e,s=>(sRet s).any fun o=>o.any fun e'=>chkE N sc cm e e'
 | .asg t e,s=>(sAsg s).any fun p=>(one? p.1).any fun tg=>chkG N sc cm t e tg p.2.1
 | .aug i op e,s=>(sAug s).any fun p=>decide (opN op=some p.2.1)&&locN N sc i p.1&&chkE N sc cm e p.2.2
 | .ife t a b,s=>(sIf s).any fun p=>chkT N sc cm t p.1&&jQ N sc cm a p.2.1&&jQ N sc cm b p.2.2
 | .loop t k its b,s=>(sFor s).any fun p=>cm&&Vx p.2.1&&chkL N sc cm t p.1&&chkI N sc cm k its p.2.1 (ZW p.1)&&djs (roots its) (Jk t++jW b)&&jQ N sc cm b p.2.2
 | .loopA j h i b,s=>(sFor s).any fun p=>cm&&Vx p.2.1&&locN N sc j p.1&&chkV N sc (h.getD i) p.2.1&&decide (j≠i)&&decide (j≠h.getD i)&&!(we b).contains (h.getD i)&&jQ N sc cm b p.2.2
 | .whl t b,s=>(sWh s).any fun p=>chkT N sc cm t p.1&&jQ N sc cm b p.2
 | .ex e,s=>(sEx s).any fun e'=>ZT e'&&chkE N sc cm e e'
 | .never,_=>true
noncomputable def jQ (N:Lh)(sc:Scope)(cm:Bool):List Cm->List Stmt->Bool
 | [],ss=>ss.isEmpty
 | c::cs,ss=>match ss with
  | s::ss=>chkS N sc cm c s&&jQ N sc cm cs ss
  | []=>false
end
def zcH (Γ:Env4):Tg->Prop
 | .sub p k=>Need Γ p/\Need Γ k
 | .fld p c f=>Need Γ p/\Γ.A c f
 | _=>True
mutual
noncomputable def yf (Γ:Env4):Cm->Prop
 | .ret e=>Need Γ e
 | .asg t e=>zcH Γ t/\Need Γ e
 | .aug _ _ e=>Need Γ e
 | .ife t a b=>Need Γ t/\jA Γ a/\jA Γ b
 | .loop t k its b=>(k≠.seq->Γ.B (ikN k))/\qx Γ its/\jA Γ b
 | .loopA _ _ _ b=>jA Γ b
 | .whl t b=>Need Γ t/\jA Γ b
 | .ex e=>Need Γ e
 | _=>True
noncomputable def jA (Γ:Env4):List Cm->Prop
 | []=>True
 | c::cs=>yf Γ c/\jA Γ cs
end
structure CtxS (W:Wd)(mg:La)(X:Cx)(N:Lh)(sc:Scope)(cm:Bool)(E:XS)(Γ:Env4):Prop extends Ctx W mg X N sc cm E Γ where
 po:PassesOwn (model X.prog X.w) X.A X.env X.xe
 fn:∀ x,X.fn x=true
section
variable {mg:La} {N:Lh} {sc:Scope} {cm:Bool} {E:XS}
theorem yW {i:Nat}{e:Expr}(h:locN N sc i e=true):∃ x p,e=.Name x p/\N[i]? = some x/\Loc sc x:=by
 obtain⟨x,h1,h2⟩:=zd h
 obtain⟨p,rfl⟩:=ZU h1
 simp only [ub,UQ,uv] at h2
 exact⟨x,p,rfl,h2.1,h2.2⟩
theorem xu {i:Nat}{e:Expr}(h:locN N sc i e=true):i<N.length:=by
 obtain⟨x,p,_,h1,_⟩:=yW h
 exact(uF.mp h1).1
theorem CtxS.pgn {X:Cx}(C:CtxS W mg X N sc cm E Γ){i:Nat}{e:Expr}(h:locN N sc i e=true):PG X e (jv i):=by
 obtain⟨x,p,rfl,h1,h2⟩:=yW h
 exact Q9 (by rw [C.hN];exact C.nd) (by rw [C.hN];exact h1) (by rw [C.hs];exact h2) (.inl (C.fn x))
theorem CtxS.pgns {X:Cx}(C:CtxS W mg X N sc cm E Γ):∀ {is:Lc} {es:Lg},yV N sc is es=true->PGs X es (is.foldr (fun i g=>Zu (jv i) g) gNil)/\(assignEach es X.env).length=is.length/\(assignEach es X.env).findIdx? (·.1)=none
 | [],es,h=>by
  simp only [yV,uE] at h
  subst h
  exact⟨X1,rfl,rfl⟩
 | i::is,es,h=>by
  simp only [yV] at h
  split at h
  ·rename_i e es
   rw [ub] at h
   obtain⟨h1,h2,h3⟩:=C.pgns h.2
   have hn:=C.pgn h.1
   obtain⟨x,p,rfl,_⟩:=yW h.1
   have ac:(assignEach (.Name x p::es) X.env)=(false,assign (.Name x p) X.env)::assignEach es X.env:=rfl
   exact⟨JW hn h1 rfl,by rw [ac,ua,ua,h2],by rw [ac,gB,h3];rfl⟩
  ·cases h
theorem Wz:∀ {is:Lc} {es:Lg},yV N sc is es=true->∀ i∈is,i<N.length
 | [],_,_,_,h=>by cases h
 | i::is,es,h,j,hj=>by
  simp only [yV] at h
  split at h
  ·rw [ub] at h
   rcases um.mp hj with rfl | hj
   ·exact xu h.1
   ·exact Wz h.2 j hj
  ·cases h
theorem zax {tg:Expr}{is:Lc}(h:(cm&&(eTup tg).any fun es=>yV N sc is es)=true):(∀ X,CtxS W mg X N sc cm E Γ->PG X tg (gTup W.K is.length (is.foldr (fun i g=>Zu (jv i) g) gNil)))/\∀ i∈is,i<N.length:=by
 rw [ub] at h
 obtain⟨hc,h⟩:=h
 subst hc
 obtain⟨es,h1,h2⟩:=zd h
 obtain⟨k,p,rfl⟩:=Jp h1
 refine⟨fun X C=>?_,Wz h2⟩
 obtain⟨p1,p2,p3⟩:=C.pgns h2
 rw [← C.hK]
 exact YG C.hc p1 p2 p3
theorem Yt {tg e:Expr}(h:plainS tg e=true):ZT e=true/\star tg=false/\(noTL tg||zak e)=true:=by
 unfold plainS at h
 rw [ub,ub,uQ] at h
 exact⟨h.1.1,h.1.2,h.2⟩
theorem yX {X:Cx}{tg e:Expr}{te:TE}{g:TG}{pos:Pos}(h:plainS tg e=true)(he:PE X e te)(hg:PG X tg g):PS X (.Assign [tg] e pos) (tAsg te g):=by
 obtain⟨h1,h2,h3⟩:=Yt h
 exact zdl he hg (Jo h1) (Ys h3) (XA h2)
theorem zes {o i:Expr}{pos:Pos}{env:Env}(h:yU i=true)(v:Value):assign (.Subscript o i pos) env v=(do
   let ov ← holding [v] (eval o env)
   let iv ← holding [v,ov] (eval i env)
   standAt pos
   holding [v,ov,iv] (setItem ov iv v)
   release [v,ov,iv] []):=by cases i<;>first | rfl | cases h
def OkS (W:Wd)(mg:La)(N:Lh)(sc:Scope)(cm:Bool)(E:XS)(Γ:Env4)(c:Cm)(s:Stmt):Prop:=∃ t,(∀ X,CtxS W mg X N sc cm E Γ->PS X s t)/\SS W E N.length (asgS c) (Kt c) t (WS c)
def OkSs (W:Wd)(mg:La)(N:Lh)(sc:Scope)(cm:Bool)(E:XS)(Γ:Env4)(cs:List Cm)(ss:List Stmt):Prop:=∃ t,(∀ X,CtxS W mg X N sc cm E Γ->PSs X ss t)/\SS W E N.length (we cs) (jW cs) t (WSs cs)
theorem zb5 (G:GOk W mg Γ){i:Nat}{elt:Xp}{m:Nat}{k:IK}{its ifs:List Xp}{tg e:Expr}{spos:Pos}(hl:locN N sc i tg=true)(h:chkE N sc cm (.lc elt m k its ifs) e=true)(n:Need Γ (.lc elt m k its ifs)):OkS W mg N sc cm E Γ (.asg (.v i) (.lc elt m k its ifs)) (.Assign [tg] e spos):=by
 have hlt:=xu hl
 have hme:i∈asgS (.asg (.v i) (.lc elt m k its ifs)):=by simp [asgS,asgT]
 obtain⟨z,pz,rfl,l1,l2⟩:=yW hl
 obtain⟨p,h1,h2⟩:=zd h
 obtain⟨pos,rfl⟩:=zam h1
 obtain⟨g,h3,h4⟩:=zd h2
 have hg:=zau h3
 simp only [ub,uv] at h4
 obtain⟨⟨⟨⟨⟨hc,hset⟩,hle⟩,hi⟩,hd⟩,h5⟩:=h4
 subst hc
 obtain⟨wi,rl,i1,i2,i3⟩:=XE (E:=E) G k its g.2.1 g.1 hi n.2.2.1 n.2.1
 have dj:∀ j∈rl,j∉outT m (zp elt++zu ifs):=fun j hj=>qN hd j (i3 j hj)
 obtain⟨q,e1,e2⟩:=zd h5
 simp only [ub,uv] at e2
 obtain⟨⟨⟨⟨hn,htu⟩,hl⟩,he⟩,ht⟩:=e2
 obtain⟨te,q1,q2⟩:=zi (E:=fun _ _ _ _=>False) G elt p.1 he n.1
 obtain⟨tt,t1,t2⟩:=Wy (E:=fun _ _ _ _=>False) G ifs g.2.2 ht n.2.2.2 hle
 subst hn
 refine⟨_,fun X C=>?_,zag hlt hme (zcF i2 t2 (q2 false) rfl (Vu htu) dj)⟩
 obtain⟨L,bl⟩:=C.toCtx.blkG hl
 have hN:X.N.Nodup:=by rw [C.hN];exact C.nd
 have hi':X.N[i]? = some z:=by rw [C.hN];exact l1
 have hz:Loc X.env.scope z:=by rw [C.hs];exact l2
 rw [hg]
 obtain⟨b,hb⟩:∃ b,swapsWith (.ListComp p.1 [⟨g.1,g.2.1,g.2.2,0⟩] p.2.2 pos) (some (.Name z pz)) spos.line X.env=pure b:=⟨_,rfl⟩
 cases b with
 | true=>exact Yr hN hi' hz L (i1 X C.toCtx) (fun cl Ca s3 H3 fp=>t1 _ (bl cl Ca s3 H3 fp)) (fun cl Ca s3 H3 fp=>q1 _ (bl cl Ca s3 H3 fp)) (C.toCtx.tgt L e1) (Xy htu) (kI hset) hb (.inl (C.fn z))
 | false=>exact zdm hN hi' hz (zae L (i1 X C.toCtx) (fun cl Ca s3 H3 fp=>t1 _ (bl cl Ca s3 H3 fp)) (fun cl Ca s3 H3 fp=>q1 _ (bl cl Ca s3 H3 fp)) (C.toCtx.tgt L e1) (Xy htu) (kI hset)) hb (.inl (C.fn z))
theorem zet (G:GOk W mg Γ)(t:Tg)(c:Xp)(tg e:Expr)(spos:Pos)(h:chkG N sc cm t c tg e=true)(n:zcH Γ t)(n':Need Γ c):OkS W mg N sc cm E Γ (.asg t c) (.Assign [tg] e spos):=by
 cases t with
 | v i=>
  simp only [chkG,ub,UQ] at h
  obtain⟨⟨h0,h1⟩,h2⟩:=h
  rcases h0 with h0 | h0
  ·obtain⟨te,p1,p2⟩:=zi (E:=E) G c e h2 n'
   exact⟨_,fun X C=>yX h0 (p1 X C.toCtx) (C.pgn h1),zag (xu h1) (by simp [asgS,asgT]) (p2 false)⟩
  ·cases c with
   | lc elt m k its ifs=>exact zb5 G h1 h2 n'
   | _=>cases h0
 | tup is=>
  simp only [chkG,ub] at h
  obtain⟨⟨⟨h0,h1⟩,h2⟩,h3⟩:=h
  obtain⟨te,p1,p2⟩:=zi (E:=E) G c e h3 n'
  obtain⟨g1,g2⟩:=zax (W:=W) (mg:=mg) (N:=N) (sc:=sc) (cm:=cm) (E:=E) (Γ:=Γ) (tg:=tg) (is:=is) (by rw [ub];exact⟨h1,h2⟩)
  exact⟨_,fun X C=>yX h0 (p1 X C.toCtx) (g1 X C),zbV (fun i hi=>⟨g2 i hi,by simp only [asgS,asgT];exact hi⟩) (p2 false)⟩
 | sub p k=>
  simp only [chkG,ub] at h
  obtain⟨⟨h0,h1⟩,h2⟩:=h
  obtain⟨q,h3,h4⟩:=zd h1
  obtain⟨pp,rfl⟩:=Zj h3
  simp only [ub] at h4
  obtain⟨⟨⟨h5,h6⟩,h7⟩,h8⟩:=h4
  obtain⟨te,p1,p2⟩:=zi (E:=E) G c e h2 n'
  obtain⟨to,o1,o2⟩:=xq (E:=E) G p q.1 h7 n.1
  obtain⟨tk,k1,k2⟩:=zi (E:=E) G k q.2 h8 n.2
  exact⟨_,fun X C=>yX h0 (p1 X C.toCtx) (zdk (o1 X C.toCtx) (k1 X C.toCtx) (zah C.hu) (zes h5)),zeg (p2 false) o2 (k2 true) (qN h6)⟩
 | fld p cc f=>
  simp only [chkG,ub] at h
  obtain⟨⟨h0,h1⟩,h2⟩:=h
  obtain⟨q,h3,h4⟩:=zd h1
  have hq:=xp h3
  simp only [ub,uv] at h4
  obtain⟨h5,h6⟩:=h4
  obtain⟨te,p1,p2⟩:=zi (E:=E) G c e h2 n'
  obtain⟨to,o1,o2⟩:=xq (E:=E) G p q.1 h6 n.1
  obtain⟨a1,a2⟩:=G.a cc f n.2
  refine⟨_,fun X C=>?_,zeh a1 a2 (p2 false) o2⟩
  rw [hq,h5,← C.hK]
  exact zdw (o1 X C.toCtx) (p1 X C.toCtx) (Jo h0)
 | al j=>
  simp only [chkG,ub] at h
  obtain⟨⟨h0,h1⟩,h2⟩:=h
  obtain⟨te,p1,p2⟩:=xq (E:=E) G c e h2 n'
  exact⟨_,fun X C=>yX h0 (p1 X C.toCtx) (C.pgn h1),zfL (xu h1) (by simp [asgS,asgT]) p2⟩
end
mutual
theorem zeu {mg:La}(G:GOk W mg Γ)(c:Cm)(s:Stmt){N:Lh}{sc:Scope}{cm:Bool}{E:XS}(hh:chkS N sc cm c s=true)(nn:yf Γ c):OkS W mg N sc cm E Γ c s:=by
 match c,hh,nn with
 | .ret e,h,n=>
  simp only [yf] at n
  obtain⟨o,h1,h2⟩:=zd h
  obtain⟨p,rfl⟩:=zb2 h1
  obtain⟨e',rfl,h3⟩:=zd h2
  obtain⟨t,p1,p2⟩:=zi (E:=E) G e _ h3 n
  exact⟨_,fun X C=>zdi (p1 X C.toCtx),zee (p2 false)⟩
 | .asg t e,h,n=>
  simp only [yf] at n
  obtain⟨p,h1,h2⟩:=zd h
  obtain⟨tg,h3,h4⟩:=zd h2
  have hp:=zb3 h1
  rw [ZV h3] at hp
  subst hp
  exact zet G t e _ _ _ h4 n.1 n.2
 | .aug i op e,h,n=>
  simp only [yf] at n
  obtain⟨p,h1,h2⟩:=zd h
  obtain⟨pos,hp⟩:=zb4 h1
  simp only [ub,uv] at h2
  obtain⟨⟨h3,h4⟩,h5⟩:=h2
  obtain⟨te,p1,p2⟩:=zi (E:=E) G e _ h5 n
  have hlt:=xu h4
  obtain⟨x,px,hx,l1,l2⟩:=yW h4
  rw [hx] at hp
  have hm:i∈asgS (.aug i op e):=by simp [asgS]
  cases op<;>simp only [opN,reduceCtorEq,uw] at h3
  ·rw [← h3] at hp
   subst hp
   exact⟨_,fun X C=>YH (by rw [C.hN];exact C.nd) (by rw [C.hN];exact l1) (by rw [C.hs];exact l2) (p1 X C.toCtx) zdn (.inl (C.fn _)),zai (op:=.add) (.inl rfl) hlt hm (p2 true)⟩
  ·rw [← h3] at hp
   subst hp
   exact⟨_,fun X C=>YH (by rw [C.hN];exact C.nd) (by rw [C.hN];exact l1) (by rw [C.hs];exact l2) (p1 X C.toCtx) zdo (.inl (C.fn _)),zai (op:=.sub) (.inr rfl) hlt hm (p2 true)⟩
 | .ife t a b,h,n=>
  simp only [yf] at n
  obtain⟨p,h1,h2⟩:=zd h
  obtain⟨pos,rfl⟩:=zep h1
  simp only [ub] at h2
  obtain⟨⟨h0,h1⟩,h2⟩:=h2
  obtain⟨tt,t1,t2⟩:=kK (E:=E) G t _ h0 n.1
  obtain⟨ta,a1,a2⟩:=wB (E:=E) G a _ h1 n.2.1
  obtain⟨tb,b1,b2⟩:=wB (E:=E) G b _ h2 n.2.2
  exact⟨_,fun X C=>zfe (t1 X C.toCtx) (a1 X C) (b1 X C),zef t2 (a2.amono (as':=asgS (.ife t a b)) fun j hj=>by simp only [asgS];exact zb j hj) (b2.amono fun j hj=>by simp only [asgS];exact zc j hj)⟩
 | .loop t k its b,h,n=>
  simp only [yf] at n
  obtain⟨p,h1,h2⟩:=zd h
  obtain⟨pos,rfl⟩:=VE h1
  simp only [ub] at h2
  obtain⟨⟨⟨⟨⟨hc,h0⟩,h2⟩,h3⟩,h5⟩,h4⟩:=h2
  subst hc
  obtain⟨wi,rl,i1,i2,i3⟩:=XE (E:=E) G k its p.2.1 p.1 h3 n.2.1 n.1
  obtain⟨tb,b1,b2⟩:=wB (E:=E) G b _ h4 n.2.2
  have b3:=b2.amono (as':=asgS (.loop t k its b)) fun j hj=>by simp only [asgS];exact zc j hj
  have dj:∀ j∈rl,j∉Jk t++jW b:=fun j hj=>qN h5 j (i3 j hj)
  cases t with
  | v i=>exact⟨_,fun X C=>Xc C.po C.hc (i1 X C.toCtx) (C.pgn h2) (b1 X C) (kI h0),Vw i2 (sb_v (xu h2) (by simp [asgS,asgT])) b3 dj⟩
  | tup is=>
   obtain⟨g1,g2⟩:=zax (W:=W) (mg:=mg) (E:=E) (Γ:=Γ) (N:=N) (sc:=sc) (cm:=true) (tg:=p.1) (is:=is) h2
   exact⟨_,fun X C=>Xc C.po C.hc (i1 X C.toCtx) (g1 X C) (b1 X C) (kI h0),Vw i2 (zei fun i hi=>⟨g2 i hi,by simp only [asgS,asgT];exact zb i hi⟩) b3 dj⟩
  | _=>cases h2
 | .loopA j hh i b,h,n=>
  simp only [yf] at n
  obtain⟨p,h1,h2⟩:=zd h
  obtain⟨pos,rfl⟩:=VE h1
  simp only [ub,uv,uQ] at h2
  obtain⟨⟨⟨⟨⟨⟨⟨hc,h0⟩,h2⟩,h3⟩,h5⟩,h6⟩,h7⟩,h4⟩:=h2
  subst hc
  obtain⟨tb,b1,b2⟩:=wB (E:=E) G b _ h4 n
  refine⟨_,fun X C=>Xc C.po C.hc (K6 C.hK (C.toCtx.var h3)) (C.pgn h2) (b1 X C) (kI h0),zaj (xu h2) (by simp [asgS]) (fun k hk=>by simp only [asgS];exact zc k hk) h5 h6 (fun z=>?_) b2⟩
  rw [← List.contains_iff_mem] at z
  rw [z] at h7
  cases h7
 | .whl t b,h,n=>
  simp only [yf] at n
  obtain⟨p,h1,h2⟩:=zd h
  obtain⟨pos,rfl⟩:=zeq h1
  simp only [ub] at h2
  obtain⟨tt,t1,t2⟩:=kK (E:=E) G t _ h2.1 n.1
  obtain⟨tb,b1,b2⟩:=wB (E:=E) G b _ h2.2 n.2
  exact⟨_,fun X C=>YJ C.po (t1 X C.toCtx) (b1 X C),zej t2 (b2.amono fun j hj=>by simpa only [asgS] using hj)⟩
 | .ex e,h,n=>
  simp only [yf] at n
  obtain⟨e',h1,h2⟩:=zd h
  obtain⟨pos,rfl⟩:=zer h1
  rw [ub] at h2
  obtain⟨te,p1,p2⟩:=zi (E:=E) G e _ h2.2 n
  exact⟨_,fun X C=>zbd (p1 X C.toCtx) (Jo h2.1),zfK (p2 true)⟩
 | .never,h,n=>exact⟨_,fun X C=>YF,zaf⟩
theorem wB {mg:La}(G:GOk W mg Γ)(cs:List Cm)(ss:List Stmt){N:Lh}{sc:Scope}{cm:Bool}{E:XS}(hh:jQ N sc cm cs ss=true)(nn:jA Γ cs):OkSs W mg N sc cm E Γ cs ss:=by
 match cs,hh,nn with
 | [],h,n=>
  simp only [jQ,uE] at h
  subst h
  exact⟨_,fun X C=>zbc,zed⟩
 | c::cs,h,n=>
  simp only [jQ] at h
  split at h
  ·rw [ub] at h
   obtain⟨t,p1,p2⟩:=zeu (E:=E) G c _ h.1 n.1
   obtain⟨u,q1,q2⟩:=wB (E:=E) G cs _ h.2 n.2
   exact⟨_,fun X C=>YE (p1 X C) (q1 X C),zbU (p2.amono fun j hj=>by simp only [we];exact zb j hj) (q2.amono fun j hj=>by simp only [we];exact zc j hj)⟩
  ·cases h
end
end L4
namespace L4
open PySem L2 PySem.Spec PyProof.Rows
variable {W:Wd}
theorem Yu {X:Cx}{E:XS}{k j:Nat}{x:Str}{ps:Lh}{sp:Sp}{p pos:Pos}(hx:Thr X E)(F:OkX X.prog X.w X.K X.mg X.base k x ps sp)(hr:Room j X.A)(hk:k<=j)(hg:Gl X x)(hdb:(x == ("__debug__":Str))=false):PE X (.Call (.Name x p) [] [] pos) (wL sp E tNil):=by
 intro pins s σ H Q I h
 obtain⟨f,fd,kp,b,m,G⟩:=F.ex
 refine wpAny_Call_Name_kw (xj I hg m ?_ hdb)
 exact UB I.kIn kp (Ze (us:=[]) G (hr.mono hk) b hx I .nil h)
theorem Q1 {X:Cx}{k j:Nat}{x:Str}{ps:Lh}{sp:Sp}{p pos:Pos}(F:OkX X.prog X.w X.K X.mg X.base k x ps sp)(hr:Room j X.A)(hk:k<=j)(hg:Gl X x)(hdb:(x == ("__debug__":Str))=false):PE X (.Call (.Name x p) [] [] pos) (QG sp [] E0 tNil):=by
 obtain⟨f,fd,kp,b,m,G⟩:=F.ex
 exact YT G (hr.mono hk) hg m kp b .nil Kc hdb
theorem yY {X:Cx}{e:Expr}{sp:Sp}{t:TA}(h:PE X e (QG sp [] E0 t)):PE X e (wL sp (fun _ _ _ _=>False) t):=by
 have e1:QG sp [] E0 t=wL sp (fun _ _ _ _=>False) t:=by
  funext σ H Q
  show t σ H (fun vs H1=>sp (vs++[]) H1 Q E0)=t σ H fun vs H1=>sp vs H1 Q fun c d H'=>False
  simp only [ux]
 rw [← e1];exact h
noncomputable def Gam (P:Program)(w:World)(mg:La)(base:Heap)(W:Wd)(k:Nat):Env4 where
 F x ms f:=∃ k' ps,k'<=k/\OkX P w W.K mg base k' x ps (SpM W ms f)
 G x t:=∃ v,(∀ F H:Hp,Tr W F H (fzi t) v [])/\∃ u,mg x=some u/\RelV v u
 B x:=mg x=none
 A c f:=Cls W.K (W.cl c)/\qk W.K (W.cl c) f
 M c x ms f:=∃ k' ps,k'<=k/\OkMt P w W.K mg base k' (W.cl c) x ps (SpM W ms f)
 C c x ms f:=∃ k' ps,k' + 1<=k/\OkMk P w W.K mg base k' (W.cl c) x ps (SpM W (.mu::ms) f)
 w:=w
 D x d:=KGet W w mg x d
 I x c:=IsCl W mg x c
theorem zay {P:Program}{w:World}{mg:La}{base:Heap}{k:Nat}{X:Cx}{E:XS}(e:X.prog=P/\X.w=w/\X.K=W.K/\X.mg=mg/\X.base=base)(hr:Room k X.A)(hx:Thr X E):∀ c x ms f,(Gam P w mg base W k).M c x ms f->Js W X E c x ms f:=fun c x ms f ⟨k',ps,hk,F⟩ o es to t apos pos ho ha h0 hb hs hn hl=>by
 obtain⟨rfl,rfl,e3,rfl,rfl⟩:=e
 rw [← e3] at F
 exact zan e3 hx F hr hk ho ha h0 hb hs hn hl
theorem kL {P:Program}{w:World}{mg:La}{base:Heap}{k:Nat}{X:Cx}(e:X.prog=P/\X.w=w/\X.K=W.K/\X.mg=mg/\X.base=base)(hr:Room k X.A):∀ c x ms f,(Gam P w mg base W k).M c x ms f->Js W X (fun _ _ _ _=>False) c x ms f:=fun c x ms f ⟨k',ps,hk,F⟩ o es to t apos pos ho ha h0 hb hs hn hl=>by
 obtain⟨rfl,rfl,e3,rfl,rfl⟩:=e
 rw [← e3] at F
 exact zao e3 F hr hk ho ha h0 hb hs hn hl
theorem yZ {P:Program}{w:World}{mg:La}{base:Heap}{k:Nat}{X:Cx}{E:XS}(e:X.prog=P/\X.w=w/\X.K=W.K/\X.mg=mg/\X.base=base)(hr:Room k X.A)(hx:Thr X E\/E=fun _ _ _ _=>False):∀ c x ms f,(Gam P w mg base W k).C c x ms f->XD W X E c x ms f:=fun c x ms f ⟨k',ps,hk,F⟩ es t p pos ha hs hg hok h0=>by
 obtain⟨rfl,rfl,e3,rfl,rfl⟩:=e
 rw [← e3] at F
 exact zap hx F hr hk ha h0 hs hg (vk hok).1
theorem zaz {P:Program}{w:World}{mg:La}{base:Heap}{k:Nat}:GOk W mg (Gam P w mg base W k):=⟨fun _ _ h=>h,fun _ _ h=>h,fun _ _ h=>h,fun _ _ h=>h⟩
theorem VF {m i:Nat}{x:Slot}(h:(List.replicate m Slot.no)[i]? = some x):x=.no:=(List.mem_replicate.mp (uR h)).2
theorem Ju {F H:Hp}(g:Same F H)(m:Nat):∀ {os:List T} {vs:List V} {B:Ld},TrL W F H os vs B->B.Nodup->(∀ b∈B,F b=none)->∃ A,Rep W F H (os.map .own++List.replicate m .no) (vs.map some++List.replicate m none) A/\∀ b,Ow A b->b∈B
 | [],vs,B,⟨h1,h2⟩,nd,fr=>by
  subst h1 h2
  refine⟨fun _=>[],⟨g,fun i o e=>?_,fun j i q e=>?_,(fun _ _=>rfl),(fun _ _ h=>by cases h),(fun _ _ _ h=>by cases h),fun _=>.nil,by simp⟩,fun b ⟨_,z⟩=>by cases z⟩
  ·cases VF (by simpa using e)
  ·cases VF (by simpa using e)
 | o::os,vs,B,⟨v,r,B1,B2,e1,e2,h1,h2⟩,nd,fr=>by
  subst e1 e2
  have nd':=uB.mp nd
  obtain⟨A,R,hA⟩:=Ju g m h2 nd'.2.1 fun b hb=>fr b (uc _ hb)
  have noal:∀ (ts:List T) (j i:Nat) (q:Lc),(ts.map Slot.own++List.replicate m Slot.no)[j]? = some (.al i q)->False:=fun ts j i q e=>by
   have:=uR e
   rcases ud.mp this with z | z
   ·obtain⟨_,_,z⟩:=u0.mp z;cases z
   ·have:=(List.mem_replicate.mp z).2;cases this
  refine⟨fun j=>match j with
   | 0=>B1
   | j+1=>A j,⟨g,fun i o' e=>?_,fun j i q e=>(noal (o::os) j i q e).elim,fun i z=>?_,fun i a ha=>?_,fun i j a ha hb=>?_,fun i=>?_,?_⟩,fun b ⟨j,z⟩=>?_⟩
  ·cases i with
   | zero=>
    have:o=o':=by simpa using e
    subst this;exact⟨v,rfl,h1⟩
   | succ i=>exact R.slot i o' (by simpa using e)
  ·cases i with
   | zero=>exact absurd rfl (z o)
   | succ i=>exact R.emp i fun t y=>z t (by simpa using y)
  ·cases i with
   | zero=>exact fr a (uj _ ha)
   | succ i=>exact R.own i a ha
  ·cases i with
   | zero=>
    cases j with
    | zero=>rfl
    | succ j=>exact absurd rfl (nd'.2.2 a ha a (hA a ⟨j,hb⟩))
   | succ i=>
    cases j with
    | zero=>exact absurd rfl (nd'.2.2 a hb a (hA a ⟨i,ha⟩))
    | succ j=>rw [R.dis i j a ha hb]
  ·cases i with
   | zero=>exact nd'.1
   | succ i=>exact R.nd i
  ·have:=R.len
   simpa using this
  ·cases j with
   | zero=>exact uj _ z
   | succ j=>exact uc _ (hA b ⟨j,z⟩)
theorem Q2 {F H:Hp}{s:Sl}{σ:L2.St}{A:Lb}(R:Rep W F H s σ A):∀ (ms:List Md) (vs:List V) (l:Sl) (off:Nat) (r:List T),retA ms l=some r->vs.length=ms.length->(∀ k,l[k]? = s[off+k]?)->(∀ k v,ms[k]? = some Md.mu->vs[k]? = some v->σ[off+k]? = some (some v)) ->
  ∃ C,TrM W F H ms r vs C/\C.Nodup/\(∀ b∈C,∃ j,off<=j/\b∈A j)/\r.length=ms.length
 | [],vs,l,off,r,e,hl,hs,hv=>by
  cases e
  exact⟨[],rfl,.nil,(fun _ h=>by cases h),rfl⟩
 | m::ms,[],l,off,r,e,hl,hs,hv=>by cases hl
 | m::ms,v::vs,[],off,r,e,hl,hs,hv=>by cases m<;>cases e
 | m::ms,v::vs,x::l,off,r,e,hl,hs,hv=>by
  have hl':vs.length=ms.length:=by simpa using hl
  have hs':∀ k,l[k]? = s[off+1+k]?:=fun k=>by
   have:=hs (k+1)
   rw [show off+1+k=off+(k+1) by lia,← this]
   simp
  have hv':∀ k v,ms[k]? = some Md.mu->vs[k]? = some v->σ[off+1+k]? = some (some v):=fun k v z1 z2=>by
   rw [show off+1+k=off+(k+1) by lia]
   exact hv (k+1) v (by simpa using z1) (by simpa using z2)
  have rest:=fun r' e'=>Q2 R ms vs l (off+1) r' e' hl' hs' hv'
  have pas:∀ r',retA ms l=some r'->r=.non::r'->(m=.fz\/m=.mv)->∃ C,TrM W F H (m::ms) r (v::vs) C/\C.Nodup/\(∀ b∈C,∃ j,off<=j/\b∈A j)/\r.length=(m::ms).length:=fun r' e' er hm=>by
   obtain⟨C,c1,c2,c3,c4⟩:=rest r' e'
   subst er
   refine⟨C,?_,c2,fun b hb=>?_,by rw [ua,ua,c4]⟩
   ·rcases hm with rfl | rfl<;>exact⟨v,vs,rfl,c1⟩
   ·obtain⟨j,h1,h2⟩:=c3 b hb
    exact⟨j,by lia,h2⟩
  cases m with
  | fz=>
   simp only [retA,uo] at e
   obtain⟨r',e1,e2⟩:=e
   exact pas r' e1 e2.symm (.inl rfl)
  | mv=>
   simp only [retA,uo] at e
   obtain⟨r',e1,e2⟩:=e
   exact pas r' e1 e2.symm (.inr rfl)
  | mu=>
   cases x with
   | own t=>
    simp only [retA,uo] at e
    obtain⟨r',e1,rfl⟩:=e
    obtain⟨C,c1,c2,c3,c4⟩:=rest r' e1
    have h0:s[off]? = some (.own t):=by
     have:=hs 0
     simpa using this.symm
    obtain⟨w,hw,tw⟩:=R.slot off t h0
    have hvw:=hv 0 v rfl rfl
    rw [show off+0=off from rfl,hw] at hvw
    cases hvw
    refine⟨A off++C,⟨v,vs,A off,C,rfl,rfl,tw,c1⟩,uB.mpr ⟨R.nd off,c2,fun a ha b hb z=>?_⟩,fun b hb=>?_,by rw [ua,ua,c4]⟩
    ·subst z
     obtain⟨j,h1,h2⟩:=c3 a hb
     have:=R.dis off j a ha h2
     lia
    ·rcases ud.mp hb with z | z
     ·exact⟨off,uu _,z⟩
     ·obtain⟨j,h1,h2⟩:=c3 b z
      exact⟨j,by lia,h2⟩
   | no=>cases e
   | al _ _=>cases e
noncomputable def wC (ms:List Md)(as:Lc):Bool:=as.all fun i=>decide (ms[i]?≠some .mu)
theorem XF {ms:List Md}{as:Lc}(h:wC ms as=true):∀ i,ms[i]? = some .mu->i∉as:=fun i hi z=>by
 unfold wC at h
 rw [UM] at h
 have:=h i z
 simp [hi] at this
theorem zfV {ms:List Md}{as tl:Lc}{F H:Hp}{A0:Lb}{s0:Sl}{vs:List V}{m:Nat}{B:Ld}{Q4:T->List T->Prop}{X4:Exn->List T->Prop}{Q:VK}{X:Value->Option Addr->Hp->Prop}(hm:wC ms as=true)(hl:vs.length=ms.length)(R0:Rep W F H s0 (vs.map some++List.replicate m none) A0)(hA:∀ b,Ow A0 b->b∈B)
  (q:∀ r ts' v F' H' C Br,FPo W F H B ms vs ts' F' H' C->Tr W F' H' r v Br->(∀ b∈C++Br,F' b=none)->(C++Br).Nodup->(∀ b∈C++Br,H b=none\/b∈B)->Q4 r ts'->Q v H')
  (x:∀ x ts' c d F' H' C,FPo W F H B ms vs ts' F' H' C->IsX W F' x c d->(∀ b∈C,F' b=none)->C.Nodup->(∀ b∈C,H b=none\/b∈B)->X4 x ts'->X c d H') :
  KO W (fun c d _ H'=>X c d H') as tl F H A0 s0 (vs.map some++List.replicate m none) { nx:=fun s=>∃ r,retA ms s=some r/\Q4 .non r,rt:=fun t s=>∃ r,retA ms s=some r/\Q4 t r,bk:=fun _=>False,ct:=fun _=>False,ex:=fun x s=>∃ r,retA ms s=some r/\X4 x r } { nx:=fun _ H'=>Q .non H',rt:=Q }:=by
 have back:∀ {s' F' H' σ' A' r},SPo W as tl F H A0 s0 (vs.map some++List.replicate m none) s' F' H' σ' A'->retA ms s' = some r->∃ C,FPo W F H B ms vs r F' H' C/\C.Nodup/\(∀ b∈C,Ow A' b)/\(∀ b∈C,F' b=none)/\∀ b∈C,H b=none\/b∈B:=fun {s' F' H' σ' A' r} p e=>by
  obtain⟨C,c1,c2,c3,c4⟩:=Q2 p.rep ms vs s' 0 r e hl (fun k=>by rw [UT]) (fun k v z1 z2=>by
   rw [UT,p.kp k (XF hm k z1),u5 (by
    rw [uh]
    exact(uF.mp z2).1),uD,z2]
   rfl)
  have tch:∀ b,Tch A0 tl b->b∈B:=fun b ⟨j,_,z⟩=>hA b ⟨j,z⟩
  refine⟨C,⟨p.mv.sF,p.rep.fh,fun b o h nb=>p.mv.keep b o h fun z=>nb (tch b z),p.mv.dom,fun b o h=>(p.mv.frz b o h).imp id fun z=>z.imp id (tch b),c4,c1⟩,c2,fun b hb=>?_,fun b hb=>?_,fun b hb=>?_⟩
  ·obtain⟨j,_,h⟩:=c3 b hb;exact⟨j,h⟩
  ·obtain⟨j,_,h⟩:=c3 b hb;exact p.rep.own j b h
  ·obtain⟨j,_,h⟩:=c3 b hb
   by_cases hj:j∈tl
   ·exact(p.mv.cells j b hj h).imp id (tch b)
   ·rw [(p.mv.slot j hj).2] at h
    exact .inr (hA b ⟨j,h⟩)
 refine⟨fun s' F' H' σ' A' p ⟨r,e,h⟩=>?_,fun t s' v F' H' σ' A' Br p ⟨r,e,h⟩=>?_,fun _ _ _ _ _ _ z=>z.elim,fun _ _ _ _ _ _ z=>z.elim,fun ex s' c d F' H' σ' A' p xr ⟨r,e,h⟩=>?_⟩
 ·obtain⟨C,f,n1,n2,n3,n4⟩:=back p e
  exact q .non r .non F' H' C [] f yo (by simpa using n3) (by simpa using n1) (by simpa using n4) h
 ·obtain⟨C,f,n1,n2,n3,n4⟩:=back p.sp e
  refine q t r v F' H' C Br f p.tr (fun b hb=>?_) (uB.mpr ⟨n1,p.nd,fun a ha b hb z=>?_⟩) (fun b hb=>?_) h
  ·rcases ud.mp hb with z | z
   ·exact n3 b z
   ·exact p.vd.fr b z
  ·subst z
   exact(p.vd.at_ a hb).elim (fun y=>y (n2 a ha)) fun⟨_,y,_⟩=>by cases y
  ·rcases ud.mp hb with z | z
   ·exact n4 b z
   ·exact(p.new b z).imp id fun⟨j,_,y⟩=>hA b ⟨j,y⟩
 ·obtain⟨C,f,n1,n2,n3,n4⟩:=back p e
  exact x ex r c d F' H' C f xr n3 n1 n4 h
theorem VG {P:Program}{w:World}{mg:La}{base:Heap}{k:Nat}{x:Str}{st:Stmt}{ps N:Lh}{ms:List Md}{body:List Cm}(Sc:zg N ps (za st))
  (hc:jQ N (za st) true body (zD st)=true) (hm:wC ms (we body)=true) (hp:ms.length=ps.length) (hp':ps.length<=N.length) (n:jA (Gam P w mg base W k) body):∀ (f:Addr) (cdv:Value) (A:Around) (outer:List Env) (s:Shared) (H:Hp) (vs:List V) (Q:VK) (E:XK),Room k (A.deeper (envOfC x (za st) s.heap.objs.size f cdv))->SpM W ms (fnD ms N.length body) vs H Q E ->
   ∃ t,PSs (cxOf (CXE P w) P w W.K mg base N x (za st) f cdv A outer s H E) (zD st) t/\t { nx:=fun _ H'=>Q .non H',rt:=Q } (L2.start N vs) H:=fun f cdv A outer s H vs Q E hr h=>by
 obtain⟨hl,F,ts,B,Q4,X4,gF,tr,nd,fr,⟨hts,po⟩,q,x⟩:=h
 obtain⟨t,p1,p2⟩:=wB (E:=fun c d _ H'=>E c d H') zaz body (zD st) hc n
 refine⟨t,p1 _ ⟨⟨rfl,rfl,Sc.nd,rfl,rfl,?_,fun y ms f hf=>?_,fun y ms f hf X' g=>?_,zay ⟨rfl,rfl,rfl,rfl,rfl⟩ hr vT,fun c y ms f hf X' g=>kL ⟨g.prog,g.w,g.K,g.mg,g.base⟩ (by rw [g.A];exact hr) c y ms f hf,yZ ⟨rfl,rfl,rfl,rfl,rfl⟩ hr (.inl vT),fun c y ms f hf X' g=>yZ ⟨g.prog,g.w,g.K,g.mg,g.base⟩ (by rw [g.A];exact hr) (.inr rfl) c y ms f hf,rfl,rfl,fun y hy=>hy⟩,PassesOwn.leaving,fun _=>rfl⟩,?_⟩
 ·have:=hr.un
  show(A.deeper _).units+64<cLine
  lia
 ·obtain⟨k',ps',hk,F'⟩:=hf
  intro es t p pos ha hs hg hok h0
  cases es with
  | nil=>
   have:=h0 rfl
   subst this
   exact Yu vT F' hr hk hg (vk hok).1
  | cons e es=>
   obtain⟨s1,s2⟩:=zL hs
   exact Kb vT F' hr hk ha hg (vk hok).1 (zf s1) (qh s2)
 ·obtain⟨k',ps',hk,F'⟩:=hf
  intro es t p pos ha hs hg hok h0
  have F2:OkX X'.prog X'.w X'.K X'.mg X'.base k' y ps' (SpM W ms f):=by rw [g.prog,g.w,g.K,g.mg,g.base];exact F'
  have hr2:Room k X'.A:=by rw [g.A];exact hr
  cases es with
  | nil=>
   have:=h0 rfl
   subst this
   exact yY (Q1 F2 hr2 hk hg (vk hok).1)
  | cons e es=>
   obtain⟨s1,s2⟩:=zL hs
   exact yY (J4 F2 hr2 hk ha hg (vk hok).1 (zf s1) (qh s2))
 ·obtain⟨A0,R0,hA⟩:=Ju gF (N.length - ms.length) tr nd fr
  have hst:L2.start N vs=vs.map some++List.replicate (N.length - ms.length) none:=by unfold L2.start;rw [hl]
  rw [hst]
  exact p2 F H _ _ A0 _ _ R0 (by simp only [uf,uh,u7];lia) po (zfV hm hl R0 hA q x)
theorem jb {P:Program}{w:World}{mg:La}{base:Heap}{k:Nat}{x:Str}{st:Stmt}{ps N:Lh}{ms:List Md}{body:List Cm}(D:Df W.K mg x st ps)(Sc:zg N ps (za st))
  (hc:jQ N (za st) true body (zD st)=true) (hm:wC ms (we body)=true) (hp:ms.length=ps.length) (hp':ps.length<=N.length) (n:jA (Gam P w mg base W k) body):OkX P w W.K mg base (k+1) x ps (SpM W ms (fnD ms N.length body)):=
 D.okX Sc (fun vs H Q E h=>h.1.trans hp) (VG Sc hc hm hp hp' n)
structure Mdf (K:Le)(C:Addr)(m qual:Str)(st:Stmt)(ps:Lh):Prop where
 ex:∃ (f:Addr) (fd:FuncData),Fun K m qual st f fd/\Binds K fd ps []/\Cls K C/\Meth K C m f
structure Cdf (K:Le)(mg:La)(C:Addr)(x qual:Str)(st:Stmt)(ps:Lh):Prop where
 ex:∃ (f:Addr) (fd:FuncData),Fun K "__init__" qual st f fd/\Binds K fd ps []/\Mk K C f/\mg x=some (.ref C)
theorem zaA {P:Program}{w:World}{mg:La}{base:Heap}{k:Nat}{m x:Str}{st:Stmt}{ps N:Lh}{ms:List Md}{body:List Cm}{f:Addr}{fd:FuncData}(F:Fun W.K m x st f fd)(Sc:zg N ps (za st))
  (hc:jQ N (za st) true body (zD st)=true) (hm:wC ms (we body)=true) (hp:ms.length=ps.length) (hp':ps.length<=N.length) (n:jA (Gam P w mg base W k) body):FnOk P w W.K mg base (CXE P w) (k+1) f fd ps (SpM W ms (fnD ms N.length body)):=by
 obtain⟨oc,od,kV,doc,pm,an,cdv,ct,osl,rfl,lk,hcd⟩:=F.ex
 exact YU lk hcd Sc (fun vs H Q E h=>h.1.trans hp) fun A outer s H vs Q E hr h=>VG Sc hc hm hp hp' n f cdv A outer s H vs Q E hr h
theorem kZ {P:Program}{w:World}{mg:La}{base:Heap}{k:Nat}{m x:Str}{c:Nat}{st:Stmt}{ps N:Lh}{ms:List Md}{body:List Cm}(D:Mdf W.K (W.cl c) m x st ps)(Sc:zg N ps (za st))
  (hc:jQ N (za st) true body (zD st)=true) (hm:wC ms (we body)=true) (hp:ms.length=ps.length) (hp':ps.length<=N.length) (n:jA (Gam P w mg base W k) body):OkMt P w W.K mg base (k+1) (W.cl c) m ps (SpM W ms (fnD ms N.length body)):=by
 obtain⟨f,fd,F,b,cl,hm'⟩:=D.ex
 exact⟨f,fd,cl,hm',b,zaA F Sc hc hm hp hp' n⟩
theorem zaB {P:Program}{w:World}{mg:La}{base:Heap}{k:Nat}{x y:Str}{c:Nat}{st:Stmt}{ps N:Lh}{ms:List Md}{body:List Cm}(D:Cdf W.K mg (W.cl c) y x st ps)(Sc:zg N ps (za st))
  (hc:jQ N (za st) true body (zD st)=true) (hm:wC ms (we body)=true) (hp:ms.length=ps.length) (hp':ps.length<=N.length) (n:jA (Gam P w mg base W k) body):OkMk P w W.K mg base (k+1) (W.cl c) y ps (SpM W ms (fnD ms N.length body)):=by
 obtain⟨f,fd,F,b,M,e⟩:=D.ex
 exact⟨f,fd,M,b,e,zaA F Sc hc hm hp hp' n⟩
def zcI (K:Le):Sp:=fun vs H Q _=>∃ (a:Addr) (ns:List Int),vs=[.ref a]/\SqL K H a (ns.map V.int)/\ns.length<=63/\∀ H',Q (.bl true) H'
theorem VH {F:Hp}:∀ ns:List Int,IsVs W F (ns.map T.int) (ns.map V.int)
 | []=>rfl
 | n::ns=>⟨_,_,rfl,rfl,VH ns⟩
theorem zew {P:Program}{w:World}{mg:La}{base:Heap}{k:Nat}{x y:Str}{st:Stmt}{N:Lh}{body:List Cm}(D:Df W.K mg x st [y])(Sc:zg N [y] (za st))(h1:1<=N.length)
  (hc:jQ N (za st) true body (zD st)=true) (n:jA (Gam P w mg base W k) body) (hl:∀ ns:List Int,ns.length<=63->fnD [.fz] N.length body [.ks true (ns.map .int)] (fun t _=>t=.bl true) (fun _ _=>False)):OkF P w W.K mg base (k+1) x [y] (zcI W.K):=by
 refine D.ok Sc (fun vs H Q E h=>by obtain⟨_,_,rfl,_⟩:=h;rfl) (fun f cdv A outer s H vs Q E hr h=>?_)
 obtain⟨a,ns,rfl,hS,h63,q⟩:=h
 obtain⟨t,p1,p2⟩:=wB (E:=fun _ _ _ _=>False) zaz body (zD st) hc n
 have callN:∀ X':Cx,VA (cxOf CX0 P w W.K mg base N x (za st) f cdv A outer s H E).nox X'->∀ y ms g,(Gam P w mg base W k).F y ms g->XC W X' (fun _ _ _ _=>False) y ms g:=fun X' g y ms f hf=>by
  obtain⟨k',ps',hk,F'⟩:=hf
  intro es t p pos ha hs hg hok h0
  have F2:OkX X'.prog X'.w X'.K X'.mg X'.base k' y ps' (SpM W ms f):=by rw [g.prog,g.w,g.K,g.mg,g.base];exact F'
  have hr2:Room k X'.A:=by rw [g.A];exact hr
  cases es with
  | nil=>
   have:=h0 rfl
   subst this
   exact yY (Q1 F2 hr2 hk hg (vk hok).1)
  | cons e es=>
   obtain⟨s1,s2⟩:=zL hs
   exact yY (J4 F2 hr2 hk ha hg (vk hok).1 (zf s1) (qh s2))
 refine⟨t,p1 _ ⟨⟨rfl,rfl,Sc.nd,rfl,rfl,?_,fun y ms f hf=>callN _ ⟨rfl,rfl,rfl,rfl,rfl,rfl⟩ y ms f hf,fun y ms f hf X' g=>callN X' g y ms f hf,kL ⟨rfl,rfl,rfl,rfl,rfl⟩ hr,fun c y ms f hf X' g=>kL ⟨g.prog,g.w,g.K,g.mg,g.base⟩ (by rw [g.A];exact hr) c y ms f hf,yZ ⟨rfl,rfl,rfl,rfl,rfl⟩ hr (.inr rfl),fun c y ms f hf X' g=>yZ ⟨g.prog,g.w,g.K,g.mg,g.base⟩ (by rw [g.A];exact hr) (.inr rfl) c y ms f hf,rfl,rfl,fun y hy=>hy⟩,PassesOwn.never,fun _=>rfl⟩,?_⟩
 ·have:=hr.un
  show(A.deeper _).units+64<cLine
  lia
 ·have tr:TrL W H H [.ks true (ns.map .int)] [.ref a] []:=⟨_,_,[],[],rfl,rfl,⟨rfl,a,_,rfl,hS,VH ns⟩,rfl,rfl⟩
  obtain⟨A0,R0,hA⟩:=Ju (fun _ _ h=>h) (N.length - 1) tr .nil (fun _ h=>by cases h)
  obtain⟨_,po⟩:=hl ns h63
  have len:(List.map some [V.ref a]++List.replicate (N.length - 1) (none:Option V)).length=N.length:=by
   simp only [uf,uh,u7,ua,uk];lia
  refine p2 H H _ _ A0 _ _ R0 len po ⟨(fun s' F' H' σ' A' p ⟨r,e,h⟩=>by cases h),fun t s' v F' H' σ' A' Br p ⟨r,e,h⟩=>?_,fun _ _ _ _ _ _ z=>z.elim,fun _ _ _ _ _ _ z=>z.elim,fun ex s' c d F' H' σ' A' p xr ⟨r,e,h⟩=>h.elim⟩
  subst h
  have hv:v=.bl true:=p.tr.2
  rw [hv]
  exact q H'
end L4
namespace L4
open PySem L2 PySem.Spec PyProof.Rows
theorem wg {c:Cm}{cs:List Cm}{s:Sl}{D:Ends}(h:WS c s { D with nx:=fun s1=>WSs cs s1 D }):WSs (c::cs) s D:=by exact h
theorem Zk {s:Sl}{D:Ends}(h:D.nx s):WSs [] s D:=by exact h
theorem zfW {i j:Int}:binO .add (.int i) (.int j)=some (.int (i+j)):=(rfl)
theorem zfX {i j:Int}:binO .sub (.int i) (.int j)=some (.int (i - j)):=(rfl)
theorem zcJ {i j:Int}(h:IntMulOk i j):binO .mul (.int i) (.int j)=some (.int (i * j)):=by simp only [binO,intO,two,uJ,intOp,h,Ul,orE]
theorem zfY {i j:Int}(h:0<j):binO .mod (.int i) (.int j)=some (.int (i % j)):=by simp only [binO,intO,two,uJ,intOp,h,Ul,orE]
theorem zfZ {i j:Int}(h:0<j/\j<1073741824):binO .fdiv (.int i) (.int j)=some (.int (i / j)):=by simp only [binO,intO,two,uJ,intOp,h,gQ,Ul,orE]
theorem zf0 {i j:Int}(h:0<=j/\j<=1000000/\i.natAbs<2 ^ 64):binO .pow (.int i) (.int j)=some (.int (i ^ j.toNat)):=by simp only [binO,intO,two,uJ,intOp,h,gQ,Ul,orE]
theorem zex {i j:Int}(h:-18446744073709551616<i/\i<18446744073709551616):binO .mul (.int i) (.int j)=some (.int (i * j)):=zcJ (zby ⟨by have:=h.1;lia,by have:=h.2;lia⟩)
theorem zaC {i j:Int}(h:-18446744073709551616<j/\j<18446744073709551616):binO .mul (.int i) (.int j)=some (.int (i * j)):=zcJ (zbz ⟨by have:=h.1;lia,by have:=h.2;lia⟩)
theorem w_if {p:Prop} [Decidable p]{A B:Prop}(h1:p->A)(h2:¬ p->B):if decide p=true then A else B:=by
 by_cases h:p
 ·rw [uz (UG h)];exact h1 h
 ·rw [uy (by simpa using h)];exact h2 h
theorem zcK {b:Bool}{A B:Prop}(h1:b=true->A)(h2:b=false->B):if b=true then A else B:=by
 cases b with
 | true=>rw [uz rfl];exact h1 rfl
 | false=>rw [uy (by decide)];exact h2 rfl
theorem WC {bd:T->Sl->Option Sl}{body:Sl->Ends->Prop}{D:Ends}{ds:List T}(I:Nat->Sl->Prop)(step:∀ (k:Nat) d s,ds[k]? = some d->I k s->∃ s1,bd d s=some s1/\∀ K:Sl->Prop,(∀ s',I (k+1) s'->K s')->body s1 { D with nx:=K,ct:=K,bk:=D.nx }) (fin:∀ s,I ds.length s->D.nx s):∀ (m k:Nat) (s:Sl),m+k=ds.length->I k s->ve bd body D (ds.drop k) s
 | 0,k,s,e,h=>by
  have:k=ds.length:=by lia
  subst this
  rw [gf]
  exact fin s h
 | m+1,k,s,e,h=>by
  have hk:k<ds.length:=by lia
  rw [Uq hk]
  obtain⟨s1,e1,h1⟩:=step k _ s (uq hk) h
  exact⟨s1,e1,h1 _ fun s' h'=>WC I step fin m (k+1) s' (by lia) h'⟩
theorem xw {bd:T->Sl->Option Sl}{body:Sl->Ends->Prop}{D:Ends}{ds:List T}{s:Sl}(I:Nat->Sl->Prop)(h0:I 0 s)(step:∀ (k:Nat) d s,ds[k]? = some d->I k s->∃ s1,bd d s=some s1/\∀ K:Sl->Prop,(∀ s',I (k+1) s'->K s')->body s1 { D with nx:=K,ct:=K,bk:=D.nx }) (fin:∀ s,I ds.length s->D.nx s):ve bd body D ds s:=by
 have:=WC I step fin ds.length 0 s (by lia) h0
 rwa [gO] at this
theorem VI {n:Nat}{tt:Sl->(Bool->Sl->Prop)->Prop}{fe:Sl->QP->Prop}{Q:QP}{ds:List T}(I:Nat->List T->Sl->Prop)(step:∀ (k:Nat) d acc s,ds[k]? = some d->I k acc s->∀ K:List T->Sl->Prop,(∀ acc' s',I (k+1) acc' s'->K acc' s')->∃ l,Wi n d=some l/\tt (l++s) fun b s1=>if b=true then fe s1 fun t s2=>acc.length<16777216/\K (acc++[t]) ((s2.drop n).map Slot.noAl) else K acc ((s1.drop n).map Slot.noAl))(fin:∀ acc s,I ds.length acc s->Q (.ls acc) s):∀ (m k:Nat) (acc:List T) (s:Sl),m+k=ds.length->I k acc s->xS n tt fe (ds.drop k) acc s Q
 | 0,k,acc,s,e,h=>by
  have:k=ds.length:=by lia
  subst this
  rw [gf]
  exact fin acc s h
 | m+1,k,acc,s,e,h=>by
  have hk:k<ds.length:=by lia
  rw [Uq hk]
  exact step k _ acc s (uq hk) h (fun acc' s'=>xS n tt fe (ds.drop (k+1)) acc' s' Q) fun acc' s' h'=>VI I step fin m (k+1) acc' s' (by lia) h'
theorem zey {n:Nat}{tt:Sl->(Bool->Sl->Prop)->Prop}{fe:Sl->QP->Prop}{Q:QP}{ds:List T}{s:Sl}(I:Nat->List T->Sl->Prop)(h0:I 0 [] s)(step:∀ (k:Nat) d acc s,ds[k]? = some d->I k acc s->∀ K:List T->Sl->Prop,(∀ acc' s',I (k+1) acc' s'->K acc' s')->∃ l,Wi n d=some l/\tt (l++s) fun b s1=>if b=true then fe s1 fun t s2=>acc.length<16777216/\K (acc++[t]) ((s2.drop n).map Slot.noAl) else K acc ((s1.drop n).map Slot.noAl))(fin:∀ acc s,I ds.length acc s->Q (.ls acc) s):xS n tt fe ds [] s Q:=by
 have:=VI I step fin ds.length 0 [] s (by lia) h0
 rwa [gO] at this
theorem zaD {t:Sl->(Bool->Sl->Prop)->Prop}{body:Sl->Ends->Prop}{D:Ends}(I:Nat->Sl->Prop)(step:∀ m s,I m s->∀ K:Sl->Prop,(∀ m' s',m' < m->I m' s'->K s')->t s fun b s1=>if b=true then body s1 { D with nx:=K,ct:=K,bk:=D.nx } else D.nx s1):∀ (n m:Nat) (s:Sl),m<n->I m s->vf t body D n s
 | 0,_,_,h,_=>absurd h (Nat.not_lt_zero _)
 | n+1,m,s,h,i=>step m s i (vf t body D n) fun m' s' hm i'=>zaD I step n m' s' (by omega) i'
theorem zcL {t:Sl->(Bool->Sl->Prop)->Prop}{body:Sl->Ends->Prop}{D:Ends}{s:Sl}(I:Nat->Sl->Prop)(m:Nat)(h0:I m s)(step:∀ m s,I m s->∀ K:Sl->Prop,(∀ m' s',m' < m->I m' s'->K s')->t s fun b s1=>if b=true then body s1 { D with nx:=K,ct:=K,bk:=D.nx } else D.nx s1):∃ n,vf t body D n s:=⟨m+1,zaD I step _ m s (Uz m) h0⟩
theorem vn:∀ {ts:List T},(∀ t∈ts,shr t=true)->shrs ts=true
 | [],_=>rfl
 | t::ts,h=>by simp only [shrs,h t ue,gS];exact vn fun u hu=>h u (ug _ hu)
theorem Zl {ts:List T}(h:∀ t∈ts,shr t=true):shO (some ts)=some ts:=by
 show(if shrs ts=true then some ts else none)=_
 rw [uz (vn h)]
theorem WD {α:Type}{f:α->T}(h:∀ a,shr (f a)=true)(xs:List α):shrs (xs.map f)=true:=vn fun t ht=>by obtain⟨a,_,rfl⟩:=u0.mp ht;exact h a
theorem WG (ns:List Int):(ns.map T.int).map fzi=ns.map T.int:=by rw [Ux];rfl
theorem rng1 {j:Int}(h:-(2 ^ 62)<=j/\j<2 ^ 62):itT .rng [.int j]=some ((List.range j.toNat).map fun(k:Nat)=>.int (k:Int)):=by simp only [itT,rngT,h,gQ,Ul]
theorem Jv {n k:Nat}{d:T}(h:((List.range n).map fun(k:Nat)=>T.int (k:Int))[k]? = some d):d=.int k/\k<n:=by
 rw [uD] at h
 by_cases hk:k<n
 ·rw [gw hk] at h;cases h;exact⟨rfl,hk⟩
 ·rw [Ug (by simpa using hk)] at h;cases h
theorem Zm {n:Nat}:((List.range n).map fun(k:Nat)=>T.int (k:Int)).length=n:=by simp
theorem WH:∀ ts:List (Lc),txts (ts.map .str)=some ts
 | []=>rfl
 | t::ts=>by show two (some t) (txts (ts.map .str)) _=_;rw [WH ts];rfl
theorem zez {xs:List T}{y:T}(h:xs.length<16777216):muT .append (.ls xs) [y]=some (.ls (xs++[y]),.non):=by simp only [muT,h,Ul]
section
variable {s:Sl} {i:Nat} {t z:T} {P:T->Prop} {R:Prop}
theorem zf1 (h:s[i]? = some (.own t))(p:P t):∃ t,s[i]? = some (.own t)/\(true=true\/shr t=true)/\P t:=⟨t,h,.inl rfl,p⟩
theorem zf2 (h:s[i]? = some (.own t))(k:shr t=true)(p:P t):∃ t,s[i]? = some (.own t)/\(false=true\/shr t=true)/\P t:=⟨t,h,.inr k,p⟩
theorem w_lk (h:s[i]? = some (.own t))(p:P t):∃ t,s[i]? = some (.own t)/\P t:=⟨t,h,p⟩
theorem zf3 (h:s[i]? = some (.own t))(p:R):(∃ t,s[i]? = some (.own t))/\R:=⟨⟨t,h⟩,p⟩
theorem zf4 {op:BO}{x y:T}(h:binO op x y=some z)(p:P z):∃ z,binO op x y=some z/\P z:=⟨z,h,p⟩
theorem zf5 {op:CO}{x y:T}{b:Bool}{P:Bool->Prop}(h:cmpO op x y=some b)(p:P b):∃ z,cmpO op x y=some z/\P z:=⟨b,h,p⟩
theorem zf6 {x y:T}(h:ixO x y=some z)(p:P z):∃ z,ixO x y=some z/\(true=true\/shr z=true)/\P z:=⟨z,h,.inl rfl,p⟩
theorem zf7 {x y:T}(h:ixO x y=some z)(k:shr z=true)(p:P z):∃ z,ixO x y=some z/\(false=true\/shr z=true)/\P z:=⟨z,h,.inr k,p⟩
theorem w_sl {x:T}{l h:Option Int}(e:slO x l h=some z)(p:P z):∃ z,slO x l h=some z/\P z:=⟨z,e,p⟩
theorem w_it {k:IK}{ts ds:List T}{P:List T->Prop}(e:itT k ts=some ds)(p:P ds):∃ ds,itT k ts=some ds/\P ds:=⟨ds,e,p⟩
theorem w_bi {b:BI}{ts:List T}(e:biO b ts=some z)(p:P z):∃ z,biO b ts=some z/\P z:=⟨z,e,p⟩
theorem w_me {m:ME}{x:T}{ts:List T}(e:meO m x ts=some z)(p:P z):∃ z,meO m x ts=some z/\P z:=⟨z,e,p⟩
theorem zf8 {x:T}{ks:List TyK}{b:Bool}{P:Bool->Prop}(e:isiO x ks=some b)(p:P b):∃ b,isiO x ks=some b/\P b:=⟨b,e,p⟩
theorem zf9 {x:T}{k:Int}{P:Int->Prop}(e:intO x=some k)(p:P k):∃ i,intO x=some i/\P i:=⟨k,e,p⟩
theorem w_bl {x:T}{b:Bool}{P:Bool->Prop}(e:blO x=some b)(p:P b):∃ b,blO x=some b/\P b:=⟨b,e,p⟩
theorem zga {x:T}{b:Bool}{P:Bool->Prop}(e:truT x=some b)(p:P b):∃ b,truT x=some b/\P b:=⟨b,e,p⟩
theorem zgb {ms:List Md}{r:List T}{P:List T->Prop}(e:retA ms s=some r)(p:P r):∃ r,retA ms s=some r/\P r:=⟨r,e,p⟩
theorem w_at {q:Lc}(e:getP s i q=some t)(p:P t):∃ t,getP s i q=some t/\P t:=⟨t,e,p⟩
theorem zgc {q:Lc}(e:getP s i q=some t)(p:R):(∃ t,getP s i q=some t/\True)/\R:=⟨⟨t,e,trivial⟩,p⟩
theorem zgd {q:Lc}(e:getP s i q=some t)(k:isLs t=true)(p:R):(∃ t,getP s i q=some t/\isLs t=true)/\R:=⟨⟨t,e,k⟩,p⟩
theorem w_mu {q:Lc}{m:MU}{as:List T}{r:T×T}{P:T×T->Prop}(e:getP s i q=some t)(k:muT m t as=some r)(p:P r):∃ t r,getP s i q=some t/\muT m t as=some r/\P r:=⟨t,r,e,k,p⟩
theorem zge {q:Lc}{y o t':T}{P:T->Prop}(e:getP s i q=some t)(k:putO t y o=some t')(p:P t'):∃ t t',getP s i q=some t/\putO t y o=some t'/\P t':=⟨t,t',e,k,p⟩
theorem zgf {q:Lc}{y:T}{j:Nat}{P:Nat->Prop}(e:getP s i q=some t)(k:stepI t y=some j)(p:P j):∃ t j,getP s i q=some t/\stepI t y=some j/\P j:=⟨t,j,e,k,p⟩
theorem zeA (p:R):True/\R:=⟨trivial,p⟩
theorem zgg {ts:List T}{n:Nat}(h:ts.length<=n)(p:R):ts.length<=n/\R:=⟨h,p⟩
theorem zgh {m:ME}{x:T}(h:meK m x=true)(p:R):meK m x=true/\R:=⟨h,p⟩
theorem zgi {α:Type}(p:R):([]:List α)=[]/\R:=⟨rfl,p⟩
theorem w_no {b:T}(p:R):(false=true->cln b=true)/\R:=⟨nofun,p⟩
theorem zgj {b:T}(h:cln b=true)(p:R):(true=true->cln b=true)/\R:=⟨fun _=>h,p⟩
end
theorem zaE {i j:Int}:cmpO .eq (.int i) (.int j)=some (decide (i=j)):=by simp only [cmpO,eqT,scT,two,uJ,scal,Ul,orE,V.int.injEq]
theorem zgk {i j:Int}:cmpO .ne (.int i) (.int j)=some (!decide (i=j)):=by simp only [cmpO,eqT,scT,two,uJ,scal,Ul,orE,V.int.injEq,uT]
theorem zgl {t u:Lc}:cmpO .eq (.str t) (.str u)=some (decide (t=u)):=by simp only [cmpO,eqT,scT,two,uJ,scal,Ul,orE,V.str.injEq,kX]
theorem zcM {t u:Lc}:cmpO .ne (.str t) (.str u)=some (!decide (t=u)):=by simp only [cmpO,eqT,scT,two,uJ,scal,Ul,orE,V.str.injEq,kX,uT]
theorem zcN {p:Prop} [Decidable p]{A B:Prop}(h1:¬ p->A)(h2:p->B):if (!decide p)=true then A else B:=by
 by_cases h:p
 ·rw [uy (by simpa using h)];exact h2 h
 ·rw [uz (by simpa using h)];exact h1 h
theorem zaF {n:Nat}{j:Int}(e:j=n)(h:n<4611686018427387904):itT .rng [.int j]=some ((List.range n).map fun(k:Nat)=>.int (k:Int)):=by
 subst e
 rw [rng1 (by lia)]
 rfl
end L4
namespace L4
theorem w_lt {ts:List T}{n:Nat}{R:Prop}(h:ts.length<n)(p:R):ts.length<n/\R:=⟨h,p⟩
theorem ZX:∀ {ts:List T},(∀ t∈ts,strip t=t)->ze ts=ts
 | [],_=>rfl
 | t::ts,h=>by
  show strip t::ze ts=_
  rw [h t ue,ZX fun u hu=>h u (ug _ hu)]
theorem Qp {α:Type}{f:α->T}(h:∀ a,strip (f a)=f a)(xs:List α):ze (xs.map f)=xs.map f:=ZX fun t ht=>by
 obtain⟨a,_,rfl⟩:=u0.mp ht;exact h a
theorem ZY:∀ {xs ys:List T},ze (xs++ys)=ze xs++ze ys
 | [],_=>rfl
 | x::xs,ys=>by show strip x::ze (xs++ys)=_;rw [ZY];rfl
end L4
namespace L4
open PySem L2 PySem.Spec PyProof.Rows
end L4
namespace L4
theorem zgm {b:Bool}{A B:Prop}(h:b=false)(p:B):if b=true then A else B:=by subst h;exact p
theorem zcO {b:Bool}{A B:Prop}(h:b=true)(p:A):if b=true then A else B:=by subst h;exact p
theorem zcP {p:Prop} [Decidable p]{A B:Prop}(h1:¬ p->A)(h2:p->B):if decide p=false then A else B:=by
 by_cases h:p
 ·rw [uy (by simpa using h)];exact h2 h
 ·rw [uz (by simpa using h)];exact h1 h
end L4
namespace L4
open PySem L2 PySem.Spec PyProof.Rows
theorem jR {xs:List T}{y:T}:stepI (.ls (xs++[y])) (.int (-1))=some xs.length:=by
 show ixN (xs++[y]).length (-1)=_
 unfold ixN
 rw [uf,uy (by decide),uz (by simp only [ua,uk];lia)]
 simp only [ua,uk]
 congr 1
 lia
theorem qF {xs:List T}{y:T}{p:Lc}:getT (.ls (xs++[y])) (xs.length::p)=getT y p:=by
 show(match (xs++[y])[xs.length]? with | some x=>getT x p | none=>none)=_
 rw [gK]
theorem wj {xs:List T}{y n:T}{p:Lc}:setT (.ls (xs++[y])) (xs.length::p) n=.ls (xs++[setT y p n]):=by
 show(match (xs++[y])[xs.length]? with | some x=>T.ls ((xs++[y]).set xs.length (setT x p n)) | none=>_)=_
 rw [gK]
 simp
theorem wk (xs:List T):(ze xs).length=xs.length:=by rw [ZF,uh]
theorem zeB {xs ys:List T}(hx:shrs xs=true)(hy:shrs ys=true)(hl:xs.length+ys.length<=16777216):binO .add (.ls xs) (.ls ys)=some (.ls (xs++ys)):=by
 simp only [binO,intO,strO,two,Option.bind_none,orE,lsV,shO,uJ,hx,hy,Ul,Wb,hl,gQ]
theorem atI_nat {α:Type}{xs:List α}{k:Nat}{x:α}(h:xs[k]? = some x):atI xs (k:Int)=some x:=by
 have hk:=(uF.mp h).1
 obtain⟨v,e1,e2⟩:=Jh (xs:=xs) (i:=(k:Int)) (by lia) (by lia)
 have e3:(k:Int).toNat=k:=by lia
 rw [e3,h] at e2
 rw [e1,e2]
theorem ix_seq {x z:T}{xs:List T}{k:Nat}(hx:seqV x=some xs)(h:xs[k]? = some z):ixO x (.int (k:Int))=some z:=by
 show orE (two (seqV x) (some (k:Int)) _) _=_
 rw [hx]
 show orE (atI xs (k:Int)) _=_
 rw [atI_nat h]
 rfl
theorem zgn {α:Type}{A B:Prop}(p:A):(([]:List α)=[]/\A)\/B:=.inl ⟨rfl,p⟩
theorem zgo {α:Type}{x:α}{xs:List α}{A B:Prop}(p:B):(x::xs=[]/\A)\/(x::xs≠[]/\B):=.inr ⟨nofun,p⟩
theorem w_ff {A B:Prop}(p:A):if false=false then A else B:=by rw [uz rfl];exact p
theorem w_tf {A B:Prop}(p:B):if true=false then A else B:=by rw [uy nofun];exact p
theorem w_tt {A B:Prop}(p:A):if true=true then A else B:=by rw [uz rfl];exact p
theorem w_ft {A B:Prop}(p:B):if false=true then A else B:=by rw [uy nofun];exact p
theorem zgp {b:Bool}{A B:Prop}(h:b=false)(p:A):if b=false then A else B:=by subst h;exact p
theorem zgq {b:Bool}{A B:Prop}(h:b=true)(p:B):if b=false then A else B:=by subst h;exact p
theorem zgr {b:Bool}{A B:Prop}(h:b=false)(p:A):if (!b)=true then A else B:=by subst h;exact p
theorem zgs {b:Bool}{A B:Prop}(h:b=true)(p:B):if (!b)=true then A else B:=by subst h;exact p
theorem zgt {b:Bool}{A B:Prop}(h:b=false)(p:B):if (!b)=false then A else B:=by subst h;exact p
theorem zgu {b:Bool}{A B:Prop}(h:b=true)(p:A):if (!b)=false then A else B:=by subst h;exact p
theorem zeC {x y:T}{i j:Int}{P:Int->Int->Prop}(h1:intO x=some i)(h2:intO y=some j)(p:P i j):∃ i j,intO x=some i/\intO y=some j/\P i j:=⟨i,j,h1,h2,p⟩
theorem w_ci {o:CO}{i j:Int}{b:Bool}{P:Bool->Prop}(h:cmpI o i j=some b)(p:P b):∃ z,cmpI o i j=some z/\P z:=⟨b,h,p⟩
theorem zaG {α:Type}{fe:Sl->QP->Prop}{as:List α}{f g:α->T}{s:Sl}{Q:QP}(h:∀ a∈as,∀ K:QP,K (g a) (.own (f a)::s)->fe (.own (f a)::s) K)(hl:as.length<=1000000)(hs:s.map Slot.noAl=s)(q:Q (.ls (as.map g)) s):xS 1 (fun s K=>K true s) fe (as.map f) [] s Q:=by
 refine zey (fun k acc s'=>acc=(as.take k).map g/\s' = s) ⟨rfl,rfl⟩ ?_ ?_
 ·rintro k d acc _ hd ⟨rfl,rfl⟩ K hK
  rw [uD] at hd
  obtain⟨a,hc,rfl⟩:=uo.mp hd
  have hk:=(uF.mp hc).1
  refine⟨[.own (f a)],rfl,?_⟩
  refine w_tt (h a (uR hc) _ ⟨?_,?_⟩)
  ·rw [uh,Us];lia
  ·refine hK _ _ ⟨?_,hs⟩
   rw [List.take_succ,hc,Ue]
   rfl
 ·rintro acc _ ⟨rfl,rfl⟩
  rw [uh,gH]
  exact q
theorem Jw {xs:List T}:biO .len [.fz (.ls xs)]=some (.int xs.length):=by
 show some (T.int ((xs.map fzi).length:Nat))=_
 rw [uh]
theorem zaH {p:Prop} [Decidable p]{A B:Prop}(h1:p->A)(h2:¬ p->B):if (!decide p)=false then A else B:=by
 by_cases h:p
 ·rw [uz (by simpa using h)];exact h1 h
 ·rw [uy (by simpa using h)];exact h2 h
section
variable {s:Sl} {i:Nat} {t z:T} {P:T->Prop} {R:Prop}
theorem zeD {x:T}{c:Nat}{f:Str}(h:fldO x c f=some z)(p:P z):∃ z,fldO x c f=some z/\(true=true\/shr z=true)/\P z:=⟨z,h,.inl rfl,p⟩
theorem zeE {x:T}{c:Nat}{f:Str}(h:fldO x c f=some z)(k:shr z=true)(p:P z):∃ z,fldO x c f=some z/\(false=true\/shr z=true)/\P z:=⟨z,h,.inr k,p⟩
theorem zgv {q:Lc}{c:Nat}{f:Str}{j:Nat}{P:Nat->Prop}(e:getP s i q=some t)(k:Vg t c f=some j)(p:P j):∃ t j,getP s i q=some t/\Vg t c f=some j/\P j:=⟨t,j,e,k,p⟩
theorem zgw {q:Lc}{c:Nat}{f:Str}{o t':T}(e:getP s i q=some t)(k:Wc t c f o=some t')(p:P t'):∃ t t',getP s i q=some t/\Wc t c f o=some t'/\P t':=⟨t,t',e,k,p⟩
theorem zgx {q:Lc}{c:Nat}{x:Str}{o:Nat×Lh×List T}(e:getP s i q=some t)(k:obV t=some o)(h1:o.1=c)(h2:decide (x∈o.2.1)=false)(p:R):(∃ t,getP s i q=some t/\∃ o,obV t=some o/\o.1=c/\x∉o.2.1)/\R:=⟨⟨t,e,o,k,h1,UZ h2⟩,p⟩
theorem zgy {t:T}{c:Nat}{x:Str}{o:Nat×Lh×List T}(k:obV t=some o)(h1:o.1=c)(h2:decide (x∈o.2.1)=false)(p:R):(∃ o,obV t=some o/\o.1=c/\x∉o.2.1)/\R:=⟨⟨o,k,h1,UZ h2⟩,p⟩
theorem zgz {x:T}{c:Nat}{o:Nat×Lh×List T}(k:obV x=some o)(h1:o.1=c)(p:R):∃ o,obV x=some o/\o.1=c/\R:=⟨o,k,h1,p⟩
theorem w_kg {y w:T}{u:Lc}{P:Lc->T->Prop}(h:strO y=some u)(p:P u w):∃ y' w' t,[y,w]=[y',w']/\strO y' = some t/\P t w':=⟨y,w,u,rfl,h,p⟩
theorem zgA {x:T}{xs:List T}{P:List T->Prop}(h:x=.ls xs)(p:P xs):∃ xs,x=.ls xs/\P xs:=⟨xs,h,p⟩
theorem w_aT {j i k:Nat}{p:Lc}(h:atA j i s k p)(e:getP s k p=some t)(q:P t):∃ k p t,atA j i s k p/\getP s k p=some t/\(true=true\/shr t=true)/\P t:=⟨k,p,t,h,e,.inl rfl,q⟩
theorem w_aF {j i k:Nat}{p:Lc}(h:atA j i s k p)(e:getP s k p=some t)(c:shr t=true)(q:P t):∃ k p t,atA j i s k p/\getP s k p=some t/\(false=true\/shr t=true)/\P t:=⟨k,p,t,h,e,.inr c,q⟩
theorem w_aP {j i k:Nat}{p:Lc}{P:Nat->Lc->Prop}(h:atA j i s k p)(q:P k p):∃ k p,atA j i s k p/\P k p:=⟨k,p,h,q⟩
theorem zaI {j i:Nat}{p:Lc}(h:s[j]? = some (.al i p)):atA j i s i p:=.inl ⟨rfl,h⟩
theorem w_ne {j i:Nat}(h:j≠i)(p:R):j≠i/\R:=⟨h,p⟩
theorem zgB {o:T}{ds:List T}{is:Lc}{s1:Sl}{P:Sl->Prop}(h:unT o=some ds)(k:setN is ds s=some s1)(p:P s1):∃ ds s1,unT o=some ds/\setN is ds s=some s1/\P s1:=⟨ds,s1,h,k,p⟩
end
theorem zgC {o:Option Int}{R:Prop}(h:o.isSome=true)(p:R):o.isSome=true/\R:=⟨h,p⟩
theorem zgD {ts:List T}{d:List Key×List T}{P:List Key×List T->Prop}(e:Vi ts=some d)(h:d.1.length<=15)(p:P d):∃ d,Vi ts=some d/\d.1.length<=15/\P d:=⟨d,e,h,p⟩
theorem xx {c:Cm}{cs:List Cm}{s:Sl}{D:Ends}(s1:Sl)(h:WSs cs s1 D)(k:∀ R:Sl->Prop,R s1->WS c s { D with nx:=R }):WSs (c::cs) s D:=wg (k _ h)
end L4
set_option maxHeartbeats 4000000
namespace My
open PySem L2 L4 PySem.Spec PyProof.Rows
local macro_rules | `(tactic| walk_at "sc") => `(tactic| exact ⟨rfl, rfl, rfl, by decide +kernel, rfl, by decide +kernel, by decide +kernel⟩)
noncomputable def top (i:Nat):Stmt:=PySem.Challenge.pw_sealpress_k51_pieces_of_a_text.main.body.getD i (.Pass ⟨0,0,0,0⟩)
noncomputable def topC (i j:Nat):Stmt:=match top i with
 | .ClassDef _ _ _ body _ _ _ _ _ _ _=>body.getD j (.Pass ⟨0,0,0,0⟩)
 | _=>.Pass ⟨0,0,0,0⟩
abbrev xc:Stmt:=top 7
noncomputable abbrev WI:Lh:=["pieces","own","piece"]
noncomputable abbrev j8:Lh:=["pieces"]
theorem Q3:zg WI j8 (za xc):=by walk_at "sc"
abbrev jB:Stmt:=topC 21 0
noncomputable abbrev kM:Lh:=["self","over","pieces"]
noncomputable abbrev qy:Lh:=["self","over","pieces"]
theorem ka:zg kM qy (za jB):=by walk_at "sc"
abbrev vp:Stmt:=top 14
noncomputable abbrev WJ:Lh:=["thing","at","sign"]
noncomputable abbrev jX:Lh:=["thing"]
theorem Jx:zg WJ jX (za vp):=by walk_at "sc"
abbrev jj:Stmt:=topC 22 0
noncomputable abbrev kb:Lh:=["self","word","name"]
noncomputable abbrev qo:Lh:=["self","word","name"]
theorem yr:zg kb qo (za jj):=by walk_at "sc"
abbrev jC:Stmt:=topC 23 0
noncomputable abbrev kN:Lh:=["self"]
noncomputable abbrev qz:Lh:=["self"]
theorem kc:zg kN qz (za jC):=by walk_at "sc"
abbrev qX:Stmt:=topC 22 1
noncomputable abbrev yt:Lh:=["self","piece","pieces"]
noncomputable abbrev qf:Lh:=["self","piece"]
theorem vY:zg yt qf (za qX):=by walk_at "sc"
abbrev qO:Stmt:=topC 22 2
noncomputable abbrev vZ:Lh:=["self"]
noncomputable abbrev z9:Lh:=["self"]
theorem vq:zg vZ z9 (za qO):=by walk_at "sc"
abbrev wm:Stmt:=topC 22 3
noncomputable abbrev ZZ:Lh:=["self"]
noncomputable abbrev qS:Lh:=["self"]
theorem k8:zg ZZ qS (za wm):=by walk_at "sc"
abbrev qY:Stmt:=topC 23 1
noncomputable abbrev yu:Lh:=["self"]
noncomputable abbrev qg:Lh:=["self"]
theorem v5:zg yu qg (za qY):=by walk_at "sc"
abbrev jk:Stmt:=topC 23 2
noncomputable abbrev ke:Lh:=["self","token","at","word"]
noncomputable abbrev qp:Lh:=["self","token","at"]
theorem yw:zg ke qp (za jk):=by walk_at "sc"
abbrev qP:Stmt:=topC 23 3
noncomputable abbrev v7:Lh:=["self","word","name"]
noncomputable abbrev qa:Lh:=["self","word","name"]
theorem vt:zg v7 qa (za qP):=by walk_at "sc"
abbrev xy:Stmt:=topC 23 4
noncomputable abbrev Jy:Lh:=["self","token","at","word","last"]
noncomputable abbrev jH:Lh:=["self","token","at"]
theorem Qq:zg Jy jH (za xy):=by walk_at "sc"
abbrev wM:Stmt:=topC 23 5
noncomputable abbrev Qr:Lh:=["self","at"]
noncomputable abbrev jl:Lh:=["self","at"]
theorem Z0:zg Qr jl (za wM):=by walk_at "sc"
abbrev kO:Stmt:=top 13
noncomputable abbrev Yv:Lh:=["thing"]
noncomputable abbrev xA:Lh:=["thing"]
theorem XG:zg Yv xA (za kO):=by walk_at "sc"
abbrev wN:Stmt:=top 24
noncomputable abbrev Qs:Lh:=["word"]
noncomputable abbrev jm:Lh:=["word"]
theorem Z3:zg Qs jm (za wN):=by walk_at "sc"
abbrev yx:Stmt:=top 25
noncomputable abbrev XH:Lh:=["inside","words"]
noncomputable abbrev wD:Lh:=["inside"]
theorem WK:zg XH wD (za yx):=by walk_at "sc"
abbrev yz:Stmt:=top 26
noncomputable abbrev XI:Lh:=["text","at","stop","inside"]
noncomputable abbrev wF:Lh:=["text","at"]
theorem WL:zg XI wF (za yz):=by walk_at "sc"
abbrev xB:Stmt:=top 27
noncomputable abbrev Jz:Lh:=["text","draft","at","found"]
noncomputable abbrev jI:Lh:=["text"]
theorem Qt:zg Jz jI (za xB):=by walk_at "sc"
abbrev wo:Stmt:=top 29
noncomputable abbrev Z4:Lh:=["_law_script","_law_k"]
noncomputable abbrev qT:Lh:=["_law_script","_law_k"]
theorem k9:zg Z4 qT (za wo):=by walk_at "sc"
abbrev xC:Stmt:=top 30
noncomputable abbrev JA:Lh:=["_law_cell","_law_k","_law_first","_law_second","_law_number"]
noncomputable abbrev jJ:Lh:=["_law_cell","_law_k"]
theorem Qu:zg JA jJ (za xC):=by walk_at "sc"
abbrev xD:Stmt:=top 33
noncomputable abbrev JB:Lh:=["_law_cell","_law_many","_law_letters","_law_ahead","_law_number","_law_size","_law_at","_law_names_here","_law_k","_law_name","_law_j","_law_pool","_law_word_here"]
noncomputable abbrev jK:Lh:=["_law_cell","_law_many"]
theorem Qv:zg JB jK (za xD):=by walk_at "sc"
abbrev vv:Stmt:=top 31
noncomputable abbrev WM:Lh:=["_law_cell"]
noncomputable abbrev jY:Lh:=["_law_cell"]
theorem JC:zg WM jY (za vv):=by walk_at "sc"
abbrev yA:Stmt:=top 34
noncomputable abbrev XJ:Lh:=["_law_stack","_law_piece","_law_here"]
noncomputable abbrev wG:Lh:=["_law_stack","_law_piece"]
theorem WN:zg XJ wG (za yA):=by walk_at "sc"
abbrev vw:Stmt:=top 35
noncomputable abbrev WQ:Lh:=["_law_stack","_law_word_here","_law_name","_law_parts"]
noncomputable abbrev jZ:Lh:=["_law_stack"]
theorem JD:zg WQ jZ (za vw):=by walk_at "sc"
abbrev xE:Stmt:=top 32
noncomputable abbrev JE:Lh:=["_law_low"]
abbrev jL:Lh:=[]
theorem Qw:zg JE jL (za xE):=by walk_at "sc"
abbrev wq:Stmt:=top 36
noncomputable abbrev Z5:Lh:=["_law_stack","_law_number","_law_signs_here","_law_text","_law_rest_here","_law_k"]
noncomputable abbrev qU:Lh:=["_law_stack","_law_number"]
theorem Za:zg Z5 qU (za wq):=by walk_at "sc"
abbrev wO:Stmt:=top 37
noncomputable abbrev Qx:Lh:=["_law_stack","_law_number","_law_names_here","_law_blocks","_law_word_here","_law_name"]
noncomputable abbrev jo:Lh:=["_law_stack","_law_number","_law_names_here","_law_blocks"]
theorem Z6:zg Qx jo (za wO):=by walk_at "sc"
abbrev vy:Stmt:=top 38
noncomputable abbrev WR:Lh:=["_law_stack","_law_number","_law_names_here","_law_over","_law_way","_law_words","_law_name"]
noncomputable abbrev j0:Lh:=["_law_stack","_law_number","_law_names_here","_law_over"]
theorem JF:zg WR j0 (za vy):=by walk_at "sc"
abbrev xF:Stmt:=top 39
noncomputable abbrev JG:Lh:=["_law_stack","_law_number","_law_names_here","_law_blocks","_law_over","_law_way"]
noncomputable abbrev jM:Lh:=["_law_stack","_law_number","_law_names_here","_law_blocks","_law_over"]
theorem Qy:zg JG jM (za xF):=by walk_at "sc"
abbrev vA:Stmt:=top 40
noncomputable abbrev WU:Lh:=["_law_script","_law_over","_law_names_here","_law_blocks","_law_stack","_law_tokens","_law_cell"]
noncomputable abbrev j5:Lh:=["_law_script","_law_over"]
theorem JH:zg WU j5 (za vA):=by walk_at "sc"
abbrev qj:Stmt:=top 41
noncomputable abbrev vB:Lh:=["_law_pieces","_law_piece","_law_thing"]
noncomputable abbrev z6:Lh:=["_law_pieces"]
theorem xU:zg vB z6 (za qj):=by walk_at "sc"
abbrev zaJ:Stmt:=top 42
noncomputable abbrev zgE:Lh:=["_law_script","_law_over","_law_tokens","_law_pieces","_law_text","_law_name","_law_found","_law_handed","_law_made_here","_law_seats","_law_other"]
noncomputable abbrev JI:Lh:=["_law_script"]
theorem zeF:zg zgE JI (za zaJ):=by walk_at "sc"
noncomputable abbrev g_SIGNS:T:=.str [32,33,34,35,36,38,39,40,41,42,43,44,45,46,47,48,49,50,51,52,53,54,55,56,57,58,59,60,61,62,63,64,65,66,67,68,69,70,71,72,73,74,75,76,77,78,79,80,81,82,83,84,85,86,87,88,89,90,91,92,93,94,95,96,97,98,99,100,101,102,103,104,105,106,107,108,109,110,111,112,113,114,115,116,117,118,119,120,121,122,123,124,125,126]
noncomputable abbrev g_LETTERS:T:=.str [97,98,99,100,101,102,103,104,105,106,107,108,109,110,111,112,113,114,115,116,117,118,119,120,121,122]
abbrev g_LONGEST_NAME:T:=.int 8
abbrev g_MOST_SIGNS:T:=.int 2000
abbrev g_MOST_OPENED:T:=.int 12
noncomputable abbrev wQ:T:=.ks false [.str [101,97,99,104],.str [105,102],.str [101,108,115,101],.str [101,110,100],.str [98,108,111,99,107],.str [101,108,100,101,114],.str [100,114,97,119],.str [111,118,101,114]]
noncomputable abbrev wR:List (Lc×T):=[([40],.ks false [.str [108,105,116],.str [123]]),([41],.ks false [.str [108,105,116],.str [125]]),([101,108,115,101],.ks false [.str [101,108,115,101]]),([101,110,100],.ks false [.str [101,110,100]]),([101,108,100,101,114],.ks false [.str [101,108,100,101,114]])]
noncomputable abbrev vX:T:=.ks false [.str [101,97,99,104],.str [105,102],.str [98,108,111,99,107]]
noncomputable def kh (zM:Fn):List Cm:=[.asg (.v 1) (.lst []),
  .loop (.v 2) .seq [(.b 0)] [.ex (.mu .append (.b 1) [(.tpl (.lc (.ife (.t (.isi (.b 0) [.list])) (.call "copied" [.fz] false zM [(.b 0)]) (.b 0)) 1 .seq [(.b 2)] []))])],
  .ret (.m 1)]
def zM:Nat->Fn
 | 0=>fun _ _ _=>False
 | n+1=>fnD [.fz] 3 (kh (zM n))
noncomputable def jD:List Cm:=[.asg (.fld (.b 0) 0 "over") (.b 1),
  .asg (.fld (.b 0) 0 "pieces") (.call "copied" [.fz] true (zM 40) [(.b 2)])]
@[irreducible] noncomputable def zr:Fn:=fnD [.mu,.fz,.mu] 3 jD
def vC:List Cm:=[.ife (.tn (.t (.isi (.b 0) [.str]))) [.never] [],
  .loop (.tup [1,2]) .enumS [(.b 0)] [.ife (.cmp .notin (.b 2) (.g "SIGNS" g_SIGNS)) [.never] []],
  .ret (.b 0)]
@[irreducible] noncomputable def qG:Fn:=fnD [.fz] 3 vC
noncomputable def jq:List Cm:=[.asg (.fld (.b 0) 1 "word") (.b 1),
  .asg (.fld (.b 0) 1 "name") (.b 2),
  .asg (.fld (.b 0) 1 "branches") (.lst [(.lst [])])]
@[irreducible] noncomputable def zx:Fn:=fnD [.mu,.fz,.fz] 3 jq
noncomputable def jE:List Cm:=[.asg (.fld (.b 0) 2 "over") (.c .non),
  .asg (.fld (.b 0) 2 "opened") (.lst [(.make 1 "Opened" [.fz,.fz] zx [(.c (.str [])),(.c (.str []))])]),
  .asg (.fld (.b 0) 2 "named") (.dct [])]
@[irreducible] noncomputable def zN:Fn:=fnD [.mu] 1 jE
noncomputable def qZ:List Cm:=[.asg (.al 2) (.ix (.at (.b 0) 1 "branches") (.neg (.c (.int 1)))),
  .ife (.tb true [(.cmp .eq (.ix (.b 1) (.c (.int 0))) (.c (.str [108,105,116]))),(.t (.a 2 0)),(.cmp .eq (.ix (.ix (.a 2 0) (.neg (.c (.int 1)))) (.c (.int 0))) (.c (.str [108,105,116])))]) [.asg (.sub (.a 2 0) (.neg (.c (.int 1)))) (.tup [(.c (.str [108,105,116])),(.bin .add (.ix (.ix (.a 2 0) (.neg (.c (.int 1)))) (.c (.int 1))) (.ix (.b 1) (.c (.int 1))))])] [.ex (.mu .append (.a 2 0) [(.b 1)])]]
@[irreducible] noncomputable def zA:Fn:=fnD [.mu,.fz] 3 qZ
noncomputable def qQ:List Cm:=[.ret (.bo true [(.cmp .eq (.at (.b 0) 1 "word") (.c (.str [105,102]))),(.cmp .eq (.bi .len [(.at (.b 0) 1 "branches")]) (.c (.int 1)))])]
@[irreducible] noncomputable def zo:Fn:=fnD [.fz] 1 qQ
noncomputable def wt:List Cm:=[.ife (.cmp .ne (.at (.b 0) 1 "word") (.c (.str [105,102]))) [.ret (.tup [(.at (.b 0) 1 "word"),(.at (.b 0) 1 "name"),(.fp (.ix (.at (.b 0) 1 "branches") (.c (.int 0))))])] [],
  .ret (.tup [(.c (.str [105,102])),(.at (.b 0) 1 "name"),(.fp (.ix (.at (.b 0) 1 "branches") (.c (.int 0)))),(.ife (.t (.meth 1 "takes_else" [.fz] true zo [(.b 0)])) (.lst []) (.fp (.ix (.at (.b 0) 1 "branches") (.c (.int 1)))))])]
@[irreducible] noncomputable def zY:Fn:=fnD [.mu] 1 wt
noncomputable def q9:List Cm:=[.ret (.cmp .eq (.bi .len [(.at (.b 0) 2 "opened")]) (.c (.int 1)))]
@[irreducible] noncomputable def zl:Fn:=fnD [.fz] 1 q9
noncomputable def qA:List Cm:=[.asg (.v 3) (.ix (.b 1) (.c (.int 0))),
  .ife (.cmp .eq (.b 3) (.c (.str [111,118,101,114]))) [.ret (.cmp .eq (.b 2) (.c (.int 0)))] [],
  .ife (.tb true [(.cmp .isnot (.at (.b 0) 2 "over") (.c .non)),(.t (.meth 2 "is_outside" [.fz] false zl [(.b 0)])),(.cmp .ne (.b 3) (.c (.str [98,108,111,99,107])))]) [.ret (.c (.bl false))] [],
  .ife (.cmp .eq (.b 3) (.c (.str [101,108,115,101]))) [.ret (.meth 1 "takes_else" [.fz] false zo [(.ix (.at (.b 0) 2 "opened") (.neg (.c (.int 1))))])] [],
  .ife (.cmp .eq (.b 3) (.c (.str [101,110,100]))) [.ret (.not (.meth 2 "is_outside" [.fz] false zl [(.b 0)]))] [],
  .ife (.cmp .eq (.b 3) (.c (.str [101,108,100,101,114]))) [.ret (.cmp .isnot (.at (.b 0) 2 "over") (.c .non))] [],
  .ret (.c (.bl true))]
@[irreducible] noncomputable def zk:Fn:=fnD [.fz,.fz,.fz] 4 qA
noncomputable def qR:List Cm:=[.ife (.tb true [(.cmp .eq (.b 1) (.c (.str [98,108,111,99,107]))),(.cmp .isin (.b 2) (.at (.b 0) 2 "named"))]) [.never] [],
  .ife (.cmp .gt (.bi .len [(.at (.b 0) 2 "opened")]) (.g "MOST_OPENED" g_MOST_OPENED)) [.never] [],
  .ife (.cmp .eq (.b 1) (.c (.str [98,108,111,99,107]))) [.asg (.sub (.at (.b 0) 2 "named") (.b 2)) (.c (.bl true))] [],
  .ex (.mu .append (.at (.b 0) 2 "opened") [(.make 1 "Opened" [.fz,.fz] zx [(.b 1),(.b 2)])])]
@[irreducible] noncomputable def zE:Fn:=fnD [.mu,.fz,.fz] 3 qR
noncomputable def j6:List Cm:=[.ife (.tb false [(.cmp .is (.b 1) (.c .non)),(.tn (.t (.meth 2 "can_stand" [.fz,.fz,.fz] true zk [(.b 0),(.b 1),(.b 2)])))]) [.never] [],
  .asg (.v 3) (.ix (.b 1) (.c (.int 0))),
  .ife (.cmp .eq (.b 3) (.c (.str [111,118,101,114]))) [.asg (.fld (.b 0) 2 "over") (.ix (.b 1) (.c (.int 1)))] [.ife (.cmp .isin (.b 3) (.g "OPENERS" vX)) [.ex (.meth 2 "begin_piece" [.mu,.fz,.fz] false zE [(.b 0),(.b 3),(.ix (.b 1) (.c (.int 1)))])] [.ife (.cmp .eq (.b 3) (.c (.str [101,108,115,101]))) [.ex (.mu .append (.at (.ix (.at (.b 0) 2 "opened") (.neg (.c (.int 1)))) 1 "branches") [(.lst [])])] [.ife (.cmp .eq (.b 3) (.c (.str [101,110,100]))) [.asg (.v 4) (.mu .pop (.at (.b 0) 2 "opened") []),
  .ex (.meth 1 "add_piece" [.mu,.fz] false zA [(.ix (.at (.b 0) 2 "opened") (.neg (.c (.int 1)))),(.meth 1 "whole" [.mu] false zY [(.b 4)])])] [.ex (.meth 1 "add_piece" [.mu,.fz] false zA [(.ix (.at (.b 0) 2 "opened") (.neg (.c (.int 1)))),(.b 1)])]]]]]
@[irreducible] noncomputable def zW:Fn:=fnD [.mu,.fz,.fz] 5 j6
noncomputable def wU:List Cm:=[.ife (.tn (.t (.meth 2 "is_outside" [.fz] true zl [(.b 0)]))) [.never] [],
  .ret (.make 0 "Sheet" [.fz,.mu] zr [(.at (.b 0) 2 "over"),(.ix (.at (.ix (.at (.b 0) 2 "opened") (.c (.int 0))) 1 "branches") (.c (.int 0)))])]
@[irreducible] noncomputable def qe:Fn:=fnD [.mu,.fz] 2 wU
noncomputable def kP:List Cm:=[.ife (.tb false [(.tn (.t (.isi (.b 0) [.str]))),(.tn (.chn .le .le (.c (.int 1)) (.bi .len [(.b 0)]) (.g "LONGEST_NAME" g_LONGEST_NAME)))]) [.ret (.c (.bl false))] [],
  .ret (.bi .all [(.lc (.cmp .isin (.b 0) (.g "LETTERS" g_LETTERS)) 1 .seq [(.b 0)] [])])]
@[irreducible] noncomputable def qL:Fn:=fnD [.fz] 1 kP
noncomputable def wV:List Cm:=[.ret (.bo true [(.call "is_name" [.fz] false qL [(.b 0)]),(.cmp .notin (.b 0) (.g "BRACE_WORDS" wQ))])]
@[irreducible] noncomputable def zX:Fn:=fnD [.fz] 1 wV
noncomputable def wu:List Cm:=[.asg (.v 1) (.me .split (.b 0) [(.c (.str [32]))]),
  .ife (.cmp .eq (.bi .len [(.b 1)]) (.c (.int 1))) [.ret (.kget "LONE_TOKENS" wR [(.b 0),(.ife (.t (.call "is_own_name" [.fz] false zX [(.b 0)])) (.tup [(.c (.str [104,111,108,101])),(.b 0)]) (.c .non))])] [],
  .ife (.cmp .ne (.bi .len [(.b 1)]) (.c (.int 2))) [.ret (.c .non)] [],
  .ife (.cmp .isin (.ix (.b 1) (.c (.int 0))) (.tup [(.c (.str [101,97,99,104])),(.c (.str [105,102]))])) [.ret (.ife (.t (.call "is_own_name" [.fz] false zX [(.ix (.b 1) (.c (.int 1)))])) (.tup [(.ix (.b 1) (.c (.int 0))),(.ix (.b 1) (.c (.int 1)))]) (.c .non))] [],
  .ife (.cmp .isin (.ix (.b 1) (.c (.int 0))) (.tup [(.c (.str [98,108,111,99,107])),(.c (.str [100,114,97,119])),(.c (.str [111,118,101,114]))])) [.ret (.ife (.t (.call "is_name" [.fz] false qL [(.ix (.b 1) (.c (.int 1)))])) (.tup [(.ix (.b 1) (.c (.int 0))),(.ix (.b 1) (.c (.int 1)))]) (.c .non))] [],
  .ret (.c .non)]
@[irreducible] noncomputable def zO:Fn:=fnD [.fz] 2 wu
noncomputable def xG:List Cm:=[.ife (.cmp .eq (.ix (.b 0) (.b 1)) (.c (.str [125]))) [.ret (.tup [(.c .non),(.c (.int 1))])] [],
  .ife (.cmp .ne (.ix (.b 0) (.b 1)) (.c (.str [123]))) [.ret (.tup [(.tup [(.c (.str [108,105,116])),(.ix (.b 0) (.b 1))]),(.c (.int 1))])] [],
  .asg (.v 2) (.me .find (.b 0) [(.c (.str [125])),(.b 1)]),
  .ife (.cmp .lt (.b 2) (.c (.int 0))) [.ret (.tup [(.c .non),(.c (.int 1))])] [],
  .asg (.v 3) (.sl (.b 0) [(.bin .add (.b 1) (.c (.int 1)))] [(.b 2)]),
  .ret (.tup [(.call "token_of" [.fz] false zO [(.b 3)]),(.bin .add (.bi .len [(.b 3)]) (.c (.int 2)))])]
@[irreducible] noncomputable def qq:Fn:=fnD [.fz,.fz] 4 xG
noncomputable def xH:List Cm:=[.ife (.tb true [(.t (.isi (.b 0) [.str])),(.cmp .gt (.bi .len [(.b 0)]) (.g "MOST_SIGNS" g_MOST_SIGNS))]) [.never] [],
  .ex (.call "need_text" [.fz] false qG [(.b 0)]),
  .asg (.v 1) (.make 2 "Draft" [] zN []),
  .asg (.v 2) (.c (.int 0)),
  .whl (.cmp .lt (.b 2) (.bi .len [(.b 0)])) [.asg (.v 3) (.frz (.call "token_at" [.fz,.fz] false qq [(.b 0),(.b 2)])),
  .ex (.meth 2 "take" [.mu,.fz,.fz] false zW [(.b 1),(.ix (.b 3) (.c (.int 0))),(.b 2)]),
  .aug 2 .add (.ix (.b 3) (.c (.int 1)))],
  .ret (.meth 2 "ended" [.mu,.fz] false qe [(.b 1),(.bi .len [(.b 0)])])]
@[irreducible] noncomputable def qb:Fn:=fnD [.fz] 4 xH
noncomputable def wx:List Cm:=[.ife (.cmp .lt (.b 1) (.bi .len [(.b 0)])) [.ret (.ix (.b 0) (.b 1))] [],
  .ret (.c (.int 0))]
@[irreducible] noncomputable def zB:Fn:=fnD [.fz,.fz] 2 wx
noncomputable def xI:List Cm:=[.asg (.v 2) (.ix (.lst [(.c (.int 1000000007)),(.c (.int 1181783503)),(.c (.int 1372345291)),(.c (.int 1518500279)),(.c (.int 1636201513)),(.c (.int 1734723539)),(.c (.int 1871234567)),(.c (.int 2012345681))]) (.bin .mod (.b 1) (.c (.int 8)))),
  .asg (.v 3) (.ix (.lst [(.c (.int 100000000003)),(.c (.int 223606797763)),(.c (.int 314159265359)),(.c (.int 414213562379)),(.c (.int 577215664943)),(.c (.int 693147180563)),(.c (.int 732050807573))]) (.bin .mod (.b 1) (.c (.int 7)))),
  .asg (.v 4) (.bin .mod (.bin .mul (.bin .add (.bin .mod (.b 0) (.c (.int 1000000000039))) (.c (.int 1))) (.b 2)) (.c (.int 2147483629))),
  .ret (.bin .mod (.bin .mul (.bin .add (.b 4) (.c (.int 1))) (.b 3)) (.c (.int 999999999989)))]
@[irreducible] noncomputable def zG:Fn:=fnD [.fz,.fz] 5 xI
noncomputable def xJ:List Cm:=[.asg (.v 2) (.c (.str [97,98,99,100,101,102,103,104,105,106,107,108,109,110,111,112,113,114,115,116,117,118,119,120,121,122])),
  .asg (.v 3) (.c (.str [97,99,102,103,104,106,107,108,109,110,112,113,114,115,116,117,118,119,120,121,122])),
  .asg (.v 4) (.call "_law_mixed" [.fz,.fz] false zG [(.b 0),(.c (.int 1))]),
  .asg (.v 5) (.bin .add (.c (.int 1)) (.bin .mod (.b 4) (.c (.int 8)))),
  .asg (.v 6) (.bin .mod (.bin .fdiv (.b 4) (.c (.int 8))) (.b 5)),
  .asg (.v 7) (.lst []),
  .loop (.v 8) .rng [(.b 1)] [.asg (.v 9) (.c (.str [])),
  .loop (.v 10) .rng [(.b 5)] [.asg (.v 11) (.ix (.lst [(.b 2),(.b 3)]) (.bi .int [(.cmp .eq (.b 10) (.c (.int 0)))])),
  .asg (.v 9) (.bin .add (.b 9) (.ix (.b 11) (.bin .mod (.bin .add (.call "_law_mixed" [.fz,.fz] false zG [(.b 0),(.bin .add (.c (.int 2)) (.b 10))]) (.bin .mul (.b 8) (.bi .int [(.cmp .eq (.b 10) (.b 6))]))) (.bi .len [(.b 11)]))))],
  .ex (.mu .append (.b 7) [(.b 9)])],
  .ife (.cmp .eq (.bin .mod (.bin .fdiv (.b 4) (.c (.int 64))) (.c (.int 4))) (.c (.int 1))) [.asg (.v 12) (.ix (.b 3) (.bin .mod (.call "_law_mixed" [.fz,.fz] false zG [(.b 0),(.c (.int 2))]) (.c (.int 21)))),
  .loop (.v 8) .rng [(.b 1)] [.asg (.sub (.b 7) (.b 8)) (.b 12),
  .asg (.v 12) (.bin .add (.b 12) (.ix (.b 2) (.bin .mod (.call "_law_mixed" [.fz,.fz] false zG [(.b 0),(.bin .add (.c (.int 12)) (.b 8))]) (.c (.int 26)))))]] [],
  .ret (.m 7)]
@[irreducible] noncomputable def zP:Fn:=fnD [.fz,.fz] 13 xJ
noncomputable def vD:List Cm:=[.ife (.cmp .ge (.b 0) (.bin .pow (.c (.int 10)) (.c (.int 18)))) [.ret (.b 0)] [],
  .ret (.call "_law_mixed" [.fz,.fz] false zG [(.b 0),(.c (.int 1))])]
@[irreducible] noncomputable def qH:Fn:=fnD [.fz] 1 vD
noncomputable def yB:List Cm:=[.asg (.al 2) (.ix (.ix (.ix (.b 0) (.neg (.c (.int 1)))) (.c (.int 2))) (.neg (.c (.int 1)))),
  .ife (.tb true [(.cmp .eq (.ix (.b 1) (.c (.int 0))) (.c (.str [108,105,116]))),(.cmp .ne (.a 2 0) (.lst [])),(.cmp .eq (.ix (.ix (.a 2 0) (.neg (.c (.int 1)))) (.c (.int 0))) (.c (.str [108,105,116])))]) [.asg (.v 1) (.tup [(.c (.str [108,105,116])),(.bin .add (.ix (.mu .pop (.a 2 0) []) (.c (.int 1))) (.ix (.b 1) (.c (.int 1))))])] [],
  .ex (.mu .append (.a 2 0) [(.b 1)])]
@[irreducible] noncomputable def zC:Fn:=fnD [.mu,.fz] 3 yB
noncomputable def vE:List Cm:=[.asg (.tup [1,2,3]) (.mu .pop (.b 0) []),
  .ife (.tb true [(.cmp .eq (.b 1) (.c (.str [105,102]))),(.cmp .eq (.bi .len [(.b 3)]) (.c (.int 1)))]) [.ex (.mu .append (.b 3) [(.lst [])])] [],
  .ex (.call "_law_put" [.mu,.fz] false zC [(.b 0),(.bin .add (.tup [(.b 1),(.b 2)]) (.bi .tuple [(.v 3)]))])]
@[irreducible] noncomputable def qc:Fn:=fnD [.mu] 4 vE
noncomputable def xK:List Cm:=[.asg (.v 0) (.c (.str [32,33,34,35,36,38,39,40,41,42,43,44,45,46,47,48,49,50,51,52,53,54,55,56,57,58,59,60,61,62,63,64])),
  .ret (.bin .add (.b 0) (.c (.str [65,66,67,68,69,70,71,72,73,74,75,76,77,78,79,80,81,82,83,84,85,86,87,88,89,90,91,92,93,94,95,96,97,98,99,100,101,102,103,104,105,106,107,108,109,110,111,112,113,114,115,116,117,118,119,120,121,122,124,126])))]
@[irreducible] noncomputable def qr:Fn:=fnD [] 1 xK
noncomputable def wy:List Cm:=[.asg (.v 2) (.call "_law_signs" [] false qr []),
  .ife (.cmp .eq (.bin .mod (.b 1) (.c (.int 5))) (.c (.int 0))) [.ex (.call "_law_put" [.mu,.fz] false zC [(.b 0),(.tup [(.c (.str [108,105,116])),(.ix (.c (.str [123,125])) (.bin .mod (.bin .fdiv (.b 1) (.c (.int 5))) (.c (.int 2))))])]),
  .ret (.ix (.lst [(.c (.str [123,40,125])),(.c (.str [123,41,125]))]) (.bin .mod (.bin .fdiv (.b 1) (.c (.int 5))) (.c (.int 2))))] [],
  .asg (.v 3) (.c (.str [])),
  .asg (.v 4) (.bin .fdiv (.b 1) (.c (.int 15))),
  .loop (.v 5) .rng [(.bin .add (.c (.int 1)) (.bin .mod (.bin .fdiv (.b 1) (.c (.int 5))) (.c (.int 3))))] [.asg (.v 3) (.bin .add (.b 3) (.ix (.b 2) (.bin .mod (.b 4) (.c (.int 92))))),
  .asg (.v 4) (.bin .fdiv (.b 4) (.c (.int 92)))],
  .ex (.call "_law_put" [.mu,.fz] false zC [(.b 0),(.tup [(.c (.str [108,105,116])),(.b 3)])]),
  .ret (.b 3)]
@[irreducible] noncomputable def zZ:Fn:=fnD [.mu,.fz] 6 wy
noncomputable def wW:List Cm:=[.asg (.v 4) (.ix (.lst [(.c (.str [101,97,99,104])),(.c (.str [105,102])),(.c (.str [98,108,111,99,107])),(.c (.str [98,108,111,99,107]))]) (.bin .mod (.b 1) (.c (.int 4)))),
  .asg (.v 5) (.ix (.b 2) (.bin .mod (.bin .fdiv (.b 1) (.c (.int 4))) (.bi .len [(.b 2)]))),
  .ife (.tb false [(.tb true [(.cmp .eq (.b 4) (.c (.str [98,108,111,99,107]))),(.cmp .eq (.b 3) (.lst []))]),(.cmp .gt (.bi .len [(.b 0)]) (.c (.int 12)))]) [.ret (.c (.str []))] [],
  .ife (.cmp .eq (.b 4) (.c (.str [98,108,111,99,107]))) [.asg (.v 5) (.mu .popI (.b 3) [(.bin .mod (.bin .fdiv (.b 1) (.c (.int 4))) (.bi .len [(.b 3)]))])] [],
  .ex (.mu .append (.b 0) [(.tup [(.b 4),(.b 5),(.lst [(.lst [])])])]),
  .ret (.bin .add (.bin .add (.bin .add (.bin .add (.c (.str [123])) (.b 4)) (.c (.str [32]))) (.b 5)) (.c (.str [125])))]
@[irreducible] noncomputable def zQ:Fn:=fnD [.mu,.fz,.fz,.mu] 6 wW
noncomputable def vF:List Cm:=[.asg (.v 4) (.bin .mod (.b 1) (.c (.int 6))),
  .ife (.tb true [(.cmp .lt (.b 4) (.c (.int 2))),(.cmp .gt (.bi .len [(.b 0)]) (.c (.int 1)))]) [.ex (.call "_law_shut" [.mu] false qc [(.b 0)]),
  .ret (.c (.str [123,101,110,100,125]))] [],
  .ife (.tb true [(.cmp .eq (.b 4) (.c (.int 2))),(.cmp .eq (.ix (.ix (.b 0) (.neg (.c (.int 1)))) (.c (.int 0))) (.c (.str [105,102]))),(.cmp .eq (.bi .len [(.ix (.ix (.b 0) (.neg (.c (.int 1)))) (.c (.int 2)))]) (.c (.int 1)))]) [.ex (.mu .append (.ix (.ix (.b 0) (.neg (.c (.int 1)))) (.c (.int 2))) [(.lst [])]),
  .ret (.c (.str [123,101,108,115,101,125]))] [],
  .ife (.tb true [(.cmp .eq (.b 4) (.c (.int 3))),(.t (.b 3)),(.cmp .isin (.c (.str [98,108,111,99,107])) (.lc (.ix (.b 0) (.c (.int 0))) 1 .seq [(.b 0)] []))]) [.ex (.call "_law_put" [.mu,.fz] false zC [(.b 0),(.tup [(.c (.str [101,108,100,101,114]))])]),
  .ret (.c (.str [123,101,108,100,101,114,125]))] [],
  .ife (.cmp .eq (.b 4) (.c (.int 4))) [.asg (.v 5) (.frz (.lst [(.c (.str [101,97,99,104])),(.c (.str [105,102])),(.c (.str [101,108,115,101])),(.c (.str [101,110,100])),(.c (.str [98,108,111,99,107])),(.c (.str [101,108,100,101,114])),(.c (.str [100,114,97,119])),(.c (.str [111,118,101,114]))])),
  .asg (.v 6) (.ix (.bin .add (.b 2) (.b 5)) (.bin .mod (.bin .fdiv (.b 1) (.c (.int 6))) (.bin .add (.bi .len [(.b 2)]) (.c (.int 8))))),
  .ex (.call "_law_put" [.mu,.fz] false zC [(.b 0),(.tup [(.c (.str [100,114,97,119])),(.b 6)])]),
  .ret (.bin .add (.bin .add (.c (.str [123,100,114,97,119,32])) (.b 6)) (.c (.str [125])))] [],
  .asg (.v 6) (.ix (.b 2) (.bin .mod (.bin .fdiv (.b 1) (.c (.int 6))) (.bi .len [(.b 2)]))),
  .ex (.call "_law_put" [.mu,.fz] false zC [(.b 0),(.tup [(.c (.str [104,111,108,101])),(.b 6)])]),
  .ret (.bin .add (.bin .add (.c (.str [123])) (.b 6)) (.c (.str [125])))]
@[irreducible] noncomputable def qI:Fn:=fnD [.mu,.fz,.fz,.fz] 7 vF
noncomputable def xM:List Cm:=[.asg (.v 5) (.bin .mod (.b 1) (.c (.int 8))),
  .ife (.tb true [(.t (.b 4)),(.cmp .eq (.bi .len [(.b 0)]) (.c (.int 1)))]) [.ret (.call "_law_opened" [.mu,.fz,.fz,.mu] false zQ [(.b 0),(.bin .add (.c (.int 2)) (.bin .mul (.bin .fdiv (.b 1) (.c (.int 8))) (.c (.int 4)))),(.b 2),(.b 3)])] [],
  .ife (.cmp .lt (.b 5) (.c (.int 3))) [.ret (.call "_law_literal" [.mu,.fz] false zZ [(.b 0),(.bin .fdiv (.b 1) (.c (.int 8)))])] [],
  .ife (.cmp .lt (.b 5) (.c (.int 5))) [.ret (.call "_law_opened" [.mu,.fz,.fz,.mu] false zQ [(.b 0),(.bin .fdiv (.b 1) (.c (.int 8))),(.b 2),(.b 3)])] [],
  .ret (.call "_law_word" [.mu,.fz,.fz,.fz] false qI [(.b 0),(.bin .fdiv (.b 1) (.c (.int 8))),(.b 2),(.b 4)])]
@[irreducible] noncomputable def qt:Fn:=fnD [.mu,.fz,.fz,.mu,.fz] 6 xM
noncomputable def vG:List Cm:=[.asg (.v 2) (.frz (.call "_law_names" [.fz,.fz] false zP [(.call "_law_cell_at" [.fz,.fz] false zB [(.b 0),(.c (.int 0))]),(.c (.int 4))])),
  .asg (.v 3) (.bin .add (.call "_law_names" [.fz,.fz] false zP [(.call "_law_cell_at" [.fz,.fz] false zB [(.b 0),(.c (.int 1))]),(.c (.int 6))]) (.lst [(.c (.str [101,97,99,104])),(.c (.str [105,102])),(.c (.str [101,108,115,101])),(.c (.str [101,110,100])),(.c (.str [98,108,111,99,107])),(.c (.str [101,108,100,101,114])),(.c (.str [100,114,97,119])),(.c (.str [111,118,101,114]))])),
  .asg (.v 4) (.lst [(.tup [(.c (.str [])),(.c (.str [])),(.lst [(.lst [])])])]),
  .asg (.v 5) (.lst []),
  .loop (.v 6) .seq [(.sl (.b 0) [(.c (.int 2))] [(.c (.int 62))])] [.ex (.mu .append (.b 5) [(.call "_law_token" [.mu,.fz,.fz,.mu,.fz] false qt [(.b 4),(.call "_law_rest" [.fz] false qH [(.b 6)]),(.b 2),(.b 3),(.b 1)])])],
  .whl (.cmp .gt (.bi .len [(.b 4)]) (.c (.int 1))) [.ex (.call "_law_shut" [.mu] false qc [(.b 4)]),
  .ex (.mu .append (.b 5) [(.c (.str [123,101,110,100,125]))])],
  .ret (.tup [(.v 5),(.fp (.ix (.ix (.ix (.b 4) (.c (.int 0))) (.c (.int 2))) (.c (.int 0))))])]
@[irreducible] noncomputable def qJ:Fn:=fnD [.fz,.fz] 7 vG
noncomputable def jr (zh:Fn):List Cm:=[.loopA 1 none 0 [.loopA 2 (some 1) 0 [.ife (.t (.isi (.a 2 0) [.list])) [.ex (.call "_law_stirred" [.mu] false zh [(.a 2 0)])] []]],
  .ex (.mu .append (.b 0) [(.tup [(.c (.str [101,108,100,101,114]))])])]
def zh:Nat->Fn
 | 0=>fun _ _ _=>False
 | n+1=>fnD [.mu] 3 (jr (zh n))
noncomputable def Q5:List Cm:=[.asg (.v 1) (.cmp .eq (.bin .mod (.call "_law_cell_at" [.fz,.fz] false zB [(.b 0),(.c (.int 1))]) (.c (.int 2))) (.c (.int 1))),
  .asg (.tup [2,3]) (.call "_law_made" [.fz,.fz] false qJ [(.b 0),(.b 1)]),
  .asg (.v 4) (.me .join (.c (.str [])) [(.b 2)]),
  .asg (.v 5) (.c .non),
  .ife (.t (.b 1)) [.asg (.v 5) (.ix (.call "_law_names" [.fz,.fz] false zP [(.bin .fdiv (.call "_law_cell_at" [.fz,.fz] false zB [(.b 0),(.c (.int 1))]) (.c (.int 2))),(.c (.int 1))]) (.c (.int 0))),
  .asg (.v 4) (.bin .add (.bin .add (.bin .add (.c (.str [123,111,118,101,114,32])) (.b 5)) (.c (.str [125]))) (.b 4))] [],
  .asg (.v 6) (.frz (.call "sheet_read" [.fz] false qb [(.b 4)])),
  .ife (.tb false [(.tn (.t (.isc (.b 6) "Sheet" 0))),(.cmp .ne (.at (.b 6) 0 "over") (.b 5)),(.cmp .ne (.at (.b 6) 0 "pieces") (.b 3))]) [.ret (.c (.bl false))] [],
  .asg (.v 7) (.call "copied" [.fz] false (zM 40) [(.b 3)]),
  .ife (.cmp .ne (.b 7) (.b 3)) [.ret (.c (.bl false))] [],
  .asg (.v 8) (.make 0 "Sheet" [.fz,.mu] zr [(.b 5),(.b 7)]),
  .ex (.call "_law_stirred" [.mu] false (zh 40) [(.b 7)]),
  .ife (.tb false [(.cmp .ne (.at (.b 8) 0 "over") (.b 5)),(.cmp .ne (.at (.b 8) 0 "pieces") (.b 3)),(.cmp .eq (.b 7) (.b 3))]) [.ret (.c (.bl false))] [],
  .asg (.v 9) (.frz (.lst [(.tup [(.c (.str [115,101,97,116])),(.c (.str [100,114,97,119])),(.c (.str [97])),(.c (.str [])),(.call "copied" [.fz] false (zM 40) [(.b 3)])]),(.tup [(.c (.str [104,111,108,101])),(.c (.str [97]))])])),
  .asg (.v 10) (.call "copied" [.fz] false (zM 40) [(.b 9)]),
  .ife (.cmp .ne (.b 10) (.b 9)) [.ret (.c (.bl false))] [],
  .ex (.call "_law_stirred" [.mu] false (zh 40) [(.b 10)]),
  .ife (.cmp .ne (.b 9) (.lst [(.tup [(.c (.str [115,101,97,116])),(.c (.str [100,114,97,119])),(.c (.str [97])),(.c (.str [])),(.b 3)]),(.tup [(.c (.str [104,111,108,101])),(.c (.str [97]))])])) [.ret (.c (.bl false))] [],
  .ret (.bo true [(.cmp .eq (.at (.call "sheet_read" [.fz] false qb [(.b 4)]) 0 "pieces") (.b 3)),(.cmp .eq (.at (.b 6) 0 "pieces") (.b 3))])]
@[irreducible] noncomputable def zcQ:Fn:=fnD [.fz] 11 Q5
theorem zaK {zM:Fn}:jQ WI (za xc) true (kh zM) (zD xc)=true:=by kernel_rfl
theorem Z7 {zh:Fn}:jQ vB (za qj) true (jr zh) (zD qj)=true:=by kernel_rfl
local macro_rules | `(tactic| walk_at "dis") => `(tactic| first | omega | decide | exact ⟨by omega, by omega⟩ | exact ⟨by decide, by decide, by decide⟩ | (simp only [uh, uf, ua, uk] at *; omega))
local macro_rules | `(tactic| walk_at "bin") => `(tactic| first | assumption | with_reducible exact zfW | with_reducible exact zfX | with_reducible exact zfY (by walk_at "dis") | with_reducible exact zfZ (by walk_at "dis") | with_reducible exact zex (by walk_at "dis") | with_reducible exact zaC (by walk_at "dis") | with_reducible exact zf0 (by walk_at "dis") | exact rfl)
local macro_rules | `(tactic| walk_at "lit") => `(tactic| first | assumption | exact rfl)
local macro_rules | `(tactic| walk_at "ar") => `(tactic| first | assumption | exact rfl)
local macro_rules | `(tactic| walk_at "ln") => `(tactic| first | exact by decide | omega | (simp only [uh, uf, ua, uk]; omega))
local macro_rules | `(tactic| walk_at "ao") => `(tactic| first | assumption | omega)
local macro_rules | `(tactic| walk_at "w0") => `(tactic| first
 | ((with_reducible first | apply zf1 | apply w_bl | apply zgb | apply zf3 | apply zgc | apply zgh | apply zf9 | apply zgA | apply zgC | apply w_kg | apply zgj);exact rfl)
 | ((with_reducible apply zf2);exact rfl;walk_at "ar")
 | ((with_reducible apply zf4);walk_at "bin")
 | ((with_reducible first | apply zf6 | apply w_sl | apply w_it | apply w_bi | apply w_me | apply zf8 | apply zga | apply zeD | apply w_ci);walk_at "ar")
 | ((with_reducible first | apply zf7 | apply zeE | apply zgd | apply zge | apply zgf | apply zgv | apply zgw);walk_at "ar";walk_at "ar")
 | ((with_reducible apply zf5);first | assumption | with_reducible exact zaE | with_reducible exact zgl | with_reducible exact zgk | with_reducible exact zcM | exact rfl)
 | ((with_reducible apply w_mu);walk_at "ar";first | assumption | exact zez (by walk_at "dis") | exact rfl)
 | ((with_reducible first | apply zgg | apply w_lt);walk_at "ln")
 | ((with_reducible apply zgx);walk_at "ar";exact rfl;exact rfl;exact rfl)
 | ((with_reducible apply zgy);exact rfl;exact rfl;exact rfl)
 | ((with_reducible first | apply w_lk | apply w_at);exact rfl)
 | ((with_reducible first | apply zgz | apply zgB | apply zeC);exact rfl;exact rfl)
 | ((with_reducible apply zgD);exact rfl;exact(by decide))
 | ((with_reducible apply w_aT);exact zaI rfl;walk_at "ar")
 | ((with_reducible apply w_aF);exact zaI rfl;walk_at "ar";exact rfl)
 | ((with_reducible apply w_aP);exact zaI rfl)
 | ((with_reducible apply w_ne);exact(by decide))
 | with_reducible first | apply zeA | apply zgi | apply w_no
 | ((with_reducible refine w_if (fun z=>absurd z ?_) fun _=>?_);walk_at "ao")
 | ((with_reducible refine w_if (fun _=>?_) (fun z=>absurd ?_ z));rotate_left;walk_at "ao")
 | ((with_reducible first | apply zgm | apply zcO);assumption)
 | ((with_reducible apply zcO);assumption)
 | ((with_reducible refine zcN (fun z=>absurd ?_ z) fun _=>?_);walk_at "ao")
 | ((with_reducible refine zcN (fun _=>?_) (fun z=>absurd z ?_));rotate_left;walk_at "ao")
 | with_reducible first | apply zgn | apply zgo | apply w_ff | apply w_tf | apply w_tt | apply w_ft
 | ((with_reducible apply zgr);first | assumption | with_reducible exact rfl)
 | ((with_reducible apply zgs);first | assumption | with_reducible exact rfl)
 | ((with_reducible apply zgt);first | assumption | with_reducible exact rfl)
 | ((with_reducible apply zgu);first | assumption | with_reducible exact rfl)
 | ((with_reducible refine zaH (fun z=>absurd z ?_) fun _=>?_);walk_at "ao")
 | ((with_reducible refine zaH (fun _=>?_) (fun z=>absurd ?_ z));rotate_left;walk_at "ao")
 | ((with_reducible apply zgp);assumption)
 | ((with_reducible apply zgq);assumption)
 | ((with_reducible refine zcP (fun z=>absurd ?_ z) fun _=>?_);walk_at "ao")
 | ((with_reducible refine zcP (fun _=>?_) (fun z=>absurd z ?_));rotate_left;walk_at "ao")
 | with_reducible refine zcK (fun _=>?_) fun z=>absurd z (by decide)
 | with_reducible refine zcK (fun z=>absurd z (by decide)) fun _=>?_)
local macro_rules | `(tactic| walk_at "w1") => `(tactic| first
 | ((with_reducible refine wg ?_);dsimp only [WS,WE,WEs,WT,WA,WP,WO,WB,WTb,ckT])
 | with_reducible refine Zk ?_
 | walk_at "w0")
local macro_rules | `(tactic| walk_at "st") => `(tactic| ((with_reducible refine wg ?_); dsimp only [WS, WE, WEs, WT, WA, WP, WO, WB, WTb, ckT]; repeat walk_at "w0"))
local macro_rules | `(tactic| walk_at "go") => `(tactic| ((try dsimp only [WS, WE, WEs, WT, WA, WP, WO, WB, WTb, ckT]); repeat walk_at "w1"))
section
noncomputable abbrev wLit:Lc:=[108,105,116]
noncomputable abbrev wIf:Lc:=[105,102]
noncomputable abbrev Q6:Lc:=[101,97,99,104]
noncomputable abbrev vH:Lc:=[101,108,115,101]
noncomputable abbrev wEnd:Lc:=[101,110,100]
noncomputable abbrev z0:Lc:=[98,108,111,99,107]
noncomputable abbrev vI:Lc:=[101,108,100,101,114]
noncomputable abbrev Q7:Lc:=[100,114,97,119]
noncomputable abbrev zT:Lc:=[111,118,101,114]
noncomputable abbrev WV:Lc:=[104,111,108,101]
noncomputable abbrev jS:List (Lc):=[Q6,wIf,vH,wEnd,z0,vI,Q7,zT]
noncomputable def SG:Lc:=[32,33,34,35,36,38,39,40,41,42,43,44,45,46,47,48,49,50,51,52,53,54,55,56,57,58,59,60,61,62,63,64,65,66,67,68,69,70,71,72,73,74,75,76,77,78,79,80,81,82,83,84,85,86,87,88,89,90,91,92,93,94,95,96,97,98,99,100,101,102,103,104,105,106,107,108,109,110,111,112,113,114,115,116,117,118,119,120,121,122,123,124,125,126]
noncomputable def hd1:T->Lc
 | .tp (.str w::_)=>w
 | _=>[]
noncomputable def hd2:T->Lc
 | .tp (_::.str s::_)=>s
 | _=>[]
noncomputable abbrev litP (s:Lc):T:=.tp [.str wLit,.str s]
noncomputable def addP (l:List T)(p:T):List T:=match l.getLast? with
 | some q=>if hd1 p=wLit/\hd1 q=wLit then l.dropLast++[litP (hd2 q++hd2 p)] else l++[p]
 | none=>l++[p]
theorem WW {p:T}:addP [] p=[p]:=rfl
theorem jF {l:List T}{q p:T}:addP (l++[q]) p=if hd1 p=wLit/\hd1 q=wLit then l++[litP (hd2 q++hd2 p)] else l++[q]++[p]:=by
 unfold addP
 rw [Uk]
 simp only [List.dropLast_concat]
theorem zaL (l:List T)(a b:Lc):addP (addP l (litP a)) (litP b)=addP l (litP (a++b)):=by
 rcases UK l with rfl | ⟨l',q,rfl⟩
 ·rfl
 ·rw [UL,jF,jF]
  by_cases h:hd1 q=wLit
  ·rw [uz ⟨rfl,h⟩,uz ⟨rfl,h⟩,jF,uz ⟨rfl,rfl⟩]
   show l'++[litP ((hd2 q++a)++b)]=l'++[litP (hd2 q++(a++b))]
   rw [uM]
  ·rw [uy (fun z=>h z.2),uy (fun z=>h z.2),jF,uz ⟨rfl,rfl⟩]
   rfl
structure Fr where
 w:Lc
 n:Lc
 ps:List (List T)
 cur:List T
def Fr.put (f:Fr)(p:T):Fr:={ f with cur:=addP f.cur p }
def Fr.whole (f:Fr):T:=.tp (.str f.w::.str f.n::((f.ps++[f.cur]).map .ls++if f.w=wIf/\f.ps=[] then [.ls []] else []))
abbrev Sx:=List Fr×List (Lc)
inductive Tok where
 | lit (s:Lc) | hole (n:Lc) | draw (n:Lc) | elder | op (w n:Lc) | els | fin
def Tok.xs:Tok->List T
 | .lit s=>[.str wLit,.str s]
 | .hole n=>[.str WV,.str n]
 | .draw n=>[.str Q7,.str n]
 | .elder=>[.str vI]
 | .op w n=>[.str w,.str n]
 | .els=>[.str vH]
 | .fin=>[.str wEnd]
def Tok.isP (ov:Bool):Tok->Bool
 | .lit _=>true
 | .hole _=>true
 | .draw _=>true
 | .elder=>ov
 | _=>false
inductive Stp (ov:Bool):Sx->Tok->Sx->Prop where
 | put {f:Fr} {st:List Fr} {nm:List (Lc)} {k:Tok}:k.isP ov=true->(ov=true->st≠[])->Stp ov (f::st,nm) k (f.put (.tp k.xs)::st,nm)
 | op {st:List Fr} {nm:List (Lc)} {w n:Lc}:st.length<=12->st≠[]->(w=Q6\/w=wIf\/w=z0)->(ov=true->st.length=1->w=z0)->(w=z0->n∉nm)->Stp ov (st,nm) (.op w n) (⟨w,n,[],[]⟩::st,if w=z0 then nm++[n] else nm)
 | els {f:Fr} {st:List Fr} {nm:List (Lc)}:f.w=wIf->f.ps=[]->(ov=true->st≠[])->Stp ov (f::st,nm) .els ({ f with ps:=[f.cur],cur:=[] }::st,nm)
 | fin {f g:Fr} {st:List Fr} {nm:List (Lc)}:Stp ov (f::g::st,nm) .fin (g.put f.whole::st,nm)
def js (n:Lc):Prop:=1<=n.length/\n.length<=8/\∀ c∈n,97<=c/\c<=122
def vJ (n:Lc):Prop:=js n/\n∉jS
inductive Ins:Tok->Lc->Prop where
 | lb:Ins (.lit [123]) [40]
 | rb:Ins (.lit [125]) [41]
 | hole {n:Lc}:vJ n->Ins (.hole n) n
 | draw {n:Lc}:js n->Ins (.draw n) (Q7++32::n)
 | elder:Ins .elder vI
 | els:Ins .els vH
 | fin:Ins .fin wEnd
 | op1 {w n:Lc}:w=Q6\/w=wIf->vJ n->Ins (.op w n) (w++32::n)
 | op2 {n:Lc}:js n->Ins (.op z0 n) (z0++32::n)
inductive Tx:Tok->Lc->Prop where
 | sign {c:Nat}:c∈SG->c≠123->c≠125->Tx (.lit [c]) [c]
 | word {k:Tok} {i:Lc}:Ins k i->Tx k (123::(i++[125]))
inductive Rd (ov:Bool):Sx->Lc->Sx->Prop where
 | nil {s:Sx}:Rd ov s [] s
 | cons {s s1 s2:Sx} {k:Tok} {t r:Lc}:Stp ov s k s1->Tx k t->Rd ov s1 r s2->Rd ov s (t++r) s2
theorem Rd.app {ov:Bool}{s s1 s2:Sx}{a b:Lc}(h:Rd ov s a s1)(k:Rd ov s1 b s2):Rd ov s (a++b) s2:=by
 induction h with
 | nil=>exact k
 | cons h1 h2 _ ih=>rw [uM];exact .cons h1 h2 (ih k)
theorem Rd.one {ov:Bool}{s s1:Sx}{k:Tok}{t:Lc}(h:Stp ov s k s1)(ht:Tx k t):Rd ov s t s1:=by
 have:=Rd.cons h ht .nil
 rwa [ux] at this
theorem Rd.lits {ov:Bool}{st:List Fr}{nm:List (Lc)}(ho:ov=true->st≠[]):∀ (s:Lc),s≠[]->(∀ c∈s,c∈SG/\c≠123/\c≠125)->∀ {f:Fr},Rd ov (f::st,nm) s (f.put (litP s)::st,nm)
 | [],h,_,_=>absurd rfl h
 | [c],_,h,f=>.one (.put (k:=.lit [c]) rfl ho) (.sign (h c ue).1 (h c ue).2.1 (h c ue).2.2)
 | c::d::s,_,h,f=>by
  have h1:=h c ue
  have:=Rd.cons (.put (ov:=ov) (f:=f) (nm:=nm) (k:=.lit [c]) rfl ho) (.sign h1.1 h1.2.1 h1.2.2) (Rd.lits ho (d::s) (by simp) (fun x hx=>h x (ug _ hx)))
  have e:(f.put (.tp (Tok.lit [c]).xs)).put (litP (d::s))=f.put (litP (c::d::s)):=by
   show({ f with cur:=addP (addP f.cur (litP [c])) (litP (d::s)) }:Fr)=_
   rw [zaL]
   rfl
  rw [e] at this
  exact this
theorem j7 {n:Lc}(h:js n):∀ c∈n,c∈SG/\c≠125/\c≠32:=fun c hc=>by
 have:=h.2.2 c hc
 have e:∀ c,97<=c/\c<=122->c∈SG/\c≠125/\c≠32:=fun c h=>⟨by
  have:c=97+(c - 97)/\c - 97<26:=by lia
  have z:∀ k,k<26->97+k∈SG:=by decide
  rw [this.1]
  exact z _ this.2,by lia,by lia⟩
 exact e c this
theorem XM {k:Tok}{i:Lc}(h:Ins k i):i.length<=14/\∀ c∈i,c∈SG/\c≠125:=by
 have two:∀ (w n:Lc),w.length<=5->(∀ c∈w,c∈SG/\c≠125)->js n->(w++32::n).length<=14/\∀ c∈w++32::n,c∈SG/\c≠125:=fun w n hl hw hn=>by
  refine⟨?_,fun c hc=>?_⟩
  ·have:=hn.2.1
   simp only [uf,ua]
   lia
  ·rcases ud.mp hc with z | z
   ·exact hw c z
   ·rcases um.mp z with z | z
    ·subst z;decide
    ·exact⟨(j7 hn c z).1,(j7 hn c z).2.1⟩
 cases h with
 | lb=>decide
 | rb=>decide
 | hole h=>exact⟨by have:=h.1.2.1;omega,fun c hc=>⟨(j7 h.1 c hc).1,(j7 h.1 c hc).2.1⟩⟩
 | draw h=>exact two _ _ (by decide) (by decide) h
 | elder=>decide
 | els=>decide
 | fin=>decide
 | op1 hw h=>
  rcases hw with rfl | rfl
  ·exact two _ _ (by decide) (by decide) h.1
  ·exact two _ _ (by decide) (by decide) h.1
 | op2 h=>exact two _ _ (by decide) (by decide) h
theorem VJ {k:Tok}{t:Lc}(h:Tx k t):1<=t.length/\∀ c∈t,c∈SG:=by
 cases h with
 | sign h _ _=>exact⟨uu _,fun c hc=>by rw [ui.mp hc];exact h⟩
 | word h=>
  refine⟨by simp,fun c hc=>?_⟩
  rcases um.mp hc with rfl | hc
  ·decide
  ·rcases ud.mp hc with z | z
   ·exact((XM h).2 c z).1
   ·rw [ui.mp z];decide
theorem Rd.sg {ov:Bool}{s s1:Sx}{a:Lc}(h:Rd ov s a s1):∀ c∈a,c∈SG:=by
 induction h with
 | nil=>exact nofun
 | cons _ h2 _ ih=>exact fun c hc=>(ud.mp hc).elim (fun z=>(VJ h2).2 c z) (ih c)
def Pb (B:Nat)(R:T->Prop)(t:T):Prop:=∃ (w:Lc) (xs:List T),t=.tp (.str w::xs)/\w.length<=B/\(w=wLit->∃ s,xs=[.str s])/\xs.length<=8/\∀ x∈xs,(∃ s,x=.str s/\s.length<=B)\/∃ ps,x=.ls ps/\ps.length<=B/\∀ p∈ps,R p
def Pc (B:Nat):Nat->T->Prop
 | 0=>Pb B fun _=>False
 | n+1=>Pb B (Pc B n)
theorem Pb.mono {B B':Nat}{R R':T->Prop}{t:T}(h:Pb B R t)(hB:B<=B')(hR:∀ p,R p->R' p):Pb B' R' t:=by
 obtain⟨w,xs,e,h1,h2,h3,h4⟩:=h
 refine⟨w,xs,e,by lia,h2,h3,fun x hx=>(h4 x hx).imp (fun⟨s,a,b⟩=>⟨s,a,by lia⟩) fun⟨ps,a,b,c⟩=>⟨ps,a,by lia,fun p hp=>hR p (c p hp)⟩⟩
theorem Pc.mono {B B':Nat}(hB:B<=B'):∀ {n:Nat} {t:T},Pc B n t->Pc B' n t
 | 0,_,h=>Pb.mono h hB fun _ z=>z
 | n+1,_,h=>Pb.mono h hB fun _ z=>Pc.mono hB z
theorem Pc.up {B:Nat}:∀ {n:Nat} {t:T},Pc B n t->Pc B (n+1) t
 | 0,_,h=>Pb.mono (R':=Pc B 0) h (uu _) fun _ z=>z.elim
 | n+1,_,h=>Pb.mono (R':=Pc B (n+1)) h (uu _) fun _ z=>Pc.up z
theorem Pc.body {B:Nat}:∀ {n:Nat} {t:T},Pc B n t->Pb B (fun p=>∃ m,m<n/\Pc B m p) t
 | 0,_,h=>Pb.mono h (uu _) fun _ z=>z.elim
 | n+1,_,h=>Pb.mono h (uu _) fun _ z=>⟨n,Uz n,z⟩
theorem Pc.to {B n m:Nat}(h:n<=m){t:T}(k:Pc B n t):Pc B m t:=by
 induction h with
 | refl=>exact k
 | step _ ih=>exact ih.up
theorem wH {B n:Nat}{w:Lc}{xs:List T}(h1:w.length<=B)(h2:w=wLit->∃ s,xs=[.str s])(h3:xs.length<=8)(h:∀ x∈xs,∃ s,x=.str s/\s.length<=B):Pc B n (.tp (.str w::xs)):=by
 refine Pc.to (uS n) (?_:Pc B 0 _)
 exact⟨w,xs,rfl,h1,h2,h3,fun x hx=>.inl (h x hx)⟩
def PcL (B n:Nat)(l:List T):Prop:=l.length<=B/\∀ p∈l,Pc B n p
theorem PcL.mono {B B' n:Nat}(hB:B<=B'){l:List T}(h:PcL B n l):PcL B' n l:=⟨uW h.1 hB,fun p hp=>(h.2 p hp).mono hB⟩
def FrK (B n:Nat)(f:Fr):Prop:=PcL B n f.cur/\(∀ l∈f.ps,PcL B n l)/\(f.ps=[]\/f.w=wIf/\∃ a,f.ps=[a])/\f.w.length<=8/\f.n.length<=8/\f.w≠wLit
theorem FrK.mono {B B' n:Nat}(hB:B<=B'){f:Fr}(h:FrK B n f):FrK B' n f:=⟨h.1.mono hB,fun l hl=>(h.2.1 l hl).mono hB,h.2.2⟩
def StK (B:Nat):List Fr->Prop
 | []=>True
 | f::st=>st.length<=12/\FrK B (12 - st.length) f/\StK B st
theorem StK.mono {B B':Nat}(hB:B<=B'):∀ {st:List Fr},StK B st->StK B' st
 | [],_=>trivial
 | _::_,h=>⟨h.1,h.2.1.mono hB,StK.mono hB h.2.2⟩
theorem VL {B n:Nat}{t:T}(h:Pc B n t)(hl:hd1 t=wLit):∃ s,t=litP s/\s.length<=B:=by
 obtain⟨w,xs,rfl,h1,h2,h3,h4⟩:=h.body
 obtain⟨s,rfl⟩:=h2 hl
 have hl:w=wLit:=hl
 subst hl
 refine⟨s,rfl,?_⟩
 rcases h4 _ ue with⟨u,e,z⟩ | ⟨ps,e,_⟩
 ·cases e;exact z
 ·cases e
theorem VM {B n d:Nat}{l:List T}{p:T}(hl:PcL B n l)(hp:Pc (B+d) n p)(hd:1<=d)(hs:hd1 p=wLit->(hd2 p).length<=d)(h8:8<=B):PcL (B+d) n (addP l p):=by
 rcases UK l with rfl | ⟨l',q,rfl⟩
 ·exact⟨by rw [WW];simp only [ua,uk];lia,fun x hx=>by rw [WW] at hx;rw [ui.mp hx];exact hp⟩
 ·rw [UL] at hl ⊢
  have l1:=hl.1
  rw [uf] at l1
  rw [jF]
  split
  ·rename_i h
   obtain⟨s,rfl,hs'⟩:=VL (hl.2 q (uc _ ue)) h.2
   refine⟨by rw [uf];simp only [ua,uk] at l1 ⊢;lia,fun x hx=>?_⟩
   rcases ud.mp hx with z | z
   ·exact(hl.2 x (uj _ z)).mono (by lia)
   ·rw [ui.mp z]
    refine wH (by simp only [ua,uk];lia) (fun _=>⟨_,rfl⟩) (by simp) fun x hx=>⟨_,ui.mp hx,?_⟩
    have:=hs h.1
    show(s++hd2 p).length<=_
    rw [uf]
    lia
  ·refine⟨by rw [uf,uf];simp only [ua,uk] at l1 ⊢;lia,fun x hx=>?_⟩
   rcases ud.mp hx with z | z
   ·exact(hl.2 x z).mono (by lia)
   ·rw [ui.mp z];exact hp
theorem ki {B n:Nat}{f:Fr}(h:FrK B n f)(h8:8<=B):Pc B (n+1) f.whole:=by
 obtain⟨h1,h2,h3,h4,h5,h6⟩:=h
 have hb:∀ l∈f.ps++[f.cur],PcL B n l:=fun l hl=>by
  rcases ud.mp hl with z | z
  ·exact h2 l z
  ·rw [ui.mp z];exact h1
 have hl:(f.ps++[f.cur]).length<=2:=by
  rcases h3 with z | ⟨_,a,z⟩<;>simp [z]
 refine⟨f.w,_,rfl,by lia,fun z=>absurd z h6,?_,fun x hx=>?_⟩
 ·rw [ua,uf,uh]
  split<;>simp only [ua,uk]<;>lia
 ·rcases um.mp hx with rfl | hx
  ·exact .inl ⟨_,rfl,by lia⟩
  ·rcases ud.mp hx with z | z
   ·obtain⟨l,hl,rfl⟩:=u0.mp z
    exact .inr ⟨l,rfl,(hb l hl).1,(hb l hl).2⟩
   ·split at z
    ·rw [ui.mp z]
     exact .inr ⟨[],rfl,uS _,nofun⟩
    ·cases z
theorem zaM {ov:Bool}{k:Tok}{t:Lc}{B n:Nat}(hp:k.isP ov=true)(ht:Tx k t)(h8:8<=B):Pc (B+t.length) n (.tp k.xs)/\(hd1 (.tp k.xs)=wLit->(hd2 (.tp k.xs)).length<=t.length):=by
 have leaf:∀ (w s:Lc),w.length<=8->s.length<=B+t.length->Pc (B+t.length) n (.tp [.str w,.str s]):=fun w s h1 h2=>wH (by lia) (fun _=>⟨_,rfl⟩) (by simp) fun x hx=>⟨s,ui.mp hx,h2⟩
 have nm:∀ {n:Lc},js n->n.length<=B+t.length:=fun h=>by have:=h.2.1;lia
 cases ht with
 | sign h=>exact⟨leaf _ _ (by decide) (by simp only [ua,uk];omega),fun _=>uu _⟩
 | word h=>
  cases h with
  | lb=>exact⟨leaf _ _ (by decide) (by simp only [ua,uk];omega),fun _=>by decide⟩
  | rb=>exact⟨leaf _ _ (by decide) (by simp only [ua,uk];omega),fun _=>by decide⟩
  | hole h=>exact⟨leaf _ _ (by decide) (nm h.1),fun z=>absurd (show WV=wLit from z) (by decide)⟩
  | draw h=>exact⟨leaf _ _ (by decide) (nm h),fun z=>absurd (show Q7=wLit from z) (by decide)⟩
  | elder=>exact⟨wH (by simp only [ua,uk];omega) (fun z=>absurd z (by decide)) (by simp) nofun,fun z=>absurd z (by decide)⟩
  | els=>cases hp
  | fin=>cases hp
  | op1 _ _=>cases hp
  | op2 _=>cases hp
theorem zaN {ov:Bool}{s s':Sx}{k:Tok}{t:Lc}{B:Nat}(h:Stp ov s k s')(ht:Tx k t)(hk:StK B s.1)(h8:8<=B):StK (B+t.length) s'.1:=by
 have t1:=(VJ ht).1
 cases h with
 | put hp ho=>
  obtain⟨k1,k2,k3⟩:=hk
  obtain⟨p1,p2⟩:=zaM (n:=12 - _) hp ht h8
  exact⟨k1,⟨VM k2.1 p1 t1 p2 h8,(k2.mono (u4 _ _)).2⟩,k3.mono (u4 _ _)⟩
 | op h1 h2 h3 h4 h5=>
  refine⟨h1,⟨⟨uS _,nofun⟩,nofun,.inl rfl,?_,?_,?_⟩,StK.mono (u4 _ _) hk⟩
  ·rcases h3 with rfl | rfl | rfl<;>(simp only [ua,uk];lia)
  ·cases ht with
   | word h=>
    cases h with
    | op1 _ h=>exact h.1.2.1
    | op2 h=>exact h.2.1
  ·rcases h3 with rfl | rfl | rfl
   ·exact(by decide:Q6≠wLit)
   ·exact(by decide:wIf≠wLit)
   ·exact(by decide:z0≠wLit)
 | els h1 h2 h3=>
  obtain⟨k1,k2,k3⟩:=hk
  have k2:=k2.mono (u4 B t.length)
  refine⟨k1,⟨⟨uS _,nofun⟩,fun l hl=>?_,.inr ⟨h1,_,rfl⟩,k2.2.2.2⟩,k3.mono (u4 _ _)⟩
  rw [ui.mp hl];exact k2.1
 | fin=>
  obtain⟨k1,k2,k3,k4,k5⟩:=hk
  rename_i f g st nm
  have e:12 - st.length=12 - (st.length+1)+1:=by simp only [ua] at k1;lia
  have w:=ki k2 h8
  have w1:Pc (B+t.length) (12 - st.length) f.whole:=by rw [e];exact w.mono (u4 _ _)
  exact⟨k3,⟨VM k4.1 w1 t1 (fun z=>absurd z k2.2.2.2.2.2) h8,(k4.mono (u4 _ _)).2⟩,k5.mono (u4 _ _)⟩
theorem Rd.ok {ov:Bool}{s s':Sx}{a:Lc}(h:Rd ov s a s'):∀ {B:Nat},StK B s.1->8<=B->StK (B+a.length) s'.1:=by
 induction h with
 | nil=>exact fun h _=>h
 | cons h1 h2 _ ih=>
  intro B hk h8
  have:=ih (zaN h1 h2 hk h8) (by lia)
  rwa [uf,← Nat.add_assoc]
end
section
theorem getD_at (l:Lc)(v:Nat):(S l).cps.getD v 0=l.getD v 0:=by
 simp [S,Array.getD]
 by_cases h:v<l.length
 ·rw [dif_pos h,uq h];rfl
 ·rw [dif_neg h,Ug (by lia)];rfl
theorem zb6 {l i r:Lc}{a:Nat}(h:l.drop a=123::(i++125::r))(hi:125∉i):Txt.find3 (S l) (S [125]) (a:Int)=((a+1+i.length:Nat):Int):=by
 have hf:fromIndex (S l).length (a:Int)=a:=by
  unfold fromIndex
  rw [uy (by lia)]
  lia
 have hat:∀ j,l.getD (a+j) 0=(123::(i++125::r)).getD j 0:=fun j=>by
  rw [← h,uI,uI,List.getElem?_drop]
 have h1:l.getD (a+(1+i.length)) 0=125:=by
  rw [hat,show 1+i.length=i.length+1 by lia,uI,gb,uL (uu _),UU]
  rfl
 have h2:∀ j,j<1+i.length->l.getD (a+j) 0≠125:=fun j hj=>by
  rw [hat]
  cases j with
  | zero=>exact(by decide:(123:Nat)≠125)
  | succ j=>
   rw [uI,gb,u5 (by lia),uq (by lia)]
   exact fun z=>hi (by rw [← show i[j]=125 from z];exact Uu _)
 have hl:a+(1+i.length)<l.length:=by
  have:=congrArg List.length h
  simp only [Uh,ua,uf] at this
  lia
 rcases StrLaws.find3_spec (S l) 125 (a:Int) with⟨_,z⟩ | ⟨k,e,k1,k2,k3,k4⟩
 ·rw [hf] at z
  exact absurd h1 (by rw [← getD_at];exact z _ (by lia) (by rw [jw];exact hl))
 ·rw [hf] at k1 k4
  rw [getD_at] at k3
  refine e.trans ?_
  have a1:¬ k<a+(1+i.length):=fun z=>h2 (k - a) (by lia) (by rw [show a+(k - a)=k by lia];exact k3)
  have a2:¬ a+(1+i.length)<k:=fun z=>k4 _ (by lia) z (by rw [getD_at];exact h1)
  congr 1
  lia
theorem k6 (l:Lc)(c:Nat):∃ ps:List (Lc),splits l [c]=ps/\(∀ p∈ps,c∉p)/\Str.join (S [c]) (ps.map S)=S l/\ps≠[]:=by
 refine⟨_,rfl,fun p hp=>?_,?_,fun z=>?_⟩
 ·obtain⟨q,hq,rfl⟩:=u0.mp hp
  exact StrLaws.split_free (S l) c q hq
 ·have:=StrLaws.join_split (S l) (S [c])
  have e:(splits l [c]).map S=Txt.split (S l) (S [c]):=by
   unfold splits
   rw [Ux]
   conv=>rhs;rw [← List.map_id (Txt.split (S l) (S [c]))]
   exact UR fun a _=>by simp [S]
  rw [e];exact this
 ·have z':Txt.split (S l) (S [c])=[]:=by
   unfold splits at z
   exact List.map_eq_nil_iff.mp z
  have:=StrLaws.join_split (S l) (S [c])
  rw [z'] at this
  have e:l=[]:=by
   have:=congrArg (fun x=>x.cps.toList) this
   simpa [S,Str.join,Str.empty] using this.symm
  subst e
  unfold Txt.split at z'
  rw [uz (by rw [jw,jw];rfl)] at z'
  cases z'
theorem S_app (a b:Lc):S a++S b=S (a++b):=by
 show Str.append (S a) (S b)=_
 simp [S,Str.append]
theorem zaO {l:Lc}(h:32∉l):splits l [32]=[l]:=by
 obtain⟨ps,e,h1,h2,h3⟩:=k6 l 32
 rw [e]
 match ps,h3,h1,h2 with
 | [p],_,_,h2=>
  have:S p=S l:=h2
  rw [kX.mp this]
 | p::q::ps,_,_,h2=>
  have h2:S p++S [32]++Str.join (S [32]) ((q::ps).map S)=S l:=h2
  refine absurd ?_ h
  have z:(S p++S [32]++Str.join (S [32]) ((q::ps).map S)).cps.toList=l:=by rw [h2];simp [S]
  rw [← z]
  show 32∈(Str.append (Str.append (S p) (S [32])) _).cps.toList
  simp [Str.append,S]
theorem WX {p q x y:Lc}{c:Nat}(hp:c∉p)(hq:c∉q)(h:p++c::x=q++c::y):p=q/\x=y:=by
 induction p generalizing q with
 | nil=>
  cases q with
  | nil=>simpa using h
  | cons a q=>simp at h;exact absurd (ue) (h.1 ▸ hq)
 | cons a p ih=>
  cases q with
  | nil=>simp at h;exact absurd (ue) (h.1 ▸ hp)
  | cons b q=>
   simp only [UN,List.cons.injEq] at h
   obtain⟨rfl,h⟩:=h
   obtain⟨e1,e2⟩:=ih (fun z=>hp (ug _ z)) (fun z=>hq (ug _ z)) h
   exact⟨by rw [e1],e2⟩
theorem Yw {a b:Lc}(ha:32∉a)(hb:32∉b):splits (a++32::b) [32]=[a,b]:=by
 obtain⟨ps,e,h1,h2,h3⟩:=k6 (a++32::b) 32
 rw [e]
 match ps,h3,h1,h2 with
 | [p],_,h1,h2=>
  have:S p=S (a++32::b):=h2
  rw [kX.mp this] at h1
  exact absurd (uc _ ue) (h1 _ ue)
 | [p,q],_,h1,h2=>
  have h2:S p++S [32]++S q=S (a++32::b):=h2
  rw [S_app,S_app] at h2
  have:=kX.mp h2
  rw [uM] at this
  obtain⟨e1,e2⟩:=WX (h1 p ue) ha this
  have e2:q=b:=e2
  rw [e1,e2]
 | p::q::r::ps,_,h1,h2=>
  have h2:S p++S [32]++(S q++S [32]++Str.join (S [32]) ((r::ps).map S))=S (a++32::b):=h2
  have z:∃ y,Str.join (S [32]) ((r::ps).map S)=S y:=⟨_,(show _=S (Str.join (S [32]) ((r::ps).map S)).cps.toList by simp [S])⟩
  obtain⟨y,hy⟩:=z
  rw [hy,S_app,S_app,S_app,S_app] at h2
  have:=kX.mp h2
  rw [uM] at this
  obtain⟨e1,e2⟩:=WX (h1 p ue) ha this
  refine absurd ?_ hb
  rw [← e2]
  simp
end
section
variable {Q:T->List T->Prop} {X:Exn->List T->Prop}
noncomputable def LT:Lc:=[97,98,99,100,101,102,103,104,105,106,107,108,109,110,111,112,113,114,115,116,117,118,119,120,121,122]
theorem zgF {c:Nat}(h:97<=c/\c<=122):c∈LT:=by
 have e:c=97+(c - 97)/\c - 97<26:=by lia
 have z:∀ k,k<26->97+k∈LT:=by decide
 rw [e.1];exact z _ e.2
theorem VN {α:Type}(f:α->Bool):∀ xs:List α,biO.bls (xs.map fun a=>.bl (f a))=some (xs.map f)
 | []=>rfl
 | x::xs=>by
  show two (some (f x)) (biO.bls (xs.map fun a=>.bl (f a))) _=_
  rw [VN f xs];rfl
theorem Z8 {n:Lc}(hl:n.length<=1000000)(q:∀ b,(js n->b=true)->Q (.bl b) [.non]):qL [.str n] Q X:=by
 unfold qL kP fnD
 refine⟨rfl,?_⟩
 have e:isiO (.str n) [.str]=some true:=rfl
 have el:biO .len [.str n]=some (.int n.length):=rfl
 have sl:itT .seq [.str n]=some (n.map fun c=>T.str [c]):=rfl
 have all:Q (.bl ((n.map fun c=>decide (c∈LT)).all id)) [.non]:=q _ fun h=>by
  rw [UM]
  intro b hb
  obtain⟨c,hc,rfl⟩:=u0.mp hb
  exact UG (zgF (h.2.2 c hc))
 by_cases h1:1<=n.length
 ·by_cases h2:n.length<=8
  ·walk_at "go"
   refine zaG (g:=fun c=>.bl (decide (c∈LT))) (fun c hc K hK=>?_) hl rfl ?_
   ·walk_at "go"
    exact hK
   ·have eb:biO .all [.ls (n.map fun c=>.bl (decide (c∈LT)))]=some (.bl ((n.map fun c=>decide (c∈LT)).all id)):=by
     show(biO.bls (n.map fun c=>.bl (decide (c∈LT)))).map _=_
     rw [VN]
     rfl
    walk_at "go"
    exact all
  ·walk_at "go"
   exact q _ fun h=>absurd h.2.1 h2
 ·walk_at "go"
  exact q _ fun h=>absurd h.1 h1
theorem VO {n:Lc}:∀ {ws:List (Lc)},inV (.str (S n)) (ws.map fun w=>.str (S w))=decide (n∈ws)
 | []=>rfl
 | w::ws=>by
  show(eqV (.str (S w)) (.str (S n))||inV (.str (S n)) (ws.map fun w=>.str (S w)))=_
  rw [VO]
  show((S w == S n)||_)=_
  by_cases h:n=w
  ·subst h;simp
  ·have:(S w == S n)=false:=by
    rw [Um]
    exact fun z=>h (kX.mp z).symm
   rw [this]
   simp [h]
theorem Q8 {n:Lc}(hl:n.length<=1000000)(q:∀ b,(vJ n->b=true)->Q (.bl b) [.non]):zX [.str n] Q X:=by
 unfold zX wV fnD
 refine⟨rfl,?_⟩
 walk_at "go"
 refine Z8 hl fun b hb=>⟨fun _=>rfl,?_⟩
 cases b with
 | false=>
  walk_at "go"
  exact q _ fun h=>hb h.1
 | true=>
  have e:cmpO .notin (.str n) wQ=some (!inV (.str (S n)) (jS.map fun w=>.str (S w))):=rfl
  walk_at "go"
  refine q _ fun h=>?_
  rw [VO,uV h.2]
  rfl
def TokF (xs:List T)(t:T):Prop:=t=.tp xs\/t=.ks false xs
theorem sp1 {i:Lc}(h:32∉i)(hl:i.length<=1000000):meO .split (.str i) [.str [32]]=some (.ls [.str i]):=by
 show(if ([32]:Lc)≠[]/\i.length<=1000000 then some (T.ls ((splits i [32]).map .str)) else none)=_
 rw [uz ⟨by decide,hl⟩,zaO h]
 rfl
theorem sp2 {a b:Lc}(ha:32∉a)(hb:32∉b)(hl:(a++32::b).length<=1000000):meO .split (.str (a++32::b)) [.str [32]]=some (.ls [.str a,.str b]):=by
 show(if ([32]:Lc)≠[]/\(a++32::b).length<=1000000 then some (T.ls ((splits (a++32::b) [32]).map .str)) else none)=_
 rw [uz ⟨by decide,hl⟩,Yw ha hb]
 rfl
theorem lone {i:Lc}(h:32∉i)(hl:i.length<=1000)(q:∀ w,(vJ i->w=.tp [.str WV,.str i])->Q (kgO wR i w) [.non]):zO [.str i] Q X:=by
 unfold zO wu fnD
 refine⟨rfl,?_⟩
 have e:=sp1 h (by lia)
 have l1:biO .len [.ls [.str i]]=some (.int 1):=rfl
 walk_at "go"
 refine Q8 (n:=i) (by lia) fun b hb=>⟨fun _=>rfl,?_⟩
 cases b with
 | true=>
  walk_at "go"
  exact q _ fun _=>rfl
 | false=>
  walk_at "go"
  exact q _ fun h=>absurd (hb h) (by decide)
theorem zgG {a b:Lc}(ha:a=Q6\/a=wIf)(hb:vJ b)(q:Q (.tp [.str a,.str b]) [.non]):zO [.str (a++32::b)] Q X:=by
 unfold zO wu fnD
 refine⟨rfl,?_⟩
 have hl:=hb.1.2.1
 have h32:32∉a:=by rcases ha with rfl | rfl<;>decide
 have e:=sp2 h32 (fun z=>(j7 hb.1 32 z).2.2 rfl) (by rcases ha with rfl | rfl<;>simp only [uf,ua,uk]<;>lia)
 have l2:biO .len [.ls [.str a,.str b]]=some (.int 2):=rfl
 have i1:ixO (.ls [.str a,.str b]) (.int 0)=some (.str a):=rfl
 have i2:ixO (.ls [.str a,.str b]) (.int 1)=some (.str b):=rfl
 have c:cmpO .isin (.str a) (.tp [.str [101,97,99,104],.str [105,102]])=some true:=by rcases ha with rfl | rfl<;>rfl
 walk_at "go"
 refine Q8 (n:=b) (by lia) fun b hb'=>⟨fun _=>rfl,?_⟩
 have:=hb' hb
 subst this
 walk_at "go"
 exact q
theorem zaP {a b:Lc}(ha:a=z0\/a=Q7\/a=zT)(hb:js b)(q:Q (.tp [.str a,.str b]) [.non]):zO [.str (a++32::b)] Q X:=by
 unfold zO wu fnD
 refine⟨rfl,?_⟩
 have hl:=hb.2.1
 have h32:32∉a:=by rcases ha with rfl | rfl | rfl<;>decide
 have e:=sp2 h32 (fun z=>(j7 hb 32 z).2.2 rfl) (by rcases ha with rfl | rfl | rfl<;>simp only [uf,ua,uk]<;>lia)
 have l2:biO .len [.ls [.str a,.str b]]=some (.int 2):=rfl
 have i1:ixO (.ls [.str a,.str b]) (.int 0)=some (.str a):=rfl
 have i2:ixO (.ls [.str a,.str b]) (.int 1)=some (.str b):=rfl
 have c:cmpO .isin (.str a) (.tp [.str [101,97,99,104],.str [105,102]])=some false:=by rcases ha with rfl | rfl | rfl<;>rfl
 have c':cmpO .isin (.str a) (.tp [.str [98,108,111,99,107],.str [100,114,97,119],.str [111,118,101,114]])=some true:=by rcases ha with rfl | rfl | rfl<;>rfl
 walk_at "go"
 refine Z8 (n:=b) (by lia) fun b hb'=>⟨fun _=>rfl,?_⟩
 have:=hb' hb
 subst this
 walk_at "go"
 exact q
theorem WY {k:Tok}{i:Lc}(h:Ins k i)(q:∀ t,TokF k.xs t->Q t [.non]):zO [.str i] Q X:=by
 cases h with
 | lb=>exact lone (by decide) (by decide) fun w _=>q _ (.inr rfl)
 | rb=>exact lone (by decide) (by decide) fun w _=>q _ (.inr rfl)
 | hole h=>
  refine lone (fun z=>(j7 h.1 32 z).2.2 rfl) (by have:=h.1.2.1;lia) fun w hw=>q _ (.inl ?_)
  rw [hw h]
  have ne:∀ {c:Nat},c<97->¬ [c]=i:=fun hc z=>by
   have:=(h.1.2.2 _ (z ▸ ue)).1
   lia
  have nb:∀ {u:Lc},u∈jS->¬ u=i:=fun hu z=>h.2 (z ▸ hu)
  simp only [kgO]
  rw [uy (ne (by decide)),uy (ne (by decide)),uy (nb (by decide)),uy (nb (by decide)),uy (nb (by decide))]
  rfl
 | draw h=>exact zaP (.inr (.inl rfl)) h (q _ (.inl rfl))
 | elder=>exact lone (by decide) (by decide) fun w _=>q _ (.inr rfl)
 | els=>exact lone (by decide) (by decide) fun w _=>q _ (.inr rfl)
 | fin=>exact lone (by decide) (by decide) fun w _=>q _ (.inr rfl)
 | op1 hw h=>exact zgG hw h (q _ (.inl rfl))
 | op2 h=>exact zaP (.inl rfl) h (q _ (.inl rfl))
theorem VP {l r:Lc}{a c:Nat}(h:l.drop a=c::r):a<l.length/\ixO (.str l) (.int (a:Int))=some (.str [c]):=by
 have hl:a<l.length:=by
  have:=congrArg List.length h
  simp only [Uh,ua] at this
  lia
 refine⟨hl,?_⟩
 have e:l[a]? = some c:=by
  have:=congrArg (fun x=>x[0]?) h
  simpa using this
 show orE none ((atI l (a:Int)).map fun c=>T.str [c])=_
 rw [L4.atI_nat e]
 rfl
theorem yg {P:T->Prop}{l i r:Lc}{a:Nat}(hi:125∉i)(hF:∀ {Q:T->List T->Prop} {X:Exn->List T->Prop},(∀ t,P t->Q t [.non])->zO [.str i] Q X)(hd':l.drop a=123::(i++125::r))(q:∀ u,P u->Q (.tp [u,.int ((i.length:Int)+2)]) [.non,.non]):qq [.str l,.int a] Q X:=by
 unfold qq xG fnD
 refine⟨rfl,?_⟩
 obtain⟨hlt,e⟩:=VP hd'
 have f:meO .find (.str l) [.str [125],.int a]=some (.int ((a+1+i.length:Nat):Int)):=by
  show some (T.int (Txt.find3 (S l) (S [125]) (a:Int)))=_
  rw [zb6 hd' hi]
 have cu:slO (.str l) (some ((a:Int)+1)) (some ((a+1+i.length:Nat):Int))=some (.str i):=by
  show some (T.str (cutL l (some ((a:Int)+1)) (some ((a+1+i.length:Nat):Int))))=_
  have e1:((a:Int)+1)=((a+1:Nat):Int):=by lia
  have ll:a+1+i.length<l.length:=by
   have:=congrArg List.length hd'
   simp only [Uh,ua,uf] at this
   lia
  unfold cutL
  rw [e1,HT.sIx_nat,HT.sIx_nat,Nat.min_eq_left (by lia),Nat.min_eq_left (by lia),← List.drop_drop,hd',show a+1+i.length - (a+1)=i.length by lia]
  simp
 walk_at "go"
 refine hF fun u hu=>⟨nofun,?_⟩
 walk_at "go"
 exact q u hu
theorem WZ {k:Tok}{l t r:Lc}{a:Nat}(h:Tx k t)(hd:l.drop a=t++r)(q:∀ u,TokF k.xs u->Q (.tp [u,.int t.length]) [.non,.non]):qq [.str l,.int a] Q X:=by
 cases h with
 | sign h1 h2 h3=>
  unfold qq xG fnD
  refine⟨rfl,?_⟩
  rename_i c
  obtain⟨_,e⟩:=VP (c:=c) (r:=r) hd
  have h2':¬ [c]=[123]:=fun z=>h2 (List.cons.inj z).1
  have h3':¬ [c]=[125]:=fun z=>h3 (List.cons.inj z).1
  walk_at "go"
  exact q _ (.inl rfl)
 | word h=>
  rename_i i
  refine yg (P:=TokF k.xs) (i:=i) (r:=r) (fun z=>((XM h).2 _ z).2 rfl) (fun q=>WY h q) (by rw [hd];simp) fun u hu=>?_
  have e:(i.length:Int)+2=((123::(i++[125])).length:Nat):=by simp only [ua,uf,uk];lia
  rw [e]
  exact q u hu
end
section
variable {Q:T->List T->Prop} {X:Exn->List T->Prop}
inductive A2 {α β:Type}(R:α->β->Prop):List α->List β->Prop where
 | nil:A2 R [] []
 | cons {a:α} {b:β} {as:List α} {bs:List β}:R a b->A2 R as bs->A2 R (a::as) (b::bs)
theorem A2.len {α β:Type}{R:α->β->Prop}{as:List α}{bs:List β}(h:A2 R as bs):as.length=bs.length:=by
 induction h with
 | nil=>rfl
 | cons _ _ ih=>rw [ua,ua,ih]
theorem A2.app {α β:Type}{R:α->β->Prop}{as cs:List α}{bs ds:List β}(h:A2 R as bs)(k:A2 R cs ds):A2 R (as++cs) (bs++ds):=by
 induction h with
 | nil=>exact k
 | cons h _ ih=>exact .cons h ih
theorem A2.one {α β:Type}{R:α->β->Prop}{a:α}{b:β}(h:R a b):A2 R [a] [b]:=.cons h .nil
theorem A2.get {α β:Type}{R:α->β->Prop}{as:List α}{bs:List β}(h:A2 R as bs):∀ {k:Nat} {b:β},bs[k]? = some b->∃ a,as[k]? = some a/\R a b:=by
 induction h with
 | nil=>intro k b e;simp at e
 | cons h _ ih=>
  intro k b e
  cases k with
  | zero=>simp at e;subst e;exact⟨_,rfl,h⟩
  | succ k=>simpa using ih (by simpa using e)
theorem A2.last {α β:Type}{R:α->β->Prop}:∀ {as:List α} {a:α} {bs:List β},A2 R (as++[a]) bs->∃ bs' b,bs=bs'++[b]/\A2 R as bs'/\R a b
 | [],_,_,.cons h .nil=>⟨[],_,rfl,.nil,h⟩
 | _::as,a,_,.cons h k=>by
  obtain⟨bs',b,rfl,h1,h2⟩:=A2.last k
  exact⟨_::bs',b,rfl,.cons h h1,h2⟩
theorem A2.mem {α β:Type}{R:α->β->Prop}{as:List α}{bs:List β}(h:A2 R as bs):∀ {a:α},a∈as->∃ b∈bs,R a b:=by
 induction h with
 | nil=>intro a e;cases e
 | cons h _ ih=>
  intro a e
  rcases um.mp e with rfl | e
  ·exact⟨_,ue,h⟩
  ·obtain⟨b,h1,h2⟩:=ih e
   exact⟨b,ug _ h1,h2⟩
mutual
inductive Fm:T->T->Prop where
 | str (s:Lc):Fm (.str s) (.str s)
 | ks {xs:List T}:(∀ x∈xs,∃ s,x=.str s)->Fm (.ks false xs) (.tp xs)
 | tp {xs ys:List T}:Fms xs ys->Fm (.tp xs) (.tp ys)
 | ls {xs ys:List T}:Fms xs ys->Fm (.ls xs) (.ls ys)
inductive Fms:List T->List T->Prop where
 | nil:Fms [] []
 | cons {x y:T} {xs ys:List T}:Fm x y->Fms xs ys->Fms (x::xs) (y::ys)
end
theorem Fms.a2:∀ {xs ys:List T},Fms xs ys->A2 Fm xs ys
 | _,_,.nil=>.nil
 | _,_,.cons h k=>.cons h k.a2
mutual
theorem Fm.strip:∀ {x y:T},Fm x y->strip x=x
 | _,_,.str _=>rfl
 | _,_,.ks _=>rfl
 | _,_,.tp h=>by simp only [L4.strip,Fms.strip h]
 | _,_,.ls h=>by simp only [L4.strip,Fms.strip h]
theorem Fms.strip:∀ {xs ys:List T},Fms xs ys->ze xs=xs
 | _,_,.nil=>rfl
 | _,_,.cons h k=>by simp only [ze,Fm.strip h,Fms.strip k]
end
theorem XN {x:T}{s:Lc}(h:Fm x (.str s)):x=.str s:=by cases h;rfl
theorem xf {xs:List T}(h:∀ x∈xs,∃ s,x=.str s):Fms xs xs:=by
 induction xs with
 | nil=>exact .nil
 | cons x xs ih=>
  obtain⟨s,rfl⟩:=h x ue
  exact .cons (.str s) (ih fun y hy=>h y (ug _ hy))
def PF (t u:T):Prop:=∃ xs ys,u=.tp ys/\((t=.fz (.tp xs)/\Fms xs ys)\/((t=.tp ys\/t=.ks false ys)/\∀ y∈ys,∃ s,y=.str s))
theorem W0 {xs:List T}(h:∀ x∈xs,∃ s,x=.str s):xs.map fzi=xs:=by
 conv=>rhs;rw [← List.map_id xs]
 exact UR fun a ha=>by obtain⟨s,rfl⟩:=h a ha;rfl
theorem PF.ix {t:T}{ys:List T}(h:PF t (.tp ys)){k:Nat}{s:Lc}(k1:ys[k]? = some (.str s)):ixO t (.int (k:Int))=some (.str s):=by
 obtain⟨xs,zs,e,h⟩:=h
 cases e
 rcases h with⟨rfl,h⟩ | ⟨h,hs⟩
 ·obtain⟨x,e1,e2⟩:=h.a2.get k1
  have:=XN e2
  subst this
  exact ix_seq (xs:=xs.map fzi) rfl (by rw [uD,e1];rfl)
 ·rcases h with rfl | rfl
  ·exact ix_seq (xs:=ys) rfl k1
  ·exact ix_seq (xs:=ys.map fzi) rfl (by rw [W0 hs];exact k1)
theorem PF.ix0 {t u:T}(h:PF t u){B n:Nat}(k:Pc B n u):ixO t (.int 0)=some (.str (hd1 u)):=by
 obtain⟨w,xs,rfl,_⟩:=k.body
 exact h.ix (k:=0) rfl
theorem PF.ix1 {t u:T}(h:PF t u){B n:Nat}(k:Pc B n u)(hl:hd1 u=wLit):ixO t (.int 1)=some (.str (hd2 u))/\(hd2 u).length<=B:=by
 obtain⟨s,rfl,hs⟩:=VL k hl
 exact⟨h.ix (k:=1) rfl,hs⟩
theorem PF.shr {t u:T}(h:PF t u):shr t=true:=by
 obtain⟨xs,ys,_,⟨rfl,_⟩ | ⟨rfl | rfl,hs⟩⟩:=h
 ·rfl
 ·exact vn fun t ht=>by obtain⟨s,rfl⟩:=hs t ht;rfl
 ·rfl
theorem PF.fm {t u:T}(h:PF t u):Fm (strip t) u:=by
 obtain⟨xs,ys,rfl,⟨rfl,h⟩ | ⟨rfl | rfl,hs⟩⟩:=h
 ·show Fm (.tp (ze xs)) _
  rw [h.strip];exact .tp h
 ·show Fm (.tp (ze ys)) _
  rw [(xf hs).strip];exact .tp (xf hs)
 ·exact .ks hs
theorem XO {c cur:List T}(h:A2 PF c cur):Fms (ze c) cur:=by
 induction h with
 | nil=>exact .nil
 | cons h _ ih=>exact .cons h.fm ih
theorem zeG {s:Lc}:PF (litP s) (litP s):=⟨[],_,rfl,.inr ⟨.inl rfl,fun x hx=>by
 rcases um.mp hx with rfl | hx
 ·exact⟨_,rfl⟩
 ·exact⟨_,ui.mp hx⟩⟩⟩
theorem jt {a b:Lc}(h:a.length+b.length<=16777216):binO .add (.str a) (.str b)=some (.str (a++b)):=by
 simp only [binO,intO,strO,two,Option.bind_none,uJ,orE,Kk,h,gQ,Ul]
noncomputable abbrev oF:Lh:=["word","name","branches"]
def FrP (f:Fr)(t:T):Prop:=∃ (bs:List (List T)) (c:List T),t=.ob 1 oF [.str f.w,.str f.n,.ls (bs.map .ls++[.ls c])]/\A2 (A2 PF) bs f.ps/\A2 PF c f.cur
theorem zaQ {f:Fr}{t u p:T}{B n:Nat}(h:FrP f t)(hu:PF u p)(hc:PcL B n f.cur)(hp:Pc B n p)(hB:B<=1000000)(q:∀ t',FrP (f.put p) t'->Q .non [t',.non]):zA [t,u] Q X:=by
 obtain⟨bs,c,rfl,h1,h3⟩:=h
 unfold zA qZ fnD
 refine⟨rfl,?_⟩
 have e0:=hu.ix0 hp
 have fin:∀ c',A2 PF c' (addP f.cur p)->Q .non [.ob 1 oF [.str f.w,.str f.n,.ls (bs.map .ls++[.ls c'])],.non]:=fun c' e1=>q _ ⟨bs,c',rfl,h1,e1⟩
 have hlen:c.length<=1000000:=by rw [h3.len];have:=hc.1;lia
 generalize bs.map T.ls=bl at fin ⊢
 have s1:stepI (.ls (bl++[.ls c])) (.int (-1))=some bl.length:=jR
 walk_at "st"
 show WSs _ [.own (.ob 1 oF [.str f.w,.str f.n,.ls (bl++[.ls c])]),.own u,.al 0 [2,bl.length]] _
 have g:getP [.own (.ob 1 oF [.str f.w,.str f.n,.ls (bl++[.ls c])]),.own u,.al 0 [2,bl.length]] 0 [2,bl.length]=some (.ls c):=qF
 have pt:∀ c',setT (.ob 1 oF [.str f.w,.str f.n,.ls (bl++[.ls c])]) [2,bl.length] (.ls c')=.ob 1 oF [.str f.w,.str f.n,.ls (bl++[.ls c'])]:=fun c'=>by
  show T.ob 1 oF [.str f.w,.str f.n,setT (.ls (bl++[.ls c])) [bl.length] (.ls c')]=_
  rw [wj]
  rfl
 have app:(¬ (hd1 p=wLit/\∃ q,f.cur.getLast? = some q/\hd1 q=wLit))->A2 PF (c++[u]) (addP f.cur p):=fun hn=>by
  have:=h3.app (.one hu)
  unfold addP
  split
  ·rename_i q e
   rw [uy fun z=>hn ⟨z.1,q,e,z.2⟩]
   exact this
  ·exact this
 have hs:shr u=true:=hu.shr
 by_cases hw:hd1 p=wLit
 ·rcases UK c with ec | ⟨c',v,ec⟩
  ·have tr:truT (.ls c)=some false:=by rw [ec];rfl
   walk_at "go"
   show Q .non [setT _ _ (.ls (c++[u])),.non]
   rw [pt]
   refine fin _ (app fun⟨_,q,z,_⟩=>?_)
   rw [ec] at h3
   cases h3':f.cur with
   | nil=>rw [h3'] at z;cases z
   | cons _ _=>rw [h3'] at h3;cases h3
  ·rw [UL] at ec
   have tr:truT (.ls c)=some true:=by rw [ec];show some (!(c'++[v]).isEmpty)=_;simp
   have h3':=h3
   rw [ec] at h3'
   obtain⟨cur',v',ecur,h5,hv⟩:=h3'.last
   have hvc:Pc B n v':=hc.2 _ (by rw [ecur];simp)
   have i1:ixO (.ls c) (.int (-1))=some v:=by
    rw [ec]
    show orE (atI _ (-1)) _=_
    rw [vU]
    simp only [Uk]
    rfl
   have i2:=hv.ix0 hvc
   by_cases hv':hd1 v' = wLit
   ·obtain⟨i3,l3⟩:=hv.ix1 hvc hv'
    obtain⟨i4,l4⟩:=hu.ix1 hp hw
    have cc:=jt (a:=hd2 v') (b:=hd2 p) (by lia)
    have pu:putO (.ls c) (.int (-1)) (litP (hd2 v'++hd2 p))=some (.ls (c'++[litP (hd2 v'++hd2 p)])):=by
     rw [ec]
     have z:stepI (.ls (c'++[v])) (.int (-1))=some c'.length:=jR
     show(ixN (c'++[v]).length (-1)).map _=_
     rw [show ixN (c'++[v]).length (-1)=some c'.length from z]
     simp
    walk_at "go"
    show Q .non [setT _ _ (.ls (c'++[litP (hd2 v'++hd2 p)])),.non]
    rw [pt]
    refine fin _ ?_
    rw [ecur,jF,uz ⟨hw,hv'⟩]
    exact h5.app (.one zeG)
   ·walk_at "go"
    show Q .non [setT _ _ (.ls (c++[u])),.non]
    rw [pt]
    refine fin _ (app fun⟨_,q,z,z'⟩=>hv' ?_)
    rw [ecur,Uk] at z
    cases z
    exact z'
 ·walk_at "go"
  show Q .non [setT _ _ (.ls (c++[u])),.non]
  rw [pt]
  exact fin _ (app fun z=>hw z.1)
end
section
variable {Q:T->List T->Prop} {X:Exn->List T->Prop}
theorem XQ {w n:Lc}(q:Q .non [.ob 1 oF [.str w,.str n,.ls [.ls []]],.non,.non]):zx [.ob 1 [] [],.str w,.str n] Q X:=by
 unfold zx jq fnD
 refine⟨rfl,?_⟩
 walk_at "go"
 exact q
theorem Z9 {w n:Lc}{bl:List T}(q:∀ b,(b=true↔w=wIf/\bl.length=1)->Q (.bl b) [.non]):zo [.fz (.ob 1 oF [.str w,.str n,.ls bl])] Q X:=by
 unfold zo qQ fnD
 refine⟨rfl,?_⟩
 have f1:fldO (.fz (.ob 1 oF [.str w,.str n,.ls bl])) 1 "word" = some (.str w):=rfl
 have f2:fldO (.fz (.ob 1 oF [.str w,.str n,.ls bl])) 1 "branches" = some (.fz (.ls bl)):=rfl
 have l:biO .len [.fz (.ls bl)]=some (.int bl.length):=Jw
 by_cases h:w=wIf
 ·by_cases h':bl.length=1
  ·walk_at "go"
   exact q _ (by simp [h,h'])
  ·walk_at "go"
   exact q _ (by simp [h];lia)
 ·walk_at "go"
  exact q _ (by simp [h])
theorem zb7 {f:Fr}{t:T}(h:FrP f t)(hf:f.ps=[]\/f.w=wIf/\∃ a,f.ps=[a])(q:∀ r t',PF (fzn r) f.whole->Q r [t']):zY [t] Q X:=by
 obtain⟨bs,c,rfl,h1,h3⟩:=h
 unfold zY wt fnD
 refine⟨rfl,?_⟩
 have f1:∀ {b:T},fldO (.ob 1 oF [.str f.w,.str f.n,b]) 1 "word" = some (.str f.w):=rfl
 have fc:=XO h3
 have fcs:=fc.strip
 by_cases hw:f.w=wIf
 ·rcases hf with hf | ⟨_,a,hf⟩
  ·have eb:bs=[]:=by rw [hf] at h1;cases h1;rfl
   subst eb
   walk_at "go"
   refine Z9 (bl:=[.ls (ze (ze c))]) fun b hb=>⟨fun _=>rfl,?_⟩
   have:=hb.mpr ⟨hw,rfl⟩
   subst this
   walk_at "go"
   refine q _ _ ⟨[.str wIf,.str f.n,.ls (ze (ze c)),.ls []],[.str f.w,.str f.n,.ls f.cur,.ls []],?_,.inl ⟨rfl,?_⟩⟩
   ·unfold Fr.whole
    rw [hf,uz ⟨hw,rfl⟩]
    rfl
   ·rw [fcs,hw]
    exact .cons (.str _) (.cons (.str _) (.cons (.ls fc) (.cons (.ls .nil) .nil)))
  ·rw [hf] at h1
   cases h1 with
   | cons h1 h1'=>
    cases h1'
    rename_i b
    have fb:=XO h1
    have fbs:=fb.strip
    walk_at "go"
    refine Z9 (bl:=[.ls (ze (ze b)),.ls (ze c)]) fun b hb=>⟨fun _=>rfl,?_⟩
    have:b=false:=by
     cases b with
     | false=>rfl
     | true=>exact absurd (hb.mp rfl).2 (by simp)
    subst this
    walk_at "go"
    refine q _ _ ⟨[.str wIf,.str f.n,.ls (ze (ze b)),.ls (ze (ze c))],[.str f.w,.str f.n,.ls a,.ls f.cur],?_,.inl ⟨rfl,?_⟩⟩
    ·unfold Fr.whole
     rw [hf,uy (fun z=>by cases z.2)]
     rfl
    ·rw [fcs,fbs,hw]
     exact .cons (.str _) (.cons (.str _) (.cons (.ls fb) (.cons (.ls fc) .nil)))
 ·have hf:f.ps=[]:=by
   rcases hf with hf | ⟨z,_⟩
   ·exact hf
   ·exact absurd z hw
  have eb:bs=[]:=by rw [hf] at h1;cases h1;rfl
  subst eb
  walk_at "go"
  refine q _ _ ⟨[.str f.w,.str f.n,.ls (ze (ze c))],[.str f.w,.str f.n,.ls f.cur],?_,.inl ⟨rfl,?_⟩⟩
  ·unfold Fr.whole
   rw [hf,uy (fun z=>hw z.1)]
   rfl
  ·rw [fcs]
   exact .cons (.str _) (.cons (.str _) (.cons (.ls fc) .nil))
def FsP (R:Fr->T->Prop):List Fr->List T->Prop
 | [],fs=>fs=[]
 | f::st,fs=>∃ t r,fs=r++[t]/\R f t/\FsP R st r
theorem FsP.len {R:Fr->T->Prop}:∀ {st:List Fr} {fs:List T},FsP R st fs->fs.length=st.length
 | [],_,h=>by rw [show _=[] from h];rfl
 | _::st,_,⟨t,r,e,_,h⟩=>by rw [e,uf,FsP.len h];rfl
noncomputable abbrev dF:Lh:=["over","opened","named"]
noncomputable def nmD (nm:List (Lc)):T:=.dc (nm.map fun n=>.inr (S n)) (nm.map fun _=>.bl true)
def DrP (ov:T)(s:Sx)(d:T):Prop:=∃ fs,d=.ob 2 dF [ov,.ls fs,nmD s.2]/\FsP FrP s.1 fs
theorem d_init (q:Q .non [.ob 2 dF [.non,.ls [.ob 1 oF [.str [],.str [],.ls [.ls []]]],.dc [] []]]):zN [.ob 2 [] []] Q X:=by
 unfold zN jE fnD
 refine⟨rfl,?_⟩
 walk_at "go"
 refine XQ ⟨rfl,_,_,rfl,?_⟩
 walk_at "go"
 exact q
theorem XR {a d:T}{fs:List T}(q:∀ b,(b=true↔fs.length=1)->Q (.bl b) [.non]):zl [.fz (.ob 2 dF [a,.ls fs,d])] Q X:=by
 unfold zl q9 fnD
 refine⟨rfl,?_⟩
 have f2:fldO (.fz (.ob 2 dF [a,.ls fs,d])) 2 "opened" = some (.fz (.ls fs)):=rfl
 have l:biO .len [.fz (.ls fs)]=some (.int fs.length):=Jw
 walk_at "go"
 exact q _ (by rw [decide_eq_true_iff];lia)
theorem zeH {ov d tok:T}{fs:List T}{w:Lc}{a:Int}(hv:ov=.non\/∃ n,ov=.str n)(hs:shr tok=true)(e0:ixO tok (.int 0)=some (.str w))(h0:w≠zT)(h1:ov≠.non->fs.length=1->w=z0)(h2:w=vH->∃ gs u n bl,fs=gs++[.ob 1 oF [.str u,.str n,.ls bl]]/\u=wIf/\bl.length=1)(h3:w=wEnd->fs.length≠1)(h4:w=vI->ov≠.non)(q:Q (.bl true) [.non,.non,.non]):zk [.fz (.ob 2 dF [ov,.ls fs,d]),tok,.int a] Q X:=by
 unfold zk qA fnD
 refine⟨rfl,?_⟩
 have f0:fldO (.fz (.ob 2 dF [ov,.ls fs,d])) 2 "over" = some (fzi ov):=rfl
 have f2:fldO (.fz (.ob 2 dF [ov,.ls fs,d])) 2 "opened" = some (.fz (.ls fs)):=rfl
 walk_at "st"
 refine xx [.own (.fz (.ob 2 dF [ov,.ls fs,d])),.own tok,.own (.int a),.own (.str w)] ?_ fun R hR=>?_
 rotate_left
 ·dsimp only [WS,WE,WEs,WT,WA,WP,WO,WB,WTb,ckT]
  walk_at "go"
  exact hR
 refine xx [.own (.fz (.ob 2 dF [ov,.ls fs,d])),.own tok,.own (.int a),.own (.str w)] ?_ fun R hR=>?_
 rotate_left
 ·dsimp only [WS,WE,WEs,WT,WA,WP,WO,WB,WTb,ckT]
  rcases hv with rfl | ⟨n,rfl⟩
  ·walk_at "go"
   exact hR
  ·walk_at "go"
   refine XR fun b hb=>⟨nofun,?_⟩
   cases b with
   | false=>
    walk_at "go"
    exact hR
   | true=>
    have hw:=h1 nofun (by rw [← wk];exact hb.mp rfl)
    walk_at "go"
    exact hR
 by_cases e1:w=vH
 ·obtain⟨gs,u,n,bl,rfl,hu,hb⟩:=h2 e1
  have i1:ixO (.fz (.ls (gs++[.ob 1 oF [.str u,.str n,.ls bl]]))) (.int (-1))=some (.fz (.ob 1 oF [.str u,.str n,.ls bl])):=by
   show orE (atI _ (-1)) _=_
   rw [vU,Ue]
   simp only [uA,gm,Uk]
   rfl
  walk_at "go"
  refine Z9 fun b hb'=>⟨nofun,?_⟩
  have:=hb'.mpr ⟨hu,by rw [wk];exact hb⟩
  subst this
  walk_at "go"
  exact q
 ·by_cases e2:w=wEnd
  ·walk_at "go"
   refine XR fun b hb=>⟨nofun,?_⟩
   have:b=false:=by
    cases b with
    | false=>rfl
    | true=>exact absurd (by rw [← wk];exact hb.mp rfl) (h3 e2)
   subst this
   walk_at "go"
   exact q
  ·by_cases e3:w=vI
   ·rcases hv with rfl | ⟨n,rfl⟩
    ·exact absurd rfl (h4 e3)
    ·walk_at "go"
     exact q
   ·walk_at "go"
    exact q
end
section
variable {Q:T->List T->Prop} {X:Exn->List T->Prop}
theorem zcR {nm:List (Lc)}{n:Lc}:cmpO .isin (.str n) (nmD nm)=some (decide (n∈nm)):=by
 show some ((nm.map fun n=>(.inr (S n):Key)).any fun k'=>decide (k' = .inr (S n)))=_
 congr 1
 induction nm with
 | nil=>rfl
 | cons m nm ih=>
  rw [uA,Ui,ih]
  by_cases h:n=m
  ·subst h;simp
  ·have:¬ ((.inr (S m):Key)=.inr (S n)):=fun z=>h (kX.mp (Sum.inr.inj z)).symm
   simp [this,h]
theorem zeI {nm:List (Lc)}{n:Lc}(h:n∉nm)(hl:nm.length<=1000000):putO (nmD nm) (.str n) (.bl true)=some (nmD (nm++[n])):=by
 have e:((nm.map fun n=>(.inr (S n):Key)).any fun k'=>decide (k' = .inr (S n)))=false:=by
  have:=zcR (nm:=nm) (n:=n)
  rw [uV h] at this
  exact uU this
 show(if (nm.map fun n=>(.inr (S n):Key)).length<16777216/\_ then some (T.dc (dput _ _ _ _).1 (dput _ _ _ _).2) else none)=_
 rw [uz ⟨by rw [uh];lia,.inl rfl⟩]
 unfold dput
 rw [uy (by rw [e];decide)]
 unfold nmD
 simp
theorem zaR {ov d:T}{st:List Fr}{nm:List (Lc)}{w n:Lc}(h:DrP ov (st,nm) d)(h12:st.length<=12)(hb:w=z0->n∉nm)(hl:nm.length<=1000000)(q:∀ d',DrP ov (⟨w,n,[],[]⟩::st,if w=z0 then nm++[n] else nm) d'->Q .non [d',.non,.non]):zE [d,.str w,.str n] Q X:=by
 obtain⟨fs,rfl,h1⟩:=h
 have hlen:=h1.len
 have hlen:fs.length=st.length:=hlen
 unfold zE qR fnD
 refine⟨rfl,?_⟩
 have ni:=zcR (nm:=nm) (n:=n)
 have l:biO .len [.ls fs]=some (.int fs.length):=rfl
 have fin:∀ nm',nm' = (if w=z0 then nm++[n] else nm)->Q .non [.ob 2 dF [ov,.ls (fs++[.ob 1 oF [.str w,.str n,.ls [.ls []]]]),nmD nm'],.non,.non]:=fun nm' e=>by
  subst e
  exact q _ ⟨_,rfl,_,_,rfl,⟨[],[],rfl,.nil,.nil⟩,h1⟩
 by_cases hw:w=z0
 ·rw [uV (hb hw)] at ni
  have np:=zeI (hb hw) hl
  walk_at "go"
  refine XQ ⟨rfl,_,_,rfl,?_⟩
  walk_at "go"
  exact fin _ (by rw [uz hw])
 ·walk_at "go"
  refine XQ ⟨rfl,_,_,rfl,?_⟩
  walk_at "go"
  exact fin _ (by rw [uy hw])
theorem VQ {xs:List T}{t:T}(h:∀ x∈xs,∃ s,x=.str s)(ht:t=.fz (.tp xs)\/t=.ks false xs):fzn t=t:=by
 rcases ht with rfl | rfl
 ·show T.fz (.tp (ze xs))=_
  rw [(xf h).strip]
 ·rfl
theorem vK (k:Tok):∀ x∈k.xs,∃ s,x=.str s:=by
 cases k<;>simp [Tok.xs]
theorem zb8 {ov d tok:T}{s s':Sx}{k:Tok}{a:Int}{o:Bool}{B:Nat}{t:Lc}(h:DrP ov s d)(hs:Stp o s k s')(hx:Tx k t)(hv:(o=false/\ov=.non)\/(o=true/\∃ n,ov=.str n))(ht:tok=.fz (.tp k.xs)\/tok=.ks false k.xs)(hk:StK B s.1)(h8:8<=B)(hB:B+t.length<=1000000)(hn:s.2.length<=1000000)(q:∀ d',DrP ov s' d'->Q .non [d',.non,.non]):zW [d,tok,.int a] Q X:=by
 have t1:=(VJ hx).1
 have hsh:shr tok=true:=by rcases ht with rfl | rfl<;>rfl
 have ftok:=VQ (vK k) ht
 have pf:PF tok (.tp k.xs):=by
  rcases ht with rfl | rfl
  ·exact⟨k.xs,k.xs,rfl,.inl ⟨rfl,xf (vK k)⟩⟩
  ·exact⟨k.xs,k.xs,rfl,.inr ⟨.inr rfl,vK k⟩⟩
 have nn:cmpO .is tok .non=some false:=by rcases ht with rfl | rfl<;>rfl
 have hv':ov=.non\/∃ n,ov=.str n:=hv.imp And.right And.right
 have ho:ov≠.non->o=true:=fun z=>by rcases hv with⟨_,rfl⟩ | ⟨e,_⟩<;>first | exact absurd rfl z | exact e
 obtain⟨fs,rfl,h1⟩:=h
 have hlen:fs.length=s.1.length:=h1.len
 unfold zW j6 fnD
 refine⟨rfl,?_⟩
 have fov:strip ov=ov:=by rcases hv' with rfl | ⟨n,rfl⟩<;>rfl
 have fself:fzn (.ob 2 dF [ov,.ls fs,nmD s.2])=.fz (.ob 2 dF [ov,.ls (ze fs),strip (nmD s.2)]):=by
  show T.fz (.ob 2 dF [strip ov,.ls (ze fs),strip (nmD s.2)])=_
  rw [fov]
 have hcan:∀ {Q:T->List T->Prop} {X:Exn->List T->Prop},Q (.bl true) [.non,.non,.non]->zk [fzn (.ob 2 dF [ov,.ls fs,nmD s.2]),fzn tok,fzn (.int a)] Q X:=fun {Q X} q=>by
  rw [fself,ftok]
  have can:∀ (w:Lc) (r:List T),k.xs=.str w::r->w≠zT->(ov≠.non->fs.length=1->w=z0)->(w=vH->∃ gs u n bl,ze fs=gs++[.ob 1 oF [.str u,.str n,.ls bl]]/\u=wIf/\bl.length=1)->(w=wEnd->fs.length≠1)->(w=vI->ov≠.non)->zk [.fz (.ob 2 dF [ov,.ls (ze fs),strip (nmD s.2)]),tok,.int a] Q X:=fun w r e g0 g1 g2 g3 g4=>
   zeH hv' hsh (pf.ix (k:=0) (by rw [e];rfl)) g0 (fun z=>by rw [wk];exact g1 z) g2 (fun z=>by rw [wk];exact g3 z) g4 q
  cases hs with
  | put hp hno=>
   rename_i f st nm
   have one:ov≠.non->fs.length=1->False:=fun z1 z2=>by
    have:=hno (ho z1)
    cases st with
    | nil=>exact this rfl
    | cons _ _=>simp only [ua] at hlen;omega
   cases k with
   | lit s=>exact can _ _ rfl (by decide) (fun z1 z2=>(one z1 z2).elim) (fun z=>absurd z (by decide)) (fun z=>absurd z (by decide)) (fun z=>absurd z (by decide))
   | hole s=>exact can _ _ rfl (by decide) (fun z1 z2=>(one z1 z2).elim) (fun z=>absurd z (by decide)) (fun z=>absurd z (by decide)) (fun z=>absurd z (by decide))
   | draw s=>exact can _ _ rfl (by decide) (fun z1 z2=>(one z1 z2).elim) (fun z=>absurd z (by decide)) (fun z=>absurd z (by decide)) (fun z=>absurd z (by decide))
   | elder=>
    refine can _ _ rfl (by decide) (fun z1 z2=>(one z1 z2).elim) (fun z=>absurd z (by decide)) (fun z=>absurd z (by decide)) fun _ z=>?_
    have hp:o=true:=hp
    rcases hv with⟨e,_⟩ | ⟨_,n,e⟩
    ·rw [hp] at e;cases e
    ·rw [e] at z;cases z
   | op _ _=>cases hp
   | els=>cases hp
   | fin=>cases hp
  | op g1 g2 g3 g4 g5=>
   refine can _ _ rfl ?_ (fun z1 z2=>g4 (ho z1) (by rw [← hlen];exact z2)) (fun z=>?_) (fun z=>?_) (fun z=>?_)
   ·rcases g3 with rfl | rfl | rfl<;>decide
   ·rcases g3 with rfl | rfl | rfl<;>cases z
   ·rcases g3 with rfl | rfl | rfl<;>cases z
   ·rcases g3 with rfl | rfl | rfl<;>cases z
  | els g1 g2 g3=>
   rename_i f st nm
   obtain⟨tf,r,rfl,⟨bs,c,rfl,k1,k2⟩,k3⟩:=h1
   have eb:bs=[]:=by rw [g2] at k1;cases k1;rfl
   subst eb
   refine can _ _ rfl (by decide) (fun z1 z2=>?_) (fun _=>⟨ze r,f.w,f.n,[.ls (ze c)],by rw [ZY];rfl,g1,rfl⟩) (fun z=>absurd z (by decide)) (fun z=>absurd z (by decide))
   cases st with
   | nil=>exact absurd rfl (g3 (ho z1))
   | cons _ _=>simp only [ua] at hlen;omega
  | fin=>
   have l2:fs.length≠1:=by simp only [ua] at hlen;lia
   exact can _ _ rfl (by decide) (fun z1 z2=>absurd z2 l2) (fun z=>absurd z (by decide)) (fun _=>l2) (fun z=>absurd z (by decide))
 refine xx [.own (.ob 2 dF [ov,.ls fs,nmD s.2]),.own tok,.own (.int a),.no,.no] ?_ fun R hR=>?_
 rotate_left
 ·dsimp only [WS,WE,WEs,WT,WA,WP,WO,WB,WTb,ckT]
  walk_at "go"
  refine hcan ⟨fun _=>rfl,?_⟩
  walk_at "go"
  exact hR
 cases hs with
 | put hp hno=>
  rename_i f st nm
  obtain⟨tf,r,rfl,k1,k3⟩:=h1
  have e0:∃ w,ixO tok (.int 0)=some (.str w)/\w≠zT/\cmpO .isin (.str w) vX=some false/\w≠vH/\w≠wEnd:=by
   cases k with
   | lit s=>exact⟨_,pf.ix (k:=0) rfl,by decide,rfl,by decide,by decide⟩
   | hole s=>exact⟨_,pf.ix (k:=0) rfl,by decide,rfl,by decide,by decide⟩
   | draw s=>exact⟨_,pf.ix (k:=0) rfl,by decide,rfl,by decide,by decide⟩
   | elder=>exact⟨_,pf.ix (k:=0) rfl,by decide,rfl,by decide,by decide⟩
   | op _ _=>cases hp
   | els=>cases hp
   | fin=>cases hp
  obtain⟨w,e0,w1,w2,w3,w4⟩:=e0
  obtain⟨p1,p2⟩:=zaM (n:=12 - st.length) hp hx h8
  have s1:stepI (.ls (r++[tf])) (.int (-1))=some r.length:=jR
  walk_at "st"
  show WSs _ [.own (.ob 2 dF [ov,.ls (r++[tf]),nmD nm]),.own tok,.own (.int a),.own (.str w),.no] _
  have g:getP [.own (.ob 2 dF [ov,.ls (r++[tf]),nmD nm]),.own tok,.own (.int a),.own (.str w),.no] 0 [1,r.length]=some tf:=qF
  have ob:∃ l,obV tf=some (1,oF,l):=by obtain⟨bs,c,rfl,_⟩:=k1;exact⟨_,rfl⟩
  obtain⟨ol,ob⟩:=ob
  walk_at "go"
  refine⟨⟨tf,g,_,ob,rfl,(by decide:("add_piece":Str)∉oF)⟩,?_⟩
  walk_at "go"
  refine⟨tf,g,?_⟩
  rw [ftok]
  refine zaQ k1 pf (hk.2.1.1.mono (u4 B t.length)) p1 hB fun t' ht'=>⟨nofun,?_⟩
  walk_at "go"
  show Q .non [setT _ [1,r.length] t',.non,.non]
  have pt:setT (.ob 2 dF [ov,.ls (r++[tf]),nmD nm]) [1,r.length] t' = .ob 2 dF [ov,.ls (r++[t']),nmD nm]:=by
   show T.ob 2 dF [ov,setT (.ls (r++[tf])) [r.length] t',nmD nm]=_
   rw [wj]
   rfl
  rw [pt]
  exact q _ ⟨_,rfl,_,_,rfl,ht',k3⟩
 | op g1 g2 g3 g4 g5=>
  rename_i st nm w n
  have e0:ixO tok (.int 0)=some (.str w):=pf.ix (k:=0) rfl
  have e1:ixO tok (.int 1)=some (.str n):=pf.ix (k:=1) rfl
  have w1:w≠zT:=by rcases g3 with rfl | rfl | rfl<;>decide
  have w2:cmpO .isin (.str w) vX=some true:=by rcases g3 with rfl | rfl | rfl<;>rfl
  walk_at "go"
  refine zaR ⟨fs,rfl,h1⟩ g1 g5 hn fun d' hd'=>⟨nofun,?_⟩
  walk_at "go"
  exact q _ hd'
 | els g1 g2 g3=>
  rename_i f st nm
  have e0:ixO tok (.int 0)=some (.str vH):=pf.ix (k:=0) rfl
  obtain⟨tf,r,rfl,⟨bs,c,rfl,k1,k2⟩,k3⟩:=h1
  have eb:bs=[]:=by rw [g2] at k1;cases k1;rfl
  subst eb
  have s1:stepI (.ls (r++[.ob 1 oF [.str f.w,.str f.n,.ls [.ls c]]])) (.int (-1))=some r.length:=jR
  walk_at "st"
  show WSs _ [.own (.ob 2 dF [ov,.ls (r++[.ob 1 oF [.str f.w,.str f.n,.ls [.ls c]]]),nmD nm]),.own tok,.own (.int a),.own (.str vH),.no] _
  have g:getP [.own (.ob 2 dF [ov,.ls (r++[.ob 1 oF [.str f.w,.str f.n,.ls [.ls c]]]),nmD nm]),.own tok,.own (.int a),.own (.str vH),.no] 0 [1,r.length]=some (.ob 1 oF [.str f.w,.str f.n,.ls [.ls c]]):=qF
  have g':getP [.own (.ob 2 dF [ov,.ls (r++[.ob 1 oF [.str f.w,.str f.n,.ls [.ls c]]]),nmD nm]),.own tok,.own (.int a),.own (.str vH),.no] 0 [1,r.length,2]=some (.ls [.ls c]):=qF
  walk_at "go"
  show Q .non [setT _ [1,r.length,2] (.ls [.ls c,.ls []]),.non,.non]
  have pt:setT (.ob 2 dF [ov,.ls (r++[.ob 1 oF [.str f.w,.str f.n,.ls [.ls c]]]),nmD nm]) [1,r.length,2] (.ls [.ls c,.ls []])=.ob 2 dF [ov,.ls (r++[.ob 1 oF [.str f.w,.str f.n,.ls [.ls c,.ls []]]]),nmD nm]:=by
   show T.ob 2 dF [ov,setT (.ls (r++[.ob 1 oF [.str f.w,.str f.n,.ls [.ls c]]])) [r.length,2] (.ls [.ls c,.ls []]),nmD nm]=_
   rw [wj]
   rfl
  rw [pt]
  exact q _ ⟨_,rfl,_,_,rfl,⟨[c],[],rfl,.one k2,.nil⟩,k3⟩
 | fin=>
  rename_i f g st nm
  have e0:ixO tok (.int 0)=some (.str wEnd):=pf.ix (k:=0) rfl
  obtain⟨tf,r,rfl,k1,tg,r',rfl,k2,k3⟩:=h1
  have mp:muT .pop (.ls (r'++[tg]++[tf])) []=some (.ls (r'++[tg]),tf):=by
   show((r'++[tg]++[tf])[(r'++[tg]++[tf]).length - 1]?).map _=_
   simp
  walk_at "st"
  walk_at "st"
  walk_at "st"
  walk_at "st"
  walk_at "st"
  walk_at "st"
  show WSs _ [.own (.ob 2 dF [ov,.ls (r'++[tg]),nmD nm]),.own tok,.own (.int a),.own (.str wEnd),.own tf] _
  have s1:stepI (.ls (r'++[tg])) (.int (-1))=some r'.length:=jR
  have g:∀ x,getP [.own (.ob 2 dF [ov,.ls (r'++[tg]),nmD nm]),.own tok,.own (.int a),.own (.str wEnd),x] 0 [1,r'.length]=some tg:=fun x=>qF
  have ob:∀ {f:Fr} {t:T},FrP f t->∃ l,obV t=some (1,oF,l):=fun h=>by obtain⟨bs,c,rfl,_⟩:=h;exact⟨_,rfl⟩
  obtain⟨ol,og⟩:=ob k2
  obtain⟨ol',of'⟩:=ob k1
  have g0:=g (.own tf)
  walk_at "go"
  refine⟨⟨tg,g0,_,og,rfl,(by decide:("add_piece":Str)∉oF)⟩,?_⟩
  walk_at "go"
  refine⟨⟨tf,rfl,_,of',rfl,(by decide:("whole":Str)∉oF)⟩,?_⟩
  walk_at "go"
  have kf:=hk.2.1
  have kg:=hk.2.2.2.1
  refine zb7 k1 kf.2.2.1 fun r tf' hr=>⟨nofun,?_⟩
  walk_at "go"
  refine⟨tg,g _,?_⟩
  have e12:12 - st.length=12 - (st.length+1)+1:=by have:=hk.1;simp only [ua] at this;lia
  have wp:Pc (B+t.length) (12 - st.length) f.whole:=by rw [e12];exact(ki kf h8).mono (u4 _ _)
  refine zaQ k2 hr (kg.1.mono (u4 B t.length)) wp hB fun t' ht'=>⟨nofun,?_⟩
  walk_at "go"
  show Q .non [setT _ [1,r'.length] t',.non,.non]
  have pt:setT (.ob 2 dF [ov,.ls (r'++[tg]),nmD nm]) [1,r'.length] t' = .ob 2 dF [ov,.ls (r'++[t']),nmD nm]:=by
   show T.ob 2 dF [ov,setT (.ls (r'++[tg])) [r'.length] t',nmD nm]=_
   rw [wj]
   rfl
  rw [pt]
  exact q _ ⟨_,rfl,_,_,rfl,ht',k3⟩
end
section
variable {Q:T->List T->Prop} {X:Exn->List T->Prop}
theorem A2.get' {α β:Type}{R:α->β->Prop}{as:List α}{bs:List β}(h:A2 R as bs):∀ {k:Nat} {a:α},as[k]? = some a->∃ b,bs[k]? = some b/\R a b:=by
 induction h with
 | nil=>intro k b e;simp at e
 | cons h _ ih=>
  intro k b e
  cases k with
  | zero=>simp at e;subst e;exact⟨_,rfl,h⟩
  | succ k=>simpa using ih (by simpa using e)
theorem zcS {R:T->T->Prop}{fe:Sl->QP->Prop}{s:Sl}{Q:QP}(hs:s.map Slot.noAl=s)(h:∀ d e,R d e->∀ K:QP,K e (.own d::s)->fe (.own d::s) K):∀ {ds es:List T} {acc:List T},A2 R ds es->acc.length+ds.length<=1000000->Q (.ls (acc++es)) s->xS 1 (fun s K=>K true s) fe ds acc s Q
 | _,_,acc,.nil,_,q=>by rw [ux] at q;exact q
 | _,_,acc,.cons (a:=d) (b:=e) (as:=ds) (bs:=es) r k,hl,q=>by
  refine⟨[.own d],rfl,?_⟩
  simp only [ua] at hl
  refine w_tt (h d e r _ ⟨by lia,?_⟩)
  show xS 1 _ _ ds (acc++[e]) (s.map Slot.noAl) Q
  rw [hs]
  exact zcS hs h k (by rw [uf];simp only [ua,uk];lia) (by rw [uM];exact q)
theorem zeJ {xs ys:List T}(h:Fms xs ys)(hy:∀ y∈ys,(∃ s,y=.str s)\/∃ ps,y=.ls ps):shrs (xs.map fzi)=true:=by
 refine vn fun t ht=>?_
 obtain⟨x,hx,rfl⟩:=u0.mp ht
 obtain⟨y,h1,h2⟩:=h.a2.mem hx
 rcases hy y h1 with⟨s,rfl⟩ | ⟨ps,rfl⟩
 ·rw [XN h2];rfl
 ·cases h2;rfl
theorem VR {P:T->Prop}:∀ {xs ys:List T},Fms xs ys->(∀ y∈ys,P y)->A2 (fun d e=>∃ x,d=fzi x/\Fm x e/\P e) (xs.map fzi) ys
 | _,_,.nil,_=>.nil
 | _,_,.cons h k,hp=>.cons ⟨_,rfl,h,hp _ ue⟩ (VR k fun y hy=>hp y (ug _ hy))
theorem xg:∀ (m n:Nat) {Q:T->List T->Prop} {X:Exn->List T->Prop} {ps us:List T} {B:Nat},(us=[]/\0<m)\/n+1<m->Fms ps us->(∀ u∈us,Pc B n u)->B<=1000000->ps.length<=B->Q (.ls us) [.non]->zM m [.fz (.ls ps)] Q X
 | 0,_,_,_,_,_,_,h,_,_,_,_,_=>by rcases h with⟨_,h⟩ | h<;>omega
 | m+1,n,Q,X,ps,us,B,hn,hf,hp,hB,hl,q=>by
  unfold zM kh fnD
  refine⟨rfl,?_⟩
  have it:itT .seq [.fz (.ls ps)]=some (ps.map fzi):=by
   show orE (shO (some (ps.map fzi))) _=_
   rw [Zl fun t ht=>?_]
   ·rfl
   ·obtain⟨p,hp',rfl⟩:=u0.mp ht
    obtain⟨u,h1,h2⟩:=hf.a2.mem hp'
    obtain⟨w,xs,rfl,_⟩:=(hp u h1).body
    cases h2<;>rfl
  walk_at "go"
  refine xw (fun k s=>∃ x,s=[.own (.fz (.ls ps)),.own (.ls (us.take k)),x]) ⟨_,rfl⟩ ?_ ?_
  ·rintro k d _ hd ⟨x,rfl⟩
   rw [uD] at hd
   obtain⟨p,hp',rfl⟩:=uo.mp hd
   obtain⟨u,hu,fm⟩:=hf.a2.get' hp'
   have pc:=hp u (uR hu)
   obtain⟨w,ys,rfl,b1,b2,b3,b4⟩:=pc.body
   refine⟨_,rfl,fun K hK=>?_⟩
   have hn:n<m:=by
    rcases hn with⟨h,_⟩ | h
    ·rw [h] at hu;simp at hu
    ·lia
   have hk:(us.take k).length<=1000000:=by rw [Us,← hf.a2.len];lia
   have sq:∃ xs,itT .seq [fzi p]=some (xs.map fzi)/\Fms xs (.str w::ys):=by
    cases fm with
    | ks h=>
     refine⟨.str w::ys,?_,xf h⟩
     show orE (shO (some ((T.str w::ys).map fzi))) _=_
     rw [W0 h,Zl fun t ht=>by obtain⟨s,rfl⟩:=h t ht;rfl]
     rfl
    | tp h=>
     rename_i xs
     refine⟨xs,?_,h⟩
     show orE (shO (some (xs.map fzi))) _=_
     have:shrs (xs.map fzi)=true:=zeJ h fun y hy=>by
      rcases um.mp hy with rfl | hy
      ·exact .inl ⟨_,rfl⟩
      ·exact(b4 y hy).imp (fun⟨s,e,_⟩=>⟨s,e⟩) fun⟨ps,e,_⟩=>⟨ps,e⟩
     show orE (if shrs (xs.map fzi)=true then _ else _) _=_
     rw [uz this]
     rfl
   obtain⟨xs,sq,fx⟩:=sq
   walk_at "go"
   have hP:∀ y∈T.str w::ys,(∃ s,y=.str s)\/∃ qs,y=.ls qs/\qs.length<=B/\∀ p∈qs,∃ m,m<n/\Pc B m p:=fun y hy=>by
    rcases um.mp hy with rfl | hy
    ·exact .inl ⟨_,rfl⟩
    ·exact(b4 y hy).imp (fun⟨s,e,_⟩=>⟨s,e⟩) id
   refine zcS (s:=[.own (.fz (.ls ps)),.own (.ls (us.take k)),.own (fzi p)]) (acc:=[]) (by cases p<;>rfl) ?_ (VR fx hP) ?_ ?_
   ·rintro _ e ⟨x,rfl,fm',hP⟩ K' hK'
    rcases hP with⟨s,rfl⟩ | ⟨qs,rfl,l1,l2⟩
    ·have:=XN fm'
     subst this
     walk_at "go"
     exact hK'
    ·cases fm' with
     | ls fm'=>
      rename_i qs'
      walk_at "go"
      have e:fzn (fzi (.ls qs'))=.fz (.ls qs'):=by
       show T.fz (.ls (ze qs'))=_
       rw [fm'.strip]
      rw [e]
      refine xg m (n - 1) (B:=B) ?_ fm' (fun u hu=>?_) hB (by rw [fm'.a2.len];exact l1) ⟨nofun,hK'⟩
      ·by_cases h0:n=0
       ·left
        refine⟨?_,by lia⟩
        cases qs with
        | nil=>rfl
        | cons u _=>obtain⟨m',h1,_⟩:=l2 u ue;omega
       ·right;lia
      ·obtain⟨m',h1,h2⟩:=l2 u hu
       exact h2.to (by lia)
   ·have:=fx.a2.len
    simp only [ua] at this
    simp only [uk,uh]
    lia
   ·walk_at "go"
    refine hK _ ⟨.own (fzi p),?_⟩
    rw [List.take_succ,hu]
    rfl
  ·rintro _ ⟨x,rfl⟩
   walk_at "go"
   show Q (.ls (us.take (ps.map fzi).length)) [.non]
   rw [uh,hf.a2.len,gH]
   exact q
end
section
variable {Q:T->List T->Prop} {X:Exn->List T->Prop}
theorem zaS:∀ {n B:Nat} {u:T},Pc B n u->cln u=true/\Fm u u:=by
 intro n
 induction n using Nat.strongRecOn with
 | _ n ih=>
  intro B u h
  obtain⟨w,xs,rfl,_,_,_,h4⟩:=h.body
  have:∀ xs:List T,(∀ x∈xs,(∃ s,x=.str s/\s.length<=B)\/∃ ps,x=.ls ps/\ps.length<=B/\∀ p∈ps,∃ m,m<n/\Pc B m p)->clns xs=true/\Fms xs xs:=fun xs=>by
   induction xs with
   | nil=>exact fun _=>⟨rfl,.nil⟩
   | cons x xs ih2=>
    intro h
    obtain⟨a,b⟩:=ih2 fun y hy=>h y (ug _ hy)
    have hx:cln x=true/\Fm x x:=by
     rcases h x ue with⟨s,rfl,_⟩ | ⟨ps,rfl,_,hp⟩
     ·exact⟨rfl,.str s⟩
     ·have:∀ ps:List T,(∀ p∈ps,∃ m,m<n/\Pc B m p)->clns ps=true/\Fms ps ps:=fun ps=>by
       induction ps with
       | nil=>exact fun _=>⟨rfl,.nil⟩
       | cons p ps ih3=>
        intro h
        obtain⟨a,b⟩:=ih3 fun y hy=>h y (ug _ hy)
        obtain⟨m,hm,hpc⟩:=h p ue
        obtain⟨c,d⟩:=ih m hm hpc
        exact⟨by simp only [clns,c,a,U5],.cons d b⟩
      obtain⟨a,b⟩:=this ps hp
      exact⟨by simp only [cln,a],.ls b⟩
    exact⟨by simp only [clns,hx.1,a,U5],.cons hx.2 b⟩
  obtain⟨a,b⟩:=this xs h4
  exact⟨by simp only [cln,clns,a,U5],.tp (.cons (.str w) b)⟩
theorem kj {n B:Nat}{us:List T}(h:∀ u∈us,Pc B n u):clns us=true/\Fms us us:=by
 induction us with
 | nil=>exact⟨rfl,.nil⟩
 | cons u us ih=>
  obtain⟨a,b⟩:=ih fun y hy=>h y (ug _ hy)
  obtain⟨c,d⟩:=zaS (h u ue)
  exact⟨by simp only [clns,c,a,U5],.cons d b⟩
noncomputable abbrev sF:Lh:=["over","pieces"]
theorem Qa {ov:T}{c us:List T}{B n:Nat}(hv:ov=.non\/∃ n,ov=.str n)(hf:Fms (ze c) us)(hp:∀ u∈us,Pc B n u)(hn:n<=30)(hB:B<=1000000)(hl:us.length<=B)(q:Q .non [.ob 0 sF [ov,.ls us],.non,.ls c]):zr [.ob 0 [] [],ov,.ls c] Q X:=by
 unfold zr jD fnD
 refine⟨rfl,?_⟩
 have hs:shr ov=true:=by rcases hv with rfl | ⟨n,rfl⟩<;>rfl
 walk_at "go"
 show zM 40 [.fz (.ls (ze c))] _ _
 refine xg 40 n (.inr (by lia)) hf hp hB (by rw [hf.a2.len];exact hl) ⟨fun _=>(kj hp).1,?_⟩
 walk_at "go"
 exact q
theorem zaT {ov d:T}{us:List T}{nm:List (Lc)}{a:Int}{B:Nat}(hv:ov=.non\/∃ n,ov=.str n)(h:DrP ov ([⟨[],[],[],us⟩],nm) d)(hp:PcL B 12 us)(hB:B<=1000000)(q:∀ d',Q (.ob 0 sF [ov,.ls us]) [d',.non]):qe [d,.int a] Q X:=by
 obtain⟨fs,rfl,tf,r,rfl,⟨bs,c,rfl,k1,k2⟩,k3⟩:=h
 have:bs=[]:=by cases k1;rfl
 subst this
 have:r=[]:=k3
 subst this
 unfold qe wU fnD
 refine⟨rfl,?_⟩
 have fov:strip ov=ov:=by rcases hv with rfl | ⟨n,rfl⟩<;>rfl
 have hs:shr ov=true:=by rcases hv with rfl | ⟨n,rfl⟩<;>rfl
 have fv:fzn ov=ov:=by rcases hv with rfl | ⟨n,rfl⟩<;>rfl
 walk_at "go"
 refine XR (fs:=ze [_]) fun b hb=>⟨fun _=>rfl,?_⟩
 have:=hb.mpr rfl
 subst this
 walk_at "go"
 show zr [.ob 0 [] [],fzn ov,.ls c] _ _
 rw [fv]
 refine Qa hv (XO k2) hp.2 (by lia) hB hp.1 ⟨rfl,_,_,rfl,?_⟩
 walk_at "go"
 exact q _
theorem zb9 {l:Lc}(h:∀ c∈l,c∈SG)(q:Q (.str l) [.non]):qG [.str l] Q X:=by
 unfold qG vC fnD
 refine⟨rfl,?_⟩
 have it:itT .enumS [.str l]=some (yc 0 (L4.signs l)):=rfl
 walk_at "go"
 have en:∀ (l:Lc) (n:Nat),∀ d∈yc n (L4.signs l),∃ (j:Nat) (c:Nat),d=.tp [.int j,.str [c]]/\c∈l:=fun l=>by
  induction l with
  | nil=>intro n d hd;cases hd
  | cons c l ih=>
   intro n d hd
   rcases um.mp hd with rfl | hd
   ·exact⟨n,c,rfl,ue⟩
   ·obtain⟨j,c',e,hc⟩:=ih (n+1) d hd
    exact⟨j,c',e,ug _ hc⟩
 refine xw (fun k s=>∃ x y,s=[.own (.str l),x,y]) ⟨_,_,rfl⟩ ?_ ?_
 ·rintro k d _ hd ⟨x,y,rfl⟩
  obtain⟨j,c,rfl,hc⟩:=en l 0 d (uR hd)
  refine⟨_,rfl,fun K hK=>?_⟩
  have cc:cmpO .notin (.str [c]) (fzi g_SIGNS)=some false:=by
   show some (!decide (c∈SG))=_
   rw [UG (h c hc)]
   rfl
  walk_at "go"
  exact hK _ ⟨_,_,rfl⟩
 ·rintro _ ⟨x,y,rfl⟩
  walk_at "go"
  exact q
theorem Rd.inv {o:Bool}{s s':Sx}{l:Lc}(h:Rd o s l s'):(l=[]/\s=s')\/∃ k t r s1,l=t++r/\Stp o s k s1/\Tx k t/\Rd o s1 r s':=by
 cases h with
 | nil=>exact .inl ⟨rfl,rfl⟩
 | cons h1 h2 h3=>exact .inr ⟨_,_,_,_,rfl,h1,h2,h3⟩
theorem zeK {o:Bool}{s s':Sx}{k:Tok}(h:Stp o s k s'):s'.2.length<=s.2.length+1:=by
 cases h with
 | put _ _=>exact UO _
 | op _ _ _ _ _=>
  show(if _ then _ else _:List (Lc)).length<=_
  split
  ·rw [uf];exact uu _
  ·exact UO _
 | els _ _ _=>exact UO _
 | fin=>exact UO _
def root:Fr:=⟨[],[],[],[]⟩
noncomputable def xV (n:Lc):Lc:=123::((zT++32::n)++[125])
def Reads (ov:T)(l:Lc)(us:List T):Prop:=
 (ov=.non/\∃ nm,Rd false ([root],[]) l ([⟨[],[],[],us⟩],nm))\/∃ n r nm,ov=.str n/\js n/\l=xV n++r/\Rd true ([root],[]) r ([⟨[],[],[],us⟩],nm)
theorem Yx {n:Lc}{d tok:T}{s:Sx}(hn:js n)(h:DrP .non s d)(ht:tok=.fz (.tp [.str zT,.str n]))(q:∀ d',DrP (.str n) s d'->Q .non [d',.non,.non]):zW [d,tok,.int 0] Q X:=by
 subst ht
 obtain⟨fs,rfl,h1⟩:=h
 unfold zW j6 fnD
 refine⟨rfl,?_⟩
 have e0:ixO (.fz (.tp [.str zT,.str n])) (.int 0)=some (.str zT):=rfl
 have e1:ixO (.fz (.tp [.str zT,.str n])) (.int 1)=some (.str n):=rfl
 walk_at "go"
 have can:∀ {Q:T->List T->Prop} {X:Exn->List T->Prop},Q (.bl true) [.non,.non,.non]->zk [fzn (.ob 2 dF [.non,.ls fs,nmD s.2]),.fz (.tp [.str zT,.str n]),.int 0] Q X:=fun q=>by
  unfold zk qA fnD
  refine⟨rfl,?_⟩
  walk_at "go"
  exact q
 refine can ⟨fun _=>rfl,?_⟩
 walk_at "go"
 exact q _ ⟨fs,rfl,h1⟩
theorem Reads.sg {ov:T}{l:Lc}{us:List T}(h:Reads ov l us):∀ c∈l,c∈SG:=by
 rcases h with⟨_,nm,h⟩ | ⟨n,r,nm,_,hn,rfl,h⟩
 ·exact h.sg
 ·intro c hc
  rcases ud.mp hc with z | z
  ·unfold xV at z
   rcases um.mp z with rfl | z
   ·decide
   ·rcases ud.mp z with z | z
    ·rcases ud.mp z with z | z
     ·exact(by decide:∀ c∈zT,c∈SG) c z
     ·rcases um.mp z with rfl | z
      ·decide
      ·exact(j7 hn c z).1
    ·rw [ui.mp z];decide
  ·exact h.sg c z
theorem Qb (B:Nat):StK B [root]:=⟨uS _,⟨⟨uS _,nofun⟩,nofun,.inl rfl,uS _,uS _,by decide⟩,trivial⟩
theorem Reads.pc {ov:T}{l:Lc}{us:List T}(h:Reads ov l us):PcL (8+l.length) 12 us:=by
 rcases h with⟨_,nm,h⟩ | ⟨n,r,nm,_,hn,rfl,h⟩
 ·exact(h.ok (B:=8) (Qb 8) (uu _)).2.1.1
 ·exact(h.ok (B:=8) (Qb 8) (uu _)).2.1.1.mono (by rw [uf];lia)
theorem yh {ov:T}{l:Lc}{us:List T}(h:Reads ov l us)(hl:l.length<=2000)(q:Q (.ob 0 sF [ov,.ls us]) [.non]):qb [.str l] Q X:=by
 unfold qb xH fnD
 refine⟨rfl,?_⟩
 have lt:biO .len [.str l]=some (.int l.length):=rfl
 have hpc:=h.pc
 have hsg:=h.sg
 have h':∃ o nm,((o=false/\ov=.non)\/(o=true/\∃ n,ov=.str n))/\((ov=.non/\Rd o ([root],[]) l ([⟨[],[],[],us⟩],nm))\/∃ n r,ov=.str n/\js n/\l=xV n++r/\Rd o ([root],[]) r ([⟨[],[],[],us⟩],nm)):=by
  rcases h with⟨e,nm,h⟩ | ⟨n,r,nm,e,hn,el,h⟩
  ·exact⟨false,nm,.inl ⟨rfl,e⟩,.inl ⟨e,h⟩⟩
  ·exact⟨true,nm,.inr ⟨rfl,n,e⟩,.inr ⟨n,r,e,hn,el,h⟩⟩
 clear h
 obtain⟨o,nm,hv,h⟩:=h'
 have hv':ov=.non\/∃ n,ov=.str n:=hv.imp And.right And.right
 walk_at "go"
 refine zb9 hsg ⟨nofun,?_⟩
 walk_at "go"
 refine d_init ⟨rfl,_,_,rfl,?_⟩
 walk_at "go"
 have d0:DrP .non ([root],[]) (.ob 2 dF [.non,.ls [.ob 1 oF [.str [],.str [],.ls [.ls []]]],.dc [] []]):=⟨_,rfl,_,[],rfl,⟨[],[],rfl,.nil,.nil⟩,rfl⟩
 refine zcL (fun m s=>(∃ a:Nat,∃ s1 x d,s=[.own (.str l),.own d,.own (.int a),x]/\DrP ov s1 d/\Rd o s1 (l.drop a) ([⟨[],[],[],us⟩],nm)/\a+m=l.length/\StK (8+a) s1.1/\s1.2.length<=a)\/∃ x d n r,s=[.own (.str l),.own d,.own (.int 0),x]/\DrP .non ([root],[]) d/\ov=.str n/\js n/\l=xV n++r/\Rd o ([root],[]) r ([⟨[],[],[],us⟩],nm)/\m=l.length) l.length ?_ ?_
 ·rcases h with⟨e,h⟩ | ⟨n,r,e,hn,el,h⟩
  ·subst e
   exact .inl ⟨0,_,_,_,rfl,d0,h,by lia,Qb _,uu _⟩
  ·exact .inr ⟨_,_,n,r,rfl,d0,e,hn,el,h,rfl⟩
 rintro m _ (⟨a,s1,x,d,rfl,hd,hr,hm,hk,hnm⟩ | ⟨x,d,n,r,rfl,hd,hov,hn,el,hr,hm⟩) K hK
 ·rcases hr.inv with⟨e,e'⟩ | ⟨k,t,r,s2,e,hs,ht,hr'⟩
  ·have:l.length<=a:=by
    have:=congrArg List.length e
    simp only [Uh,uk] at this
    lia
   subst e'
   have hd':=hd
   obtain⟨fs,rfl,_⟩:=hd'
   walk_at "go"
   refine zaT (B:=8+l.length) hv' hd hpc (by lia) fun d'=>⟨nofun,?_⟩
   walk_at "go"
   exact q
  ·have t1:=(VJ ht).1
   have ll:a+t.length+r.length=l.length:=by
    have:=congrArg List.length e
    simp only [Uh,uf] at this
    lia
   walk_at "go"
   refine WZ ht e fun u hu=>⟨nofun,?_⟩
   have ef:fzn (.tp [u,.int t.length])=.fz (.tp [u,.int t.length]):=by
    show T.fz (.tp [strip u,.int t.length])=_
    rw [show strip u=u by
     rcases hu with rfl | rfl
     ·show T.tp (ze k.xs)=_
      rw [(xf (vK k)).strip]
     ·rfl]
   have ht':fzi u=.fz (.tp k.xs)\/fzi u=.ks false k.xs:=by
    rcases hu with rfl | rfl
    ·exact .inl rfl
    ·exact .inr rfl
   have hsh:shr (fzi u)=true:=by rcases ht' with e | e<;>rw [e]<;>rfl
   rw [ef]
   show WSs _ [.own (.str l),.own d,.own (.int a),.own (.fz (.tp [u,.int t.length]))] _
   have i0:ixO (.fz (.tp [u,.int t.length])) (.int 0)=some (fzi u):=rfl
   have i1:ixO (.fz (.tp [u,.int t.length])) (.int 1)=some (.int t.length):=rfl
   have hd':=hd
   obtain⟨fs,rfl,_⟩:=hd'
   walk_at "go"
   rw [VQ (vK k) ht']
   refine zb8 hd hs ht hv ht' hk (by lia) (by lia) (by lia) fun d' hd'=>⟨nofun,?_⟩
   walk_at "go"
   refine hK (m - t.length) _ (by lia) (.inl ⟨a+t.length,s2,.own (.fz (.tp [u,.int t.length])),d',?_,hd',?_,by lia,?_,?_⟩)
   ·rw [show((a+t.length:Nat):Int)=(a:Int)+t.length by lia]
    rfl
   ·rw [← List.drop_drop,e,List.drop_left]
    exact hr'
   ·have:=zaN hs ht hk (by lia)
    rwa [Nat.add_assoc] at this
   ·have:=zeK hs
    show s2.2.length<=a+t.length
    lia
 ·have hov':o=true:=by
   rcases hv with⟨_,z⟩ | ⟨z,_⟩
   ·rw [hov] at z;cases z
   ·exact z
  have oi:(zT++32::n).length<=13:=by have:=hn.2.1;simp only [uf,ua,uk];lia
  have ll:l.length=(zT++32::n).length+2+r.length:=by
   rw [el]
   unfold xV
   simp only [uf,ua,uk]
  have n125:125∉zT++32::n:=fun z=>by
   rcases ud.mp z with z | z
   ·exact absurd z (by decide)
   ·rcases um.mp z with z | z
    ·cases z
    ·exact(j7 hn _ z).2.1 rfl
  have l0:(0:Int)<l.length:=by lia
  walk_at "go"
  refine yg (a:=0) (P:=fun u=>u=.tp [.str zT,.str n]) (i:=zT++32::n) (r:=r) n125 (fun q=>zaP (.inr (.inr rfl)) hn (q _ rfl)) (by rw [el];unfold xV;simp) fun u hu=>⟨nofun,?_⟩
  subst hu
  show WSs _ [.own (.str l),.own d,.own (.int 0),.own (.fz (.tp [.tp [.str zT,.str n],.int (((zT++32::n).length:Int)+2)]))] _
  have i0:ixO (.fz (.tp [.tp [.str zT,.str n],.int (((zT++32::n).length:Int)+2)])) (.int 0)=some (.fz (.tp [.str zT,.str n])):=rfl
  have i1:ixO (.fz (.tp [.tp [.str zT,.str n],.int (((zT++32::n).length:Int)+2)])) (.int 1)=some (.int (((zT++32::n).length:Int)+2)):=rfl
  have hd':=hd
  obtain⟨fs,rfl,_⟩:=hd'
  walk_at "go"
  refine Yx hn hd rfl fun d' hd'=>⟨nofun,?_⟩
  walk_at "go"
  refine hK r.length _ (by lia) (.inl ⟨(zT++32::n).length+2,([root],[]),.own (.fz (.tp [.tp [.str zT,.str n],.int (((zT++32::n).length:Int)+2)])),d',?_,by rw [hov];exact hd',?_,by lia,Qb _,uS _⟩)
  ·rw [show(((zT++32::n).length+2:Nat):Int)=(0:Int)+(((zT++32::n).length:Int)+2) by lia]
   rfl
  ·have:l.drop ((zT++32::n).length+2)=r:=by
    rw [el,show(zT++32::n).length+2=(xV n).length by unfold xV;simp,List.drop_left]
   rw [this]
   exact hr
end
section
variable {Q:T->List T->Prop} {X:Exn->List T->Prop}
theorem zcT {ns:List Int}{i:Int}(h0:0<=i)(h1:i<ns.length):ixO (.ls (ns.map .int)) (.int i)=some (.int (ns.getD i.toNat 0)):=by
 obtain⟨v,e1,e2⟩:=Jh (xs:=ns.map T.int) h0 (by rw [uh];exact h1)
 show orE (atI (ns.map T.int) i) _=_
 rw [e1]
 rw [uD] at e2
 obtain⟨n,h,rfl⟩:=uo.mp e2
 rw [uI,h]
 rfl
theorem VS {t:Lc}{i:Int}(h0:0<=i)(h1:i<t.length):ixO (.str t) (.int i)=some (.str [t.getD i.toNat 0]):=by
 obtain⟨v,e1,e2⟩:=Jh h0 h1
 show orE none ((atI t i).map _)=_
 rw [e1,uI,e2]
 rfl
noncomputable def m1:List Int:=[1000000007,1181783503,1372345291,1518500279,1636201513,1734723539,1871234567,2012345681]
noncomputable def m2:List Int:=[100000000003,223606797763,314159265359,414213562379,577215664943,693147180563,732050807573]
noncomputable def mixF (c k:Int):Int:=((c % 1000000000039+1) * m1.getD (k % 8).toNat 0 % 2147483629+1) * m2.getD (k % 7).toNat 0 % 999999999989
theorem JJ (c k:Int):0<=mixF c k/\mixF c k<999999999989:=⟨Ub _ (by decide),uX _ (by decide)⟩
theorem vL {c k:Int}(q:Q (.int (mixF c k)) [.non,.non]):zG [.int c,.int k] Q X:=by
 unfold zG xI fnD
 refine⟨rfl,?_⟩
 have b1:∀ j:Nat,j<8->-18446744073709551616<m1.getD j 0/\m1.getD j 0<18446744073709551616:=by decide
 have b2:∀ j:Nat,j<7->-18446744073709551616<m2.getD j 0/\m2.getD j 0<18446744073709551616:=by decide
 have e1:ixO (.ls [.int 1000000007,.int 1181783503,.int 1372345291,.int 1518500279,.int 1636201513,.int 1734723539,.int 1871234567,.int 2012345681]) (.int (k % 8))=some (.int (m1.getD (k % 8).toNat 0)):=zcT (ns:=m1) (by lia) (by show _<(8:Int);lia)
 have e2:ixO (.ls [.int 100000000003,.int 223606797763,.int 314159265359,.int 414213562379,.int 577215664943,.int 693147180563,.int 732050807573]) (.int (k % 7))=some (.int (m2.getD (k % 7).toNat 0)):=zcT (ns:=m2) (by lia) (by show _<(7:Int);lia)
 have c1:=b1 (k % 8).toNat (by lia)
 have c2:=b2 (k % 7).toNat (by lia)
 walk_at "go"
 exact q
theorem Zn {ns:List Int}{k:Nat}(q:∀ c,Q (.int c) [.non,.non]):zB [.ks true (ns.map .int),.int k] Q X:=by
 unfold zB wx fnD
 refine⟨rfl,?_⟩
 have l:biO .len [.ks true (ns.map .int)]=some (.int ns.length):=by
  show some (T.int (((ns.map T.int).map fzi).length:Nat))=_
  rw [uh,uh]
 by_cases h:k<ns.length
 ·have e:ixO (.ks true (ns.map .int)) (.int (k:Int))=some (.int (ns.getD k 0)):=by
   refine ix_seq (xs:=(ns.map T.int).map fzi) rfl ?_
   rw [WG,uD,uq h,uI,uq h]
   rfl
  walk_at "go"
  exact q _
 ·walk_at "go"
  exact q _
theorem zca {c:Int}(q:∀ n,0<=n->Q (.int n) [.non]):qH [.int c] Q X:=by
 unfold qH vD fnD
 refine⟨rfl,?_⟩
 have p:binO .pow (.int 10) (.int 18)=some (.int 1000000000000000000):=rfl
 by_cases h:1000000000000000000<=c
 ·walk_at "go"
  exact q _ (by lia)
 ·walk_at "go"
  refine vL ⟨nofun,?_⟩
  walk_at "go"
  exact q _ (JJ _ _).1
noncomputable def AH:Lc:=[97,99,102,103,104,106,107,108,109,110,112,113,114,115,116,117,118,119,120,121,122]
def Gd (n:Lc):Prop:=(∀ c∈n,c∈LT)/\∃ c r,n=c::r/\c∈AH
theorem zeL {c:Nat}(h:c∈LT):97<=c/\c<=122:=(by decide:∀ c∈LT,97<=c/\c<=122) c h
theorem zcU {c:Nat}(h:c∈AH):c∈LT:=(by decide:∀ c∈AH,c∈LT) c h
theorem Gd.own {n:Lc}(h:Gd n)(hl:n.length<=8):vJ n:=by
 obtain⟨h1,c,r,rfl,hc⟩:=h
 refine⟨⟨by simp,hl,fun c hc=>zeL (h1 c hc)⟩,fun z=>?_⟩
 have:∀ w∈jS,w.head?≠none/\∀ c,w.head? = some c->c∉AH:=by decide
 exact(this _ z).2 c rfl hc
end
section
variable {Q:T->List T->Prop} {X:Exn->List T->Prop}
noncomputable def zR (j:Nat):Lc:=if j=0 then AH else LT
noncomputable def chF (c:Int)(a k j:Nat):Nat:=(zR j).getD ((mixF c (2+(j:Int))+(if j=a then(k:Int) else 0)) % ((zR j).length:Int)).toNat 0
theorem Qc (j:Nat):21<=(zR j).length/\(zR j).length<=26:=by
 unfold zR
 split<;>decide
theorem zaU {j i:Nat}(h:i<(zR j).length):(zR j).getD i 0∈zR j:=by
 rw [uI,uq h]
 exact Uu _
theorem zaV {j a b:Nat}(ha:a<(zR j).length)(hb:b<(zR j).length)(h:(zR j).getD a 0=(zR j).getD b 0):a=b:=by
 unfold zR at *
 split at ha
 ·rename_i e
  rw [uz e] at hb h
  exact(by decide:∀ a,a<21->∀ b,b<21->AH.getD a 0=AH.getD b 0->a=b) a ha b hb h
 ·rename_i e
  rw [uy e] at hb h
  exact(by decide:∀ a,a<26->∀ b,b<26->LT.getD a 0=LT.getD b 0->a=b) a ha b hb h
theorem zcV (c:Int)(a k j:Nat):chF c a k j∈zR j:=by
 have:=Qc j
 unfold chF
 refine zaU ?_
 have h1:=Ub (mixF c (2+(j:Int))+(if j=a then(k:Int) else 0)) (b:=((zR j).length:Int)) (by lia)
 have h2:=uX (mixF c (2+(j:Int))+(if j=a then(k:Int) else 0)) (b:=((zR j).length:Int)) (by lia)
 lia
theorem zeM {c:Int}{a k k':Nat}(hk:k<21)(hk':k' < 21)(h:chF c a k a=chF c a k' a):k=k':=by
 have pl:=Qc a
 unfold chF at h
 rw [uz rfl,uz rfl] at h
 generalize mixF c (2+(a:Int))=x at h
 have h1:=Ub (x+(k:Int)) (b:=((zR a).length:Int)) (by lia)
 have h2:=uX (x+(k:Int)) (b:=((zR a).length:Int)) (by lia)
 have h3:=Ub (x+(k':Int)) (b:=((zR a).length:Int)) (by lia)
 have h4:=uX (x+(k':Int)) (b:=((zR a).length:Int)) (by lia)
 have e:=zaV (by lia) (by lia) h
 have e:(x+(k:Int)) % ((zR a).length:Int)=(x+(k':Int)) % ((zR a).length:Int):=by lia
 have e2:=Int.emod_emod_of_dvd ((x+(k:Int)) - (x+(k':Int))) (Int.dvd_refl ((zR a).length:Int))
 have e3:((x+(k:Int)) - (x+(k':Int))) % ((zR a).length:Int)=0:=Int.emod_eq_emod_iff_emod_sub_eq_zero.mp e
 have e4:((k:Int) - k') % ((zR a).length:Int)=0:=by rw [← e3];congr 1;lia
 obtain⟨z,hz⟩:=Int.dvd_of_emod_eq_zero e4
 have pl':(21:Int)<=((zR a).length:Int):=by lia
 clear h1 h2 h3 h4 e e2 e3 e4 h
 generalize ((zR a).length:Int)=L at *
 have:z=0:=by
  rcases Int.lt_trichotomy z 0 with y | y | y
  ·have:L * z<=L * (-1):=gI (by lia) (by lia)
   lia
  ·exact y
  ·have:L * 1<=L * z:=gI (by lia) (by lia)
   lia
 rw [this] at hz
 lia
noncomputable def nmF (c:Int)(a s k:Nat):Lc:=(List.range s).map (chF c a k)
theorem zgH {c:Int}{a s k:Nat}(hs:0<s):Gd (nmF c a s k):=by
 refine⟨fun x hx=>?_,?_⟩
 ·obtain⟨j,_,rfl⟩:=u0.mp hx
  have:=zcV c a k j
  unfold zR at this
  split at this
  ·exact zcU this
  ·exact this
 ·cases s with
  | zero=>omega
  | succ s=>
   unfold nmF
   rw [List.range_succ_eq_map,uA]
   exact⟨_,_,rfl,zcV c a k 0⟩
theorem W2 {ns:List (Lc)}(h:∀ (i j:Nat) (a b:Lc),i<j->ns[i]? = some a->ns[j]? = some b->a≠b):ns.Nodup:=by
 rw [List.nodup_iff_pairwise_ne,List.pairwise_iff_getElem]
 intro i j hi hj hij
 exact h i j _ _ hij (uq hi) (uq hj)
def Nms (n:Nat)(ns:List (Lc)):Prop:=ns.length=n/\ns.Nodup/\∀ x∈ns,vJ x
theorem Qd {c:Int}{many:Nat}(hm:many<=6)(q:∀ ns,Nms many ns->Q (.ls (ns.map .str)) [.non,.non]):zP [.int c,.int many] Q X:=by
 unfold zP xJ fnD
 refine⟨rfl,?_⟩
 have x0:=JJ c 1
 walk_at "go"
 refine vL ⟨nofun,?_⟩
 generalize mixF c 1=x at *
 have rm:itT .rng [.int many]=some ((List.range many).map fun(k:Nat)=>.int (k:Int)):=zaF rfl (by lia)
 obtain⟨sz,hsz⟩:∃ sz:Nat,(1+x % 8:Int)=sz:=⟨(1+x % 8).toNat,by lia⟩
 obtain⟨a,ha⟩:∃ a:Nat,(x / 8 % (sz:Int))=a:=⟨(x / 8 % (sz:Int)).toNat,by have:=Ub (x / 8) (b:=(sz:Int)) (by lia);lia⟩
 have ha':a<sz:=by have:=uX (x / 8) (b:=(sz:Int)) (by lia);lia
 have rs:itT .rng [.int sz]=some ((List.range sz).map fun(k:Nat)=>.int (k:Int)):=zaF rfl (by lia)
 walk_at "st"
 rw [hsz]
 walk_at "st"
 rw [ha]
 walk_at "st"
 show WSs _ [.own (.int c),.own (.int many),.own (.str LT),.own (.str AH),.own (.int x),.own (.int sz),.own (.int a),.own (.ls []),.no,.no,.no,.no,.no] _
 refine wg ?_
 dsimp only [WS,WE,WEs,WT,WA,WP,WO,WB,WTb,ckT]
 walk_at "go"
 refine xw (fun k s=>∃ y8 y9 y10 y11,s=[.own (.int c),.own (.int many),.own (.str LT),.own (.str AH),.own (.int x),.own (.int sz),.own (.int a),.own (.ls ((List.range k).map fun i=>.str (nmF c a sz i))),y8,y9,y10,y11,.no]) ⟨_,_,_,_,rfl⟩ ?_ ?_
 ·rintro k d _ hd ⟨y8,y9,y10,y11,rfl⟩
  obtain⟨rfl,hk⟩:=Jv hd
  refine⟨_,rfl,fun K hK=>?_⟩
  have ap:((List.range k).map fun i=>T.str (nmF c a sz i)).length<16777216:=by rw [uh,U2];lia
  walk_at "go"
  refine xw (fun j s=>∃ y10 y11,s=[.own (.int c),.own (.int many),.own (.str LT),.own (.str AH),.own (.int x),.own (.int sz),.own (.int a),.own (.ls ((List.range k).map fun i=>.str (nmF c a sz i))),.own (.int k),.own (.str ((List.range j).map (chF c a k))),y10,y11,.no]) ⟨_,_,rfl⟩ ?_ ?_
  ·rintro j d _ hd ⟨y10,y11,rfl⟩
   obtain⟨rfl,hj⟩:=Jv hd
   refine⟨_,rfl,fun K hK=>?_⟩
   obtain⟨b0,hb0⟩:∃ b,b=decide ((j:Int)=0):=⟨_,rfl⟩
   obtain⟨b1,hb1⟩:∃ b,b=decide ((j:Int)=a):=⟨_,rfl⟩
   have c0:cmpO .eq (.int j) (.int 0)=some b0:=by rw [hb0];exact zaE
   have c1:cmpO .eq (.int j) (.int a)=some b1:=by rw [hb1];exact zaE
   have p0:ixO (.ls [.str LT,.str AH]) (.int (if b0=true then 1 else 0))=some (.str (zR j)):=by
    subst hb0
    by_cases z:j=0
    ·subst z;rfl
    ·rw [uV (by lia)]
     unfold zR
     rw [uy z]
     rfl
   have mu:binO .mul (.int k) (.int (if b1=true then 1 else 0))=some (.int (k * if b1=true then 1 else 0)):=zaC (by cases b1<;>decide)
   have pl:=Qc j
   have le:biO .len [.str (zR j)]=some (.int (zR j).length):=rfl
   have em:(mixF c (2+(j:Int))+(k:Int) * (if b1=true then 1 else 0))=mixF c (2+(j:Int))+(if j=a then(k:Int) else 0):=by
    subst hb1
    by_cases z:j=a
    ·subst z;simp
    ·rw [uV (by lia),uy z]
     simp
   have ix:ixO (.str (zR j)) (.int ((mixF c (2+(j:Int))+(k:Int) * (if b1=true then 1 else 0)) % ((zR j).length:Int)))=some (.str [chF c a k j]):=by
    rw [em]
    exact VS (Ub _ (by lia)) (uX _ (by lia))
   have ct:binO .add (.str ((List.range j).map (chF c a k))) (.str [chF c a k j])=some (.str ((List.range (j+1)).map (chF c a k))):=by
    rw [jt (by simp only [uh,U2,ua,uk];lia),List.range_succ,Ue]
    rfl
   walk_at "go"
   refine vL ⟨nofun,?_⟩
   walk_at "go"
   exact hK _ ⟨_,_,rfl⟩
  ·rintro _ ⟨y10,y11,rfl⟩
   rw [Zm]
   have e:((List.range k).map fun i=>T.str (nmF c a sz i))++[T.str ((List.range sz).map (chF c a k))]=(List.range (k+1)).map fun i=>T.str (nmF c a sz i):=by
    rw [List.range_succ,Ue]
    rfl
   walk_at "go"
   rw [e]
   exact hK _ ⟨_,_,_,_,rfl⟩
 ·rintro _ ⟨y8,y9,y10,y11,rfl⟩
  have e:(List.range many).map (fun i=>T.str (nmF c a sz i))=((List.range many).map (nmF c a sz)).map .str:=by rw [Ux];rfl
  rw [Zm,e]
  have own8:∀ n,Gd n->n.length<=8->vJ n:=fun n h1 h2=>h1.own h2
  by_cases h1:x / 64 % 4=1
  ·have ix0:∀ {y:Int},ixO (.str AH) (.int (y % 21))=some (.str [AH.getD (y % 21).toNat 0]):=fun {y}=>VS (by lia) (by show _<(21:Int);lia)
   have ix1:∀ {y:Int},ixO (.str LT) (.int (y % 26))=some (.str [LT.getD (y % 26).toNat 0]):=fun {y}=>VS (by lia) (by show _<(26:Int);lia)
   have i0:=ix0 (y:=mixF c 2)
   walk_at "go"
   refine vL ⟨nofun,?_⟩
   walk_at "go"
   have g0:AH.getD (mixF c 2 % 21).toNat 0∈AH:=by
    have:=JJ c 2
    have z:(mixF c 2 % 21).toNat<AH.length:=by show _<21;lia
    rw [uI,uq z]
    exact Uu _
   refine xw (fun k s=>∃ y8 y9 y10 y11 ns w,s=[.own (.int c),.own (.int many),.own (.str LT),.own (.str AH),.own (.int x),.own (.int sz),.own (.int a),.own (.ls (ns.map .str)),y8,y9,y10,y11,.own (.str w)]/\ns.length=many/\w.length=k+1/\Gd w/\∀ i,i<k->∃ n,ns[i]? = some n/\n.length=i+1/\Gd n) ⟨_,_,_,_,(List.range many).map (nmF c a sz),[AH.getD (mixF c 2 % 21).toNat 0],rfl,by simp,rfl,⟨fun y hy=>by rw [ui.mp hy];exact zcU g0,_,_,rfl,g0⟩,fun i hi=>by lia⟩ ?_ ?_
   ·rintro k d _ hd ⟨y8,y9,y10,y11,ns,w,rfl,hn1,hw1,hw2,hn2⟩
    obtain⟨rfl,hk⟩:=Jv hd
    refine⟨_,rfl,fun K hK=>?_⟩
    have pu:putO (.ls (ns.map .str)) (.int k) (.str w)=some (.ls ((ns.set k w).map .str)):=by
     have z:ixN (ns.map T.str).length (k:Int)=some k:=by
      unfold ixN
      rw [uh,uz (by lia)]
      simp
      lia
     show(ixN (ns.map T.str).length (k:Int)).map _=_
     rw [z]
     show some (T.ls ((ns.map T.str).set k (.str w)))=_
     rw [List.map_set]
    have i1:=ix1 (y:=mixF c (12+(k:Int)))
    have ct:=jt (a:=w) (b:=[LT.getD (mixF c (12+(k:Int)) % 26).toNat 0]) (by simp only [ua,uk];lia)
    walk_at "go"
    refine vL ⟨nofun,?_⟩
    walk_at "go"
    have g1:LT.getD (mixF c (12+(k:Int)) % 26).toNat 0∈LT:=by
     have:=JJ c (12+(k:Int))
     have z:(mixF c (12+(k:Int)) % 26).toNat<LT.length:=by show _<26;lia
     rw [uI,uq z]
     exact Uu _
    refine hK _ ⟨_,_,_,_,ns.set k w,w++[LT.getD (mixF c (12+(k:Int)) % 26).toNat 0],rfl,by rw [uZ];exact hn1,by rw [uf,hw1];rfl,⟨fun y hy=>?_,?_⟩,fun i hi=>?_⟩
    ·rcases ud.mp hy with z | z
     ·exact hw2.1 y z
     ·rw [ui.mp z];exact g1
    ·obtain⟨_,e,r,rfl,h⟩:=hw2
     exact⟨e,r++_,rfl,h⟩
    ·by_cases z:i=k
     ·subst z
      exact⟨w,by rw [uP (by lia)],hw1,hw2⟩
     ·obtain⟨n,e1,e2⟩:=hn2 i (by lia)
      exact⟨n,by rw [uN (fun z'=>z z'.symm)];exact e1,e2⟩
   ·rintro _ ⟨y8,y9,y10,y11,ns,w,rfl,hn1,hw1,hw2,hn2⟩
    rw [Zm] at hn2
    walk_at "go"
    refine q ns ⟨hn1,W2 fun i j u v hij e1 e2 z=>?_,fun n hn=>?_⟩
    ·have hj:=(uF.mp e2).1
     obtain⟨n1,a1,a2,_⟩:=hn2 i (by lia)
     obtain⟨n2,a3,a4,_⟩:=hn2 j (by lia)
     rw [e1] at a1
     rw [e2] at a3
     cases a1
     cases a3
     rw [z] at a2
     lia
    ·obtain⟨i,hi⟩:=List.getElem?_of_mem hn
     have hi':=(uF.mp hi).1
     obtain⟨n1,a1,a2,a3⟩:=hn2 i (by lia)
     rw [hi] at a1
     cases a1
     exact own8 _ a3 (by lia)
  ·walk_at "go"
   refine q _ ⟨by simp,W2 fun i j u v hij e1 e2 z=>?_,fun n hn=>?_⟩
   ·have hj:=(uF.mp e2).1
    simp only [uh,U2] at hj
    rw [uD,gw (by lia)] at e1 e2
    cases e1
    cases e2
    have:=congrArg (fun l=>l[a]?) z
    simp only [nmF,uD,gw ha',uT,uw] at this
    have:=zeM (by lia) (by lia) this
    lia
   ·obtain⟨i,_,rfl⟩:=u0.mp hn
    refine own8 _ (zgH (by lia)) ?_
    unfold nmF
    simp only [uh,U2]
    lia
end
section
variable {Q:T->List T->Prop} {X:Exn->List T->Prop}
theorem vM {R:T->Prop}{m:Nat}:∀ (ps:List T),(∀ p∈ps,∃ d,datT p=some d/\depD d<=m/\yK d=true)->∃ ds,jx ps=some ds/\wA ds<=m/\xX ds=true/\ds.length=ps.length
 | [],_=>⟨[],rfl,uS _,rfl,rfl⟩
 | p::ps,h=>by
  obtain⟨d,h1,h2,h3⟩:=h p ue
  obtain⟨ds,k1,k2,k3,k4⟩:=vM (R:=R) ps fun q hq=>h q (ug _ hq)
  refine⟨d::ds,?_,?_,?_,by rw [ua,ua,k4]⟩
  ·show two (datT p) (jx ps) _=_
   rw [h1,k1]
   rfl
  ·show max (depD d) (wA ds)<=m
   lia
  ·simp only [xX,h3,k3,U5]
theorem zeN:∀ {n B:Nat} {u:T},Pc B n u->∃ d,datT u=some d/\depD d<=2 * n+2/\yK d=true:=by
 intro n
 induction n using Nat.strongRecOn with
 | _ n ih=>
  intro B u h
  obtain⟨w,xs,rfl,_,_,_,h4⟩:=h.body
  obtain⟨ds,k1,k2,k3,_⟩:=vM (R:=fun _=>True) (m:=2 * n+1) (.str w::xs) fun x hx=>by
   rcases um.mp hx with rfl | hx
   ·exact⟨_,rfl,uS _,rfl⟩
   ·rcases h4 x hx with⟨s,rfl,_⟩ | ⟨ps,rfl,_,hp⟩
    ·exact⟨_,rfl,uS _,rfl⟩
    ·cases ps with
     | nil=>exact⟨.ls [],rfl,by show 0+1<=_;omega,rfl⟩
     | cons p ps=>
      have n0:0<n:=by obtain⟨m,hm,_⟩:=hp p ue;lia
      obtain⟨es,j1,j2,j3,_⟩:=vM (R:=fun _=>True) (m:=2 * n) (p::ps) fun y hy=>by
       obtain⟨m,hm,hpc⟩:=hp y hy
       obtain⟨d,a1,a2,a3⟩:=ih m hm hpc
       exact⟨d,a1,by lia,a3⟩
      refine⟨.ls es,?_,by show wA es+1<=_;lia,by simp only [yK,j3]⟩
      show(jx (p::ps)).map Dat.ls=_
      rw [j1]
      rfl
  refine⟨.tp ds,?_,by show wA ds+1<=_;lia,by simp only [yK,k3]⟩
  show(jx (.str w::xs)).map Dat.tp=_
  rw [k1]
  rfl
theorem Zo {n B:Nat}{us:List T}(h:∀ u∈us,Pc B n u):∃ ds,jx us=some ds/\wA ds<=2 * n+2/\xX ds=true/\ds.length=us.length:=vM (R:=fun _=>True) us fun u hu=>zeN (h u hu)
def PL (t u:T):Prop:=∃ ys,u=.tp ys/\Fms ys ys/\(t=.fz u\/(t=u/\∀ y∈ys,∃ s,y=.str s))
theorem PL.pf {t u:T}(h:PL t u):PF t u:=by
 obtain⟨ys,rfl,h,rfl | ⟨rfl,hs⟩⟩:=h
 ·exact⟨ys,ys,rfl,.inl ⟨rfl,h⟩⟩
 ·exact⟨ys,ys,rfl,.inr ⟨.inl rfl,hs⟩⟩
theorem PL.strip {t u:T}(h:PL t u):strip t=u:=by
 obtain⟨ys,rfl,h,rfl | ⟨rfl,hs⟩⟩:=h
 ·exact(Fm.tp h).strip
 ·exact(Fm.tp h).strip
theorem PL.dat {t u:T}(h:PL t u):datT t=datT u:=by
 obtain⟨ys,rfl,h,rfl | ⟨rfl,hs⟩⟩:=h<;>rfl
theorem zeO {s:Lc}:PL (litP s) (litP s):=⟨_,rfl,.cons (.str _) (.cons (.str _) .nil),.inr ⟨rfl,fun x hx=>by
 rcases um.mp hx with rfl | hx
 ·exact⟨_,rfl⟩
 ·exact⟨_,ui.mp hx⟩⟩⟩
theorem kQ {c cur:List T}(h:A2 PL c cur):ze c=cur:=by
 induction h with
 | nil=>rfl
 | cons h _ ih=>simp only [ze,h.strip,ih]
theorem zcb {c cur:List T}(h:A2 PL c cur):jx c=jx cur:=by
 induction h with
 | nil=>rfl
 | cons h _ ih=>simp only [jx,h.dat,ih]
theorem zaW {B n:Nat}{u:T}(h:Pc B n u):PL (.fz u) u:=by
 obtain⟨_,hf⟩:=zaS h
 obtain⟨w,xs,rfl,_⟩:=h.body
 cases hf with
 | tp hf=>exact⟨_,rfl,hf,.inl rfl⟩
def FrL (f:Fr)(t:T):Prop:=∃ (bs:List (List T)) (c:List T),t=.tp [.str f.w,.str f.n,.ls (bs.map .ls++[.ls c])]/\A2 (A2 PL) bs f.ps/\A2 PL c f.cur
theorem ne_nil {c cur:List T}{B n:Nat}(h:A2 PL c cur)(hp:∀ u∈cur,Pc B n u)(hn:n<=20):cmpO .ne (.ls c) (.ls [])=some (!c.isEmpty):=by
 obtain⟨ds,k1,k2,k3,k4⟩:=Zo hp
 rw [← zcb h] at k1
 show(orE none (if (cont (.ls c)&&cont (.ls []))=true then two ((jx c).map Dat.ls) (some (Dat.ls [])) _ else none)).map _=_
 rw [k1]
 show((if wA ds+1<=50 then some (eqD (.ls ds) (.ls [])) else none).map _)=_
 rw [uz (by lia)]
 have:c.length=ds.length:=by rw [k4,h.len]
 cases c with
 | nil=>cases ds with
  | nil=>rfl
  | cons _ _=>cases this
 | cons _ _=>cases ds with
  | nil=>cases this
  | cons _ _=>rfl
theorem XT {f:Fr}{r:List T}{t u p:T}{B n:Nat}(h:FrL f t)(hu:PL u p)(hc:PcL B n f.cur)(hp:Pc B n p)(hn:n<=20)(hB:B<=1000000)(q:∀ t',FrL (f.put p) t'->Q .non [.ls (r++[t']),.non]):zC [.ls (r++[t]),u] Q X:=by
 obtain⟨bs,c,rfl,h1,h3⟩:=h
 unfold zC yB fnD
 refine⟨rfl,?_⟩
 have e0:=hu.pf.ix0 hp
 have fin:∀ c',A2 PL c' (addP f.cur p)->Q .non [.ls (r++[.tp [.str f.w,.str f.n,.ls (bs.map .ls++[.ls c'])]]),.non]:=fun c' e1=>q _ ⟨bs,c',rfl,h1,e1⟩
 have hlen:c.length<=1000000:=by rw [h3.len];have:=hc.1;lia
 have hne:=ne_nil h3 hc.2 hn
 generalize bs.map T.ls=bl at fin ⊢
 have s1:stepI (.ls (r++[.tp [.str f.w,.str f.n,.ls (bl++[.ls c])]])) (.int (-1))=some r.length:=jR
 have s2:stepI (.ls (bl++[.ls c])) (.int (-1))=some bl.length:=jR
 have g0:getP [.own (.ls (r++[.tp [.str f.w,.str f.n,.ls (bl++[.ls c])]])),.own u,.no] 0 [r.length]=some (.tp [.str f.w,.str f.n,.ls (bl++[.ls c])]):=qF
 have g1:getP [.own (.ls (r++[.tp [.str f.w,.str f.n,.ls (bl++[.ls c])]])),.own u,.no] 0 [r.length,2]=some (.ls (bl++[.ls c])):=qF
 show WSs _ [.own (.ls (r++[.tp [.str f.w,.str f.n,.ls (bl++[.ls c])]])),.own u,.no] _
 walk_at "st"
 show WSs _ [.own (.ls (r++[.tp [.str f.w,.str f.n,.ls (bl++[.ls c])]])),.own u,.al 0 [r.length,2,bl.length]] _
 have g:∀ c' v,getP [.own (.ls (r++[.tp [.str f.w,.str f.n,.ls (bl++[.ls c'])]])),.own v,.al 0 [r.length,2,bl.length]] 0 [r.length,2,bl.length]=some (.ls c'):=fun c' v=>by
  show getT (.ls (r++[.tp [.str f.w,.str f.n,.ls (bl++[.ls c'])]])) [r.length,2,bl.length]=_
  rw [qF]
  show getT (.ls (bl++[.ls c'])) [bl.length]=_
  rw [qF]
  rfl
 have pt:∀ c' c'',setT (.ls (r++[.tp [.str f.w,.str f.n,.ls (bl++[.ls c'])]])) [r.length,2,bl.length] (.ls c'')=.ls (r++[.tp [.str f.w,.str f.n,.ls (bl++[.ls c''])]]):=fun c' c''=>by
  rw [wj]
  show T.ls (r++[.tp [.str f.w,.str f.n,setT (.ls (bl++[.ls c'])) [bl.length] (.ls c'')]])=_
  rw [wj]
  rfl
 have ps:∀ c' c'' v,putS [.own (.ls (r++[.tp [.str f.w,.str f.n,.ls (bl++[.ls c'])]])),.own v,.al 0 [r.length,2,bl.length]] 0 [r.length,2,bl.length] (.ls c'')=[.own (.ls (r++[.tp [.str f.w,.str f.n,.ls (bl++[.ls c''])]])),.own v,.al 0 [r.length,2,bl.length]]:=fun c' c'' v=>by
  show [Slot.own (setT _ [r.length,2,bl.length] (.ls c'')),Slot.own v,Slot.kill 0 [r.length,2,bl.length] (.al 0 [r.length,2,bl.length])]=_
  rw [pt]
  simp [Slot.kill]
 have gc:=g c u
 have app:(¬ (hd1 p=wLit/\∃ q,f.cur.getLast? = some q/\hd1 q=wLit))->A2 PL (c++[u]) (addP f.cur p):=fun hn=>by
  have:=h3.app (.one hu)
  unfold addP
  split
  ·rename_i q e
   rw [uy fun z=>hn ⟨z.1,q,e,z.2⟩]
   exact this
  ·exact this
 have hs:shr u=true:=hu.pf.shr
 by_cases hw:hd1 p=wLit
 ·rcases UK c with ec | ⟨c',v,ec⟩
  ·have tr:cmpO .ne (.ls c) (.ls [])=some false:=by rw [hne,ec];rfl
   walk_at "go"
   show Q .non [setT _ _ (.ls (c++[u])),.non]
   rw [pt]
   refine fin _ (app fun⟨_,q,z,_⟩=>?_)
   rw [ec] at h3
   cases h3':f.cur with
   | nil=>rw [h3'] at z;cases z
   | cons _ _=>rw [h3'] at h3;cases h3
  ·rw [UL] at ec
   have tr:cmpO .ne (.ls c) (.ls [])=some true:=by rw [hne,ec];simp
   have h3':=h3
   rw [ec] at h3'
   obtain⟨cur',v',ecur,h5,hv⟩:=h3'.last
   have hvc:Pc B n v':=hc.2 _ (by rw [ecur];simp)
   have i1:ixO (.ls c) (.int (-1))=some v:=by
    rw [ec]
    show orE (atI _ (-1)) _=_
    rw [vU]
    simp only [Uk]
    rfl
   have i2:=hv.pf.ix0 hvc
   by_cases hv':hd1 v' = wLit
   ·obtain⟨i3,l3⟩:=hv.pf.ix1 hvc hv'
    obtain⟨i4,l4⟩:=hu.pf.ix1 hp hw
    have cc:=jt (a:=hd2 v') (b:=hd2 p) (by lia)
    have mp:muT .pop (.ls c) []=some (.ls c',v):=by
     rw [ec]
     show((c'++[v])[(c'++[v]).length - 1]?).map _=_
     simp
    have gc':=g c' (litP (hd2 v'++hd2 p))
    have hc':c'.length<16777216:=by have:=congrArg List.length ec;rw [uf] at this;lia
    walk_at "go"
    rw [ps c c' u]
    walk_at "go"
    show Q .non [setT _ [r.length,2,bl.length] (.ls (c'++[litP (hd2 v'++hd2 p)])),.non]
    rw [pt]
    refine fin _ ?_
    rw [ecur,jF,uz ⟨hw,hv'⟩]
    exact h5.app (.one zeO)
   ·walk_at "go"
    show Q .non [setT _ _ (.ls (c++[u])),.non]
    rw [pt]
    refine fin _ (app fun⟨_,q,z,z'⟩=>hv' ?_)
    rw [ecur,Uk] at z
    cases z
    exact z'
 ·walk_at "go"
  show Q .non [setT _ _ (.ls (c++[u])),.non]
  rw [pt]
  exact fin _ (app fun z=>hw z.1)
theorem zaX {f:Fr}{B n:Nat}(h:FrK B n f)(h8:8<=B):PL (.fz f.whole) f.whole:=zaW (ki h h8)
theorem VT {f g:Fr}{r:List T}{tf tg:T}{B n:Nat}(hf:FrL f tf)(hg:FrL g tg)(kf:FrK B n f)(kg:FrK B (n+1) g)(h8:8<=B)(hn:n<=15)(hB:B<=1000000)(q:∀ t',FrL (g.put f.whole) t'->Q .non [.ls (r++[t'])]):qc [.ls (r++[tg]++[tf])] Q X:=by
 have hw:=ki kf h8
 have wz:=zaX kf h8
 obtain⟨bs,c,rfl,h1,h3⟩:=hf
 unfold qc vE fnD
 refine⟨rfl,?_⟩
 have mp:muT .pop (.ls (r++[tg]++[.tp [.str f.w,.str f.n,.ls (bs.map .ls++[.ls c])]])) []=some (.ls (r++[tg]),.tp [.str f.w,.str f.n,.ls (bs.map .ls++[.ls c])]):=by
  show((r++[tg]++[_])[(r++[tg]++[_]).length - 1]?).map _=_
  simp
 have fin:∀ u,fzn u=.fz f.whole->∀ {Q:T->List T->Prop} {X:Exn->List T->Prop},(∀ t',FrL (g.put f.whole) t'->Q .non [.ls (r++[t']),.non])->zC [.ls (r++[tg]),fzn u] Q X:=fun u e {Q X} q=>by
  rw [e]
  exact XT hg wz kg.1 hw (by lia) hB q
 have sc:=kQ h3
 have scc:=(kj kf.1.2).2.strip
 have hl:biO .len [.ls (bs.map .ls++[.ls c])]=some (.int (bs.length+1:Nat)):=by
  show some (T.int ((bs.map T.ls++[T.ls c]).length:Nat))=_
  rw [uf,uh]
  rfl
 walk_at "st"
 rcases kf.2.2.1 with e | ⟨ew,a,e⟩
 ·have eb:bs=[]:=by rw [e] at h1;cases h1;rfl
  subst eb
  clear hl
  have hl:biO .len [.ls [.ls c]]=some (.int 1):=rfl
  show WSs _ [.own (.ls (r++[tg])),.own (.str f.w),.own (.str f.n),.own (.ls [.ls c])] _
  by_cases ew:f.w=wIf
  ·walk_at "go"
   refine fin _ ?_ fun t' ht'=>⟨nofun,?_⟩
   ·unfold Fr.whole
    rw [e,uz ⟨ew,rfl⟩]
    show T.fz (.tp [.str f.w,.str f.n,.ls (ze (ze c)),.ls []])=_
    rw [sc,scc]
    rfl
   ·walk_at "go"
    exact q _ ht'
  ·walk_at "go"
   refine fin _ ?_ fun t' ht'=>⟨nofun,?_⟩
   ·unfold Fr.whole
    rw [e,uy fun z=>ew z.1]
    show T.fz (.tp [.str f.w,.str f.n,.ls (ze (ze c))])=_
    rw [sc,scc]
    rfl
   ·walk_at "go"
    exact q _ ht'
 ·rw [e] at h1
  cases h1 with
  | cons h1 h1'=>
   cases h1'
   rename_i b
   have sb:=kQ h1
   clear hl
   have hl:biO .len [.ls [.ls b,.ls c]]=some (.int 2):=rfl
   show WSs _ [.own (.ls (r++[tg])),.own (.str f.w),.own (.str f.n),.own (.ls [.ls b,.ls c])] _
   have sbb:=(kj (kf.2.1 a (by rw [e];exact ue)).2).2.strip
   walk_at "go"
   refine fin _ ?_ fun t' ht'=>⟨nofun,?_⟩
   ·unfold Fr.whole
    rw [e,uy fun z=>by cases z.2]
    show T.fz (.tp [.str f.w,.str f.n,.ls (ze (ze b)),.ls (ze (ze c))])=_
    rw [sc,scc,sb,sbb]
    rfl
   ·walk_at "go"
    exact q _ ht'
end
section
variable {Q:T->List T->Prop} {X:Exn->List T->Prop}
noncomputable def SG2:Lc:=[32,33,34,35,36,38,39,40,41,42,43,44,45,46,47,48,49,50,51,52,53,54,55,56,57,58,59,60,61,62,63,64,65,66,67,68,69,70,71,72,73,74,75,76,77,78,79,80,81,82,83,84,85,86,87,88,89,90,91,92,93,94,95,96,97,98,99,100,101,102,103,104,105,106,107,108,109,110,111,112,113,114,115,116,117,118,119,120,121,122,124,126]
theorem sg2 {c:Nat}(h:c∈SG2):c∈SG/\c≠123/\c≠125:=(by decide:∀ c∈SG2,c∈SG/\c≠123/\c≠125) c h
theorem zaY (q:Q (.str SG2) []):qr [] Q X:=by
 unfold qr xK fnD
 refine⟨rfl,?_⟩
 have e:binO .add (.str [32,33,34,35,36,38,39,40,41,42,43,44,45,46,47,48,49,50,51,52,53,54,55,56,57,58,59,60,61,62,63,64]) (.str [65,66,67,68,69,70,71,72,73,74,75,76,77,78,79,80,81,82,83,84,85,86,87,88,89,90,91,92,93,94,95,96,97,98,99,100,101,102,103,104,105,106,107,108,109,110,111,112,113,114,115,116,117,118,119,120,121,122,124,126])=some (.str SG2):=jt (by decide)
 walk_at "go"
 exact q
theorem JK {f:Fr}{r:List T}{t:T}{B n:Nat}{s:Lc}(h:FrL f t)(hk:FrK B n f)(h8:8<=B)(hs:s.length<=3)(hn:n<=20)(hB:B<=1000000)(q:∀ t',FrL (f.put (litP s)) t'->Q .non [.ls (r++[t']),.non]):zC [.ls (r++[t]),.fz (litP s)] Q X:=by
 have pc:Pc B n (litP s):=wH (by simp only [ua,uk];lia) (fun _=>⟨_,rfl⟩) (by simp) fun x hx=>⟨s,ui.mp hx,by lia⟩
 exact XT h (zaW pc) hk.1 pc hn hB q
theorem XU {f:Fr}{r:List T}{tf:T}{B m:Nat}{n:Int}(h:FrL f tf)(hk:FrK B m f)(h8:8<=B)(hm:m<=20)(hB:B<=1000000)(h0:0<=n)(q:∀ t s tf',t.length<=15->(∀ ov st nm,(ov=true->st≠[])->Rd ov (f::st,nm) t (f.put (litP s)::st,nm))->FrL (f.put (litP s)) tf'->Q (.str t) [.ls (r++[tf']),.non]):zZ [.ls (r++[tf]),.int n] Q X:=by
 unfold zZ wy fnD
 refine⟨rfl,?_⟩
 walk_at "go"
 refine zaY ⟨nofun,?_⟩
 by_cases h5:n % 5=0
 ·by_cases h2:n / 5 % 2=0
  ·have i1:ixO (.str [123,125]) (.int (n / 5 % 2))=some (.str [123]):=by rw [h2];rfl
   have i2:ixO (.ls [.str [123,40,125],.str [123,41,125]]) (.int (n / 5 % 2))=some (.str [123,40,125]):=by rw [h2];rfl
   walk_at "go"
   refine JK h hk h8 (s:=[123]) (by decide) hm hB fun t' ht'=>⟨nofun,?_⟩
   walk_at "go"
   exact q _ _ _ (by decide) (fun ov st nm ho=>.one (.put (k:=.lit [123]) rfl ho) (.word .lb)) ht'
  ·have h2:n / 5 % 2=1:=by lia
   have i1:ixO (.str [123,125]) (.int (n / 5 % 2))=some (.str [125]):=by rw [h2];rfl
   have i2:ixO (.ls [.str [123,40,125],.str [123,41,125]]) (.int (n / 5 % 2))=some (.str [123,41,125]):=by rw [h2];rfl
   walk_at "go"
   refine JK h hk h8 (s:=[125]) (by decide) hm hB fun t' ht'=>⟨nofun,?_⟩
   walk_at "go"
   exact q _ _ _ (by decide) (fun ov st nm ho=>.one (.put (k:=.lit [125]) rfl ho) (.word .rb)) ht'
 ·obtain⟨k,hk'⟩:∃ k:Nat,(1+n / 5 % 3:Int)=k:=⟨(1+n / 5 % 3).toNat,by lia⟩
  have rg:itT .rng [.int (1+n / 5 % 3)]=some ((List.range k).map fun(k:Nat)=>.int (k:Int)):=zaF hk' (by lia)
  walk_at "go"
  refine xw (fun j s=>∃ (t:Lc) (x:Int) (y:Slot),s=[.own (.ls (r++[tf])),.own (.int n),.own (.str SG2),.own (.str t),.own (.int x),y]/\t.length=j/\0<=x/\∀ c∈t,c∈SG2) ⟨[],n / 15,_,rfl,rfl,by lia,nofun⟩ ?_ ?_
  ·rintro j d _ hd ⟨t,x,y,rfl,ht,hx,hc⟩
   obtain⟨rfl,hj⟩:=Jv hd
   refine⟨_,rfl,fun K hK=>?_⟩
   have ix:=VS (t:=SG2) (i:=x % 92) (by lia) (by show _<(92:Int);lia)
   have g:SG2.getD (x % 92).toNat 0∈SG2:=by
    have z:(x % 92).toNat<SG2.length:=by show _<92;lia
    rw [uI,uq z]
    exact Uu _
   have ct:=jt (a:=t) (b:=[SG2.getD (x % 92).toNat 0]) (by simp only [ua,uk];lia)
   walk_at "go"
   refine hK _ ⟨_,_,_,rfl,by rw [uf,ht];rfl,by lia,fun c hc'=>?_⟩
   rcases ud.mp hc' with z | z
   ·exact hc c z
   ·rw [ui.mp z];exact g
  ·rintro _ ⟨t,x,y,rfl,ht,hx,hc⟩
   rw [Zm] at ht
   walk_at "go"
   refine JK h hk h8 (s:=t) (by lia) hm hB fun t' ht'=>⟨nofun,?_⟩
   walk_at "go"
   exact q _ _ _ (by lia) (fun ov st nm ho=>Rd.lits ho t (fun z=>by rw [z] at ht;simp at ht;lia) fun c hc'=>sg2 (hc c hc')) ht'
end
section
variable {Q:T->List T->Prop} {X:Exn->List T->Prop}
def BlOk (bl nm:List (Lc)):Prop:=bl.Nodup/\(∀ x∈bl,js x)/\∀ x∈bl,x∉nm
theorem Zp {ns:List (Lc)}{i:Int}(h0:0<=i)(h1:i<ns.length):∃ n,ixO (.ls (ns.map .str)) (.int i)=some (.str n)/\ixO (.fz (.ls (ns.map .str))) (.int i)=some (.str n)/\ns[i.toNat]? = some n:=by
 obtain⟨j,rfl⟩:∃ j:Nat,i=j:=⟨i.toNat,by lia⟩
 have hj:j<ns.length:=by lia
 refine⟨ns[j],ix_seq (xs:=ns.map T.str) rfl ?_,ix_seq (xs:=(ns.map T.str).map fzi) rfl ?_,?_⟩
 ·rw [uD,uq hj];rfl
 ·rw [uD,uD,uq hj];rfl
 ·rw [gD,uq hj]
theorem eq_nil {os:List (Lc)}:cmpO .eq (.ls (os.map .str)) (.ls [])=some os.isEmpty:=by
 obtain⟨ds,k1,k2,_,k4⟩:=vM (R:=fun _=>True) (m:=0) (os.map .str) fun p hp=>by
  obtain⟨s,_,rfl⟩:=u0.mp hp
  exact⟨_,rfl,uu _,rfl⟩
 show orE none (if (cont (.ls (os.map .str))&&cont (.ls []))=true then two ((jx (os.map .str)).map Dat.ls) (some (Dat.ls [])) _ else none)=_
 rw [k1]
 show(if wA ds+1<=50 then some (eqD (.ls ds) (.ls [])) else none)=_
 rw [uz (by lia)]
 rw [uh] at k4
 cases os<;>cases ds<;>first | rfl | cases k4
theorem zaZ {α β:Type}(f:α->β):∀ (l:List α) (j:Nat),(l.map f).eraseIdx j=(l.eraseIdx j).map f
 | [],_=>by simp
 | _::_,0=>rfl
 | a::l,j+1=>by simp [zaZ f l j]
theorem zeP {l:List (Lc)}{j:Nat}(h:l.Nodup)(hj:j<l.length):l[j]∉l.eraseIdx j:=by
 rw [List.eraseIdx_eq_take_drop_succ]
 have e:l=l.take j++l[j]::l.drop (j+1):=by rw [← Uq hj,List.take_append_drop]
 rw [e] at h
 have n:=uB.mp h
 intro z
 rcases ud.mp z with z | z
 ·exact n.2.2 _ z _ ue rfl
 ·exact(uH.mp n.2.1).1 z
def Gone (ov:Bool)(s:Sx)(t:Lc)(s':Sx)(fs':List T):Prop:=Rd ov s t s'/\t.length<=16/\FsP FrL s'.1 fs'/\s'.1≠[]
theorem Yy {ov:Bool}{st:List Fr}{nm ns bl:List (Lc)}{fs:List T}{n:Int}(hf:FsP FrL st fs)(hst:st≠[])(h0:0<=n)(hl:0<ns.length)(hns:∀ x∈ns,vJ x)(hb:BlOk bl nm)(ho:ov=true->st.length=1->n % 4=2)(hb2:bl.length<=100)(q:∀ t s' fs' bl',Gone ov (st,nm) t s' fs'->BlOk bl' s'.2->bl'.length<=100->Q (.str t) [.ls fs',.non,.non,.ls (bl'.map .str)]):zQ [.ls fs,.int n,.fz (.ls (ns.map .str)),.ls (bl.map .str)] Q X:=by
 unfold zQ wW fnD
 refine⟨rfl,?_⟩
 have hlen:=hf.len
 have q0:Q (.str []) [.ls fs,.non,.non,.ls (bl.map .str)]:=q [] (st,nm) fs bl ⟨.nil,by decide,hf,hst⟩ hb hb2
 have iw:∃ w,ixO (.ls [.str [101,97,99,104],.str [105,102],.str [98,108,111,99,107],.str [98,108,111,99,107]]) (.int (n % 4))=some (.str w)/\(w=Q6\/w=wIf\/w=z0)/\(n % 4=2->w=z0):=by
  have:n % 4=0\/n % 4=1\/n % 4=2\/n % 4=3:=by lia
  rcases this with e | e | e | e<;>rw [e]
  ·exact⟨_,rfl,.inl rfl,fun z=>by lia⟩
  ·exact⟨_,rfl,.inr (.inl rfl),fun z=>by lia⟩
  ·exact⟨_,rfl,.inr (.inr rfl),fun _=>rfl⟩
  ·exact⟨_,rfl,.inr (.inr rfl),fun _=>rfl⟩
 obtain⟨w,iw,hw,hw2⟩:=iw
 have wl:w.length<=5:=by rcases hw with rfl | rfl | rfl<;>decide
 have ln:biO .len [.fz (.ls (ns.map .str))]=some (.int ns.length):=by rw [Jw,uh]
 have lb:biO .len [.ls (bl.map .str)]=some (.int bl.length):=by show some (T.int ((bl.map T.str).length:Nat))=_;rw [uh]
 have lf:biO .len [.ls fs]=some (.int fs.length):=rfl
 obtain⟨x,_,ix,xin⟩:=Zp (ns:=ns) (i:=n / 4 % (ns.length:Int)) (Ub _ (by lia)) (uX _ (by lia))
 have xo:=hns x (uR xin)
 have en:=eq_nil (os:=bl)
 have big:¬ st.length<=12->(12:Int)<fs.length:=fun z=>by lia
 have txt:∀ (y:Lc),y.length<=8->binO .add (.str [123]) (.str w)=some (.str ([123]++w))/\binO .add (.str ([123]++w)) (.str [32])=some (.str ([123]++w++[32]))/\binO .add (.str ([123]++w++[32])) (.str y)=some (.str ([123]++w++[32]++y))/\binO .add (.str ([123]++w++[32]++y)) (.str [125])=some (.str ([123]++w++[32]++y++[125])):=fun y hy=>by
  refine⟨jt ?_,jt ?_,jt ?_,jt ?_⟩<;>simp only [uf,ua,uk]<;>lia
 have tx:∀ y:Lc,[123]++w++[32]++y++[125]=123::((w++32::y)++[125]):=fun y=>by simp
 have done:∀ (y:Lc) (bl' nm':List (Lc)),y.length<=8->Ins (.op w y) (w++32::y)->st.length<=12->(w=z0->y∉nm)->nm' = (if w=z0 then nm++[y] else nm)->BlOk bl' nm'->bl'.length<=100->Q (.str ([123]++w++[32]++y++[125])) [.ls (fs++[.tp [.str w,.str y,.ls [.ls []]]]),.non,.non,.ls (bl'.map .str)]:=fun y bl' nm' hy hi h12 hyn e hbl hb'=>by
  subst e
  rw [tx]
  refine q _ (⟨w,y,[],[]⟩::st,_) _ bl' ⟨.one (.op h12 hst hw (fun z1 z2=>hw2 (ho z1 z2)) hyn) (.word hi),?_,⟨_,fs,rfl,⟨[],[],rfl,.nil,.nil⟩,hf⟩,by simp⟩ hbl hb'
  simp only [uf,ua,uk]
  lia
 have hfs:st.length<=12->fs.length<16777216:=fun z=>by lia
 by_cases hwb:w=z0
 ·cases bl with
  | nil=>
   have e1:cmpO .eq (.ls (([]:List (Lc)).map .str)) (.ls [])=some true:=en
   walk_at "go"
   exact q0
  | cons b0 bl0=>
   have e1:cmpO .eq (.ls ((b0::bl0).map .str)) (.ls [])=some false:=en
   by_cases h12:st.length<=12
   ·have hfs':=hfs h12
    obtain⟨j,hj⟩:∃ j:Nat,n / 4 % ((b0::bl0).length:Int)=j:=⟨(n / 4 % ((b0::bl0).length:Int)).toNat,by have:=Ub (n / 4) (b:=((b0::bl0).length:Int)) (by simp only [ua];lia);lia⟩
    have hj':j<(b0::bl0).length:=by have:=uX (n / 4) (b:=((b0::bl0).length:Int)) (by simp only [ua];lia);lia
    generalize b0::bl0=bl at *
    have mp:muT .popI (.ls (bl.map .str)) [.int (n / 4 % (bl.length:Int))]=some (.ls ((bl.eraseIdx j).map .str),.str bl[j]):=by
     rw [hj]
     show(if (bl.map T.str).length<=16777216 then((ixN (bl.map T.str).length (j:Int)).bind fun j=>((bl.map T.str)[j]?).map fun d=>(T.ls ((bl.map T.str).eraseIdx j),d)) else none)=_
     rw [uz (by rw [uh];lia)]
     have z:ixN (bl.map T.str).length (j:Int)=some j:=by
      unfold ixN
      rw [uh,uz (by lia)]
      simp
      lia
     rw [z]
     show((bl.map T.str)[j]?).map _=_
     rw [uD,uq hj']
     simp [zaZ]
    have ym:bl[j]∈bl:=Uu _
    have yn:=hb.2.1 _ ym
    obtain⟨t1,t2,t3,t4⟩:=txt bl[j] yn.2.1
    have bl0:(0:Int)<bl.length:=by lia
    walk_at "go"
    refine done bl[j] (bl.eraseIdx j) (nm++[bl[j]]) yn.2.1 (by rw [hwb];exact .op2 yn) h12 (fun _=>hb.2.2 _ ym) (by rw [uz hwb]) ⟨hb.1.sublist (List.eraseIdx_sublist _ _),fun x hx=>hb.2.1 x (gT hx),fun x hx z=>?_⟩ (uW (List.Sublist.length_le (List.eraseIdx_sublist _ _)) hb2)
    rcases ud.mp z with z | z
    ·exact hb.2.2 x (gT hx) z
    ·rw [ui.mp z] at hx
     exact zeP hb.1 hj' hx
   ·have:=big h12
    walk_at "go"
    exact q0
 ·by_cases h12:st.length<=12
  ·have hfs':=hfs h12
   obtain⟨t1,t2,t3,t4⟩:=txt x xo.1.2.1
   walk_at "go"
   refine done x bl nm xo.1.2.1 (.op1 ?_ xo) h12 (fun z=>absurd z hwb) (by rw [uy hwb]) hb hb2
   rcases hw with z | z | z
   ·exact .inl z
   ·exact .inr z
   ·exact absurd z hwb
  ·have:=big h12
   walk_at "go"
   exact q0
theorem Zq {f:Fr}{r:List T}{t:T}{B n:Nat}{xs:List T}(h:FrL f t)(hk:FrK B n f)(pc:Pc B n (.tp xs))(hn:n<=20)(hB:B<=1000000)(q:∀ t',FrL (f.put (.tp xs)) t'->Q .non [.ls (r++[t']),.non]):zC [.ls (r++[t]),.fz (.tp xs)] Q X:=XT h (zaW pc) hk.1 pc hn hB q
theorem zcc {ov:Bool}{f:Fr}{st:List Fr}{nm ns:List (Lc)}{fs:List T}{n:Int}{B:Nat}(hf:FsP FrL (f::st) fs)(hk:StK B (f::st))(h8:8<=B)(hB:B<=1000000)(h0:0<=n)(hl:0<ns.length)(hl':ns.length<=100)(hns:∀ x∈ns,vJ x)(ho:ov=true->st≠[])(q:∀ t s' fs',Gone ov (f::st,nm) t s' fs'->s'.2=nm->Q (.str t) [.ls fs',.non,.non,.non]):qI [.ls fs,.int n,.fz (.ls (ns.map .str)),.bl ov] Q X:=by
 unfold qI vF fnD
 refine⟨rfl,?_⟩
 have hlen:=hf.len
 obtain⟨tf,r,rfl,kf,kr⟩:=hf
 have hlen:(r++[tf]).length=st.length+1:=hlen
 obtain⟨k1,k2,k3⟩:=hk
 have lf:biO .len [.ls (r++[tf])]=some (.int ((st.length:Int)+1)):=by
  show some (T.int ((r++[tf]).length:Nat))=_
  rw [hlen]
  rfl
 have ln:biO .len [.fz (.ls (ns.map .str))]=some (.int ns.length):=by rw [Jw,uh]
 have leaf:∀ (w s:Lc),w.length<=8->w≠wLit->s.length<=8->Pc B (12 - st.length) (.tp [.str w,.str s]):=fun w s a b c=>wH (by lia) (fun z=>absurd z b) (by simp) fun x hx=>⟨s,ui.mp hx,by lia⟩
 have done:∀ (k:Tok) (i:Lc) (t':T),Ins k i->k.isP ov=true->FrL (f.put (.tp k.xs)) t'->Q (.str (123::(i++[125]))) [.ls (r++[t']),.non,.non,.non]:=fun k i t' hi hp ht'=>by
  refine q _ (f.put (.tp k.xs)::st,nm) _ ⟨.one (.put hp ho) (.word hi),?_,⟨t',r,rfl,ht',kr⟩,by simp⟩ rfl
  have:=(XM hi).1
  simp only [ua,uf,uk]
  lia
 have i0:ixO (.ls (r++[tf])) (.int (-1))=some tf:=by
  show orE (atI _ (-1)) _=_
  rw [vU]
  simp only [Uk]
  rfl
 by_cases w1:n % 6<2/\0<st.length
 ·obtain⟨w1,w2⟩:=w1
  cases st with
  | nil=>simp at w2
  | cons g st=>
   obtain⟨tg,r',rfl,kg,kr'⟩:=kr
   obtain⟨j1,j2,j3⟩:=k3
   have e12:12 - st.length=12 - (st.length+1)+1:=by simp only [ua] at k1;lia
   rw [e12] at j2
   have w2':(1:Int)<((g::st).length:Int)+1:=by simp only [ua];lia
   walk_at "go"
   refine VT kf kg k2 j2 h8 (by simp only [ua];lia) hB fun t' ht'=>⟨nofun,?_⟩
   walk_at "go"
   exact q _ (g.put f.whole::st,nm) _ ⟨.one .fin (.word .fin),by decide,⟨t',r',rfl,ht',kr'⟩,by simp⟩ rfl
 walk_at "st"
 show WSs _ [.own (.ls (r++[tf])),.own (.int n),.own (.fz (.ls (ns.map .str))),.own (.bl ov),.own (.int (n % 6)),.no,.no] _
 refine xx [.own (.ls (r++[tf])),.own (.int n),.own (.fz (.ls (ns.map .str))),.own (.bl ov),.own (.int (n % 6)),.no,.no] ?_ fun R hR=>?_
 rotate_left
 ·dsimp only [WS,WE,WEs,WT,WA,WP,WO,WB,WTb,ckT]
  by_cases z:n % 6<2
  ·have z2:¬ (1:Int)<(st.length:Int)+1:=by lia
   walk_at "go"
   exact hR
  ·walk_at "go"
   exact hR
 by_cases w2:n % 6=2/\f.w=wIf/\f.ps=[]
 ·obtain⟨w2,w3,w4⟩:=w2
  obtain⟨bs,c,rfl,b1,b2⟩:=kf
  have eb:bs=[]:=by rw [w4] at b1;cases b1;rfl
  subst eb
  have i1:ixO (.tp [.str f.w,.str f.n,.ls [.ls c]]) (.int 0)=some (.str f.w):=rfl
  have i2:ixO (.tp [.str f.w,.str f.n,.ls [.ls c]]) (.int 2)=some (.ls [.ls c]):=rfl
  have l1:biO .len [.ls [.ls c]]=some (.int 1):=rfl
  have s1:stepI (.ls (r++[.tp [.str f.w,.str f.n,.ls [.ls c]]])) (.int (-1))=some r.length:=jR
  have g0:getP [.own (.ls (r++[.tp [.str f.w,.str f.n,.ls [.ls c]]])),.own (.int n),.own (.fz (.ls (ns.map .str))),.own (.bl ov),.own (.int (n % 6)),.no,.no] 0 [r.length]=some (.tp [.str f.w,.str f.n,.ls [.ls c]]):=qF
  have g1:getP [.own (.ls (r++[.tp [.str f.w,.str f.n,.ls [.ls c]]])),.own (.int n),.own (.fz (.ls (ns.map .str))),.own (.bl ov),.own (.int (n % 6)),.no,.no] 0 [r.length,2]=some (.ls [.ls c]):=qF
  walk_at "go"
  show Q (.str [123,101,108,115,101,125]) [setT (.ls (r++[.tp [.str f.w,.str f.n,.ls [.ls c]]])) [r.length,2] (.ls [.ls c,.ls []]),.non,.non,.non]
  have pt:setT (.ls (r++[.tp [.str f.w,.str f.n,.ls [.ls c]]])) [r.length,2] (.ls [.ls c,.ls []])=.ls (r++[.tp [.str f.w,.str f.n,.ls [.ls c,.ls []]]]):=by
   rw [wj]
   rfl
  rw [pt]
  exact q _ ({ f with ps:=[f.cur],cur:=[] }::st,nm) _ ⟨.one (.els w3 w4 ho) (.word .els),by decide,⟨_,r,rfl,⟨[c],[],rfl,.one b2,.nil⟩,kr⟩,by simp⟩ rfl
 refine xx [.own (.ls (r++[tf])),.own (.int n),.own (.fz (.ls (ns.map .str))),.own (.bl ov),.own (.int (n % 6)),.no,.no] ?_ fun R hR=>?_
 rotate_left
 ·dsimp only [WS,WE,WEs,WT,WA,WP,WO,WB,WTb,ckT]
  by_cases z:n % 6=2
  ·obtain⟨bs,c,rfl,b1,b2⟩:=kf
   have i1:ixO (.tp [.str f.w,.str f.n,.ls (bs.map .ls++[.ls c])]) (.int 0)=some (.str f.w):=rfl
   have i2:ixO (.tp [.str f.w,.str f.n,.ls (bs.map .ls++[.ls c])]) (.int 2)=some (.ls (bs.map .ls++[.ls c])):=rfl
   have l1:biO .len [.ls (bs.map .ls++[.ls c])]=some (.int ((bs.length:Int)+1)):=by
    show some (T.int ((bs.map T.ls++[T.ls c]).length:Nat))=_
    rw [uf,uh]
    rfl
   have hb:=b1.len
   by_cases z2:f.w=wIf
   ·have z3:¬ ((bs.length:Int)+1=1):=fun y=>w2 ⟨z,z2,gh.mp (by lia)⟩
    walk_at "go"
    exact hR
   ·walk_at "go"
    exact hR
  ·walk_at "go"
   exact hR
 by_cases w3:n % 6=3/\ov=true
 ·obtain⟨w3,w4⟩:=w3
  subst w4
  have all:∀ t∈r++[tf],∃ w n b,t=.tp [.str w,.str n,.ls b]:=fun t ht=>by
   have:∀ {st:List Fr} {fs:List T},FsP FrL st fs->∀ t∈fs,∃ w n b,t=.tp [.str w,.str n,.ls b]:=fun {st}=>by
    induction st with
    | nil=>intro fs h t ht;rw [show fs=[] from h] at ht;cases ht
    | cons f st ih=>
     rintro fs ⟨t',r,rfl,⟨bs,c,rfl,_⟩,h⟩ t ht
     rcases ud.mp ht with z | z
     ·exact ih h t z
     ·exact⟨_,_,_,ui.mp z⟩
   exact this (st:=f::st) ⟨tf,r,rfl,kf,kr⟩ t ht
  have it:itT .seq [.ls (r++[tf])]=some ((r++[tf]).map view):=by
   have s0:∀ xs:List T,shrs (xs++[tf])=false:=fun xs=>by
    induction xs with
    | nil=>obtain⟨w,n,b,rfl⟩:=all tf (by simp);rfl
    | cons x xs ih=>show(shr x&&shrs (xs++[tf]))=false;rw [ih,UX]
   have vm:∀ xs:List T,views xs=xs.map view:=fun xs=>by
    induction xs with
    | nil=>rfl
    | cons x xs ih=>simp only [views,ih,uA]
   show orE (if shrs (r++[tf])=true then _ else _) (orE (some (views (r++[tf]))) _)=_
   rw [s0,vm]
   rfl
  walk_at "go"
  refine zaG (g:=fun t=>.str (hd1 t)) (fun t ht K hK=>?_) (by lia) rfl ?_
  ·obtain⟨w,n,b,rfl⟩:=all t ht
   have:ixO (view (.tp [.str w,.str n,.ls b])) (.int 0)=some (.str w):=rfl
   walk_at "go"
   exact hK
  ·have isn:∃ b,cmpO .isin (.str z0) (.ls ((r++[tf]).map fun t=>.str (hd1 t)))=some b:=by
    have sc:∀ xs:List T,∃ vs,scTs (xs.map fun t=>T.str (hd1 t))=some vs:=fun xs=>by
     induction xs with
     | nil=>exact⟨_,rfl⟩
     | cons x xs ih=>
      obtain⟨vs,e⟩:=ih
      refine⟨.str (S (hd1 x))::vs,?_⟩
      show two (some _) (scTs (xs.map fun t=>T.str (hd1 t))) _=_
      rw [e]
      rfl
    obtain⟨vs,e⟩:=sc (r++[tf])
    refine⟨inV (.str (S z0)) vs,?_⟩
    show orE (two (some (V.str (S z0))) (scTs ((r++[tf]).map fun t=>T.str (hd1 t))) _) _=_
    rw [e]
    rfl
   obtain⟨b,isn⟩:=isn
   cases b with
   | true=>
    walk_at "go"
    refine Zq kf k2 (xs:=[.str vI]) (wH (by simp only [ua,uk];lia) (fun z=>absurd z (by decide)) (by simp) nofun) (by lia) hB fun t' ht'=>⟨nofun,?_⟩
    walk_at "go"
    exact done .elder _ t' .elder rfl ht'
   | false=>
    obtain⟨x,_,ix,xin⟩:=Zp (ns:=ns) (i:=n / 6 % (ns.length:Int)) (Ub _ (by lia)) (uX _ (by lia))
    have xo:=hns x (uR xin)
    have c1:=jt (a:=[123]) (b:=x) (by have:=xo.1.2.1;simp only [ua,uk];lia)
    have c2:=jt (a:=[123]++x) (b:=[125]) (by have:=xo.1.2.1;simp only [uf,ua,uk];lia)
    walk_at "go"
    refine Zq kf k2 (xs:=[.str WV,.str x]) (leaf _ _ (by decide) (by decide) xo.1.2.1) (by lia) hB fun t' ht'=>⟨nofun,?_⟩
    walk_at "go"
    exact done (.hole x) x t' (.hole xo) rfl ht'
 refine xx [.own (.ls (r++[tf])),.own (.int n),.own (.fz (.ls (ns.map .str))),.own (.bl ov),.own (.int (n % 6)),.no,.no] ?_ fun R hR=>?_
 rotate_left
 ·dsimp only [WS,WE,WEs,WT,WA,WP,WO,WB,WTb,ckT]
  by_cases z:n % 6=3
  ·cases ov with
   | false=>
    walk_at "go"
    exact hR
   | true=>exact absurd ⟨z,rfl⟩ w3
  ·walk_at "go"
   exact hR
 by_cases w4:n % 6=4
 ·have cat:binO .add (.fz (.ls (ns.map .str))) (.fz (.ls [.str [101,97,99,104],.str [105,102],.str [101,108,115,101],.str [101,110,100],.str [98,108,111,99,107],.str [101,108,100,101,114],.str [100,114,97,119],.str [111,118,101,114]]))=some (.ls ((ns++jS).map .str)):=by
   have e1:(ns.map T.str).map fzi=ns.map T.str:=by rw [Ux];rfl
   have s1:shrs (ns.map T.str)=true:=WD (fun _=>rfl) ns
   have ll:(ns.map T.str).length+8<=16777216:=by rw [uh];lia
   rw [Ue]
   show orE none (orE none (orE (two (shO (some ((ns.map T.str).map fzi))) (shO (some (jS.map T.str))) (Wb .add)) _))=_
   rw [e1]
   show orE none (orE none (orE ((if shrs (ns.map T.str)=true then some (ns.map T.str) else none).bind fun x=>(some (jS.map T.str)).bind fun y=>Wb .add x y) _))=_
   rw [uz s1]
   show orE none (orE none (orE (if BO.add=.add/\(ns.map T.str).length+8<=16777216 then _ else none) _))=_
   rw [uz ⟨rfl,ll⟩]
   rfl
  obtain⟨x,ix,_,xin⟩:=Zp (ns:=ns++jS) (i:=n / 6 % ((ns.length:Int)+8)) (Ub _ (by lia)) (by rw [uf];have:=uX (n / 6) (b:=(ns.length:Int)+8) (by lia);simp only [ua,uk];lia)
  have xo:js x:=by
   rcases ud.mp (uR xin) with z | z
   ·exact(hns x z).1
   ·exact(by decide:∀ x∈jS,1<=x.length/\x.length<=8/\∀ c∈x,97<=c/\c<=122) x z
  have c1:=jt (a:=[123,100,114,97,119,32]) (b:=x) (by have:=xo.2.1;simp only [ua,uk];lia)
  have c2:=jt (a:=[123,100,114,97,119,32]++x) (b:=[125]) (by have:=xo.2.1;simp only [uf,ua,uk];lia)
  walk_at "go"
  refine Zq kf k2 (xs:=[.str Q7,.str x]) (leaf _ _ (by decide) (by decide) xo.2.1) (by lia) hB fun t' ht'=>⟨nofun,?_⟩
  walk_at "go"
  exact done (.draw x) _ t' (.draw xo) rfl ht'
 ·obtain⟨x,_,ix,xin⟩:=Zp (ns:=ns) (i:=n / 6 % (ns.length:Int)) (Ub _ (by lia)) (uX _ (by lia))
  have xo:=hns x (uR xin)
  have c1:=jt (a:=[123]) (b:=x) (by have:=xo.1.2.1;simp only [ua,uk];lia)
  have c2:=jt (a:=[123]++x) (b:=[125]) (by have:=xo.1.2.1;simp only [uf,ua,uk];lia)
  walk_at "go"
  refine Zq kf k2 (xs:=[.str WV,.str x]) (leaf _ _ (by decide) (by decide) xo.1.2.1) (by lia) hB fun t' ht'=>⟨nofun,?_⟩
  walk_at "go"
  exact done (.hole x) x t' (.hole xo) rfl ht'
end
section
variable {Q:T->List T->Prop} {X:Exn->List T->Prop}
theorem wI (ns:List (Lc)):ze (ns.map T.str)=ns.map T.str:=Qp (fun _=>rfl) ns
theorem za0 {ov:Bool}{st:List Fr}{nm ns bl:List (Lc)}{fs:List T}{n:Int}{B:Nat}(hf:FsP FrL st fs)(hst:st≠[])(hk:StK B st)(h8:8<=B)(hB:B<=1000000)(h0:0<=n)(hl:0<ns.length)(hl':ns.length<=100)(hns:∀ x∈ns,vJ x)(hb:BlOk bl nm)(hb2:bl.length<=100)(q:∀ t s' fs' bl',Gone ov (st,nm) t s' fs'->BlOk bl' s'.2->bl'.length<=100->Q (.str t) [.ls fs',.non,.non,.ls (bl'.map .str),.non]):qt [.ls fs,.int n,.fz (.ls (ns.map .str)),.ls (bl.map .str),.bl ov] Q X:=by
 unfold qt xM fnD
 refine⟨rfl,?_⟩
 have hlen:=hf.len
 have lf:biO .len [.ls fs]=some (.int fs.length):=rfl
 have fn:fzn (.fz (.ls (ns.map .str)))=.fz (.ls (ns.map .str)):=by
  show T.fz (.ls (ze (ns.map T.str)))=_
  rw [wI]
 have op:∀ {m:Int} {Q:T->List T->Prop} {X:Exn->List T->Prop},0<=m->(ov=true->st.length=1->m % 4=2)->(∀ t s' fs' bl',Gone ov (st,nm) t s' fs'->BlOk bl' s'.2->bl'.length<=100->Q (.str t) [.ls fs',.non,.non,.ls (bl'.map .str)])->zQ [.ls fs,.int m,fzn (.fz (.ls (ns.map .str))),.ls (bl.map .str)] Q X:=fun h1 h2 q=>by
  rw [fn]
  exact Yy hf hst h1 hl hns hb h2 hb2 q
 by_cases ho:ov=true/\fs.length=1
 ·obtain⟨ho,h1⟩:=ho
  subst ho
  walk_at "go"
  refine op (by lia) (fun _ _=>by lia) fun t s' fs' bl' h1 h2 h3=>⟨nofun,?_⟩
  walk_at "go"
  exact q _ _ _ _ h1 h2 h3
 ·have ho':ov=true->st.length≠1:=fun z y=>ho ⟨z,by lia⟩
  walk_at "st"
  show WSs _ [.own (.ls fs),.own (.int n),.own (.fz (.ls (ns.map .str))),.own (.ls (bl.map .str)),.own (.bl ov),.own (.int (n % 8))] _
  refine xx [.own (.ls fs),.own (.int n),.own (.fz (.ls (ns.map .str))),.own (.ls (bl.map .str)),.own (.bl ov),.own (.int (n % 8))] ?_ fun R hR=>?_
  rotate_left
  ·dsimp only [WS,WE,WEs,WT,WA,WP,WO,WB,WTb,ckT]
   cases ov with
   | false=>
    walk_at "go"
    exact hR
   | true=>
    have z:¬ ((fs.length:Int)=1):=fun y=>ho ⟨rfl,by lia⟩
    walk_at "go"
    exact hR
  cases st with
  | nil=>exact absurd rfl hst
  | cons f st=>
   have ho2:ov=true->st≠[]:=fun z y=>ho' z (by rw [y];rfl)
   by_cases h3:n % 8<3
   ·obtain⟨tf,r,rfl,kf,kr⟩:=hf
    walk_at "go"
    refine XU kf hk.2.1 h8 (by lia) hB (by lia) fun t s tf' ht hr htf=>⟨nofun,?_⟩
    walk_at "go"
    exact q _ (f.put (litP s)::st,nm) _ bl ⟨hr ov st nm ho2,by lia,⟨tf',r,rfl,htf,kr⟩,by simp⟩ hb hb2
   ·by_cases h5:n % 8<5
    ·walk_at "go"
     refine op (by lia) (fun z y=>absurd y (ho' z)) fun t s' fs' bl' h1 h2 h3=>⟨nofun,?_⟩
     walk_at "go"
     exact q _ _ _ _ h1 h2 h3
    ·walk_at "go"
     rw [fn]
     refine zcc (nm:=nm) hf hk h8 hB (by lia) hl hl' hns ho2 fun t s' fs' h1 h2=>⟨nofun,?_⟩
     walk_at "go"
     exact q _ s' _ bl h1 (by rw [h2];exact hb) hb2
def BotK (st:List Fr):Prop:=∀ f,st.getLast? = some f->f.w=[]/\f.n=[]/\f.ps=[]
theorem XW {f g:Fr}{st:List Fr}(h:BotK (f::st))(hg:st=[]->g.w=f.w/\g.n=f.n/\g.ps=f.ps):BotK (g::st):=by
 intro k hk
 cases st with
 | nil=>
  have:=hg rfl
  have hk:k=g:=(uU hk).symm
  subst hk
  rw [this.1,this.2.1,this.2.2]
  exact h f rfl
 | cons a st=>
  rw [UE] at hk
  exact h k (by rw [UE];exact hk)
theorem zcd {o:Bool}{s s':Sx}{k:Tok}(h:Stp o s k s')(hb:BotK s.1):BotK s'.1:=by
 cases h with
 | put _ _=>exact XW hb fun _=>⟨rfl,rfl,rfl⟩
 | @op st nm w n _ h2 _ _ _=>
  intro f hf
  cases st with
  | nil=>exact absurd rfl h2
  | cons a st=>
   have hf:(⟨w,n,[],[]⟩::a::st:List Fr).getLast? = some f:=hf
   rw [UE] at hf
   exact hb f hf
 | els h1 _ _=>
  rename_i f st nm _ _
  refine XW hb fun e=>?_
  subst e
  have:=(hb f rfl).1
  rw [h1] at this
  cases this
 | fin=>
  rename_i f g st nm
  refine XW (f:=g) (fun k hk=>hb k ?_) fun _=>⟨rfl,rfl,rfl⟩
  show(f::g::st).getLast? = _
  rw [UE]
  exact hk
theorem Rd.bot {o:Bool}{s s':Sx}{l:Lc}(h:Rd o s l s'):BotK s.1->BotK s'.1:=by
 induction h with
 | nil=>exact id
 | cons h1 _ _ ih=>exact fun hb=>ih (zcd h1 hb)
def zeQ (ov:Bool)(toks:List (Lc))(us:List T):Prop:=∃ nm,Rd ov ([root],[]) toks.flatten ([⟨[],[],[],us⟩],nm)/\toks.flatten.length<=1100
theorem zce {ns:List Int}{ov:Bool}(hl:ns.length<=63)(q:∀ toks us,zeQ ov toks us->Q (.tp [.fz (.ls (toks.map .str)),.fz (.ls us)]) [.non,.non]):qJ [.ks true (ns.map .int),.bl ov] Q X:=by
 unfold qJ vG fnD
 refine⟨rfl,?_⟩
 walk_at "go"
 refine Zn (k:=0) fun c=>⟨nofun,?_⟩
 walk_at "go"
 refine Qd (many:=4) (by decide) fun nms hn=>⟨nofun,?_⟩
 have fn:fzn (.ls (nms.map .str))=.fz (.ls (nms.map .str)):=by
  show T.fz (.ls (ze (nms.map T.str)))=_
  rw [wI]
 rw [fn]
 walk_at "go"
 refine Zn (k:=1) fun c=>⟨nofun,?_⟩
 walk_at "go"
 refine Qd (many:=6) (by decide) fun bs hb=>⟨nofun,?_⟩
 have cat:binO .add (.ls (bs.map .str)) (.ls [.str [101,97,99,104],.str [105,102],.str [101,108,115,101],.str [101,110,100],.str [98,108,111,99,107],.str [101,108,100,101,114],.str [100,114,97,119],.str [111,118,101,114]])=some (.ls ((bs++jS).map .str)):=by
  rw [Ue]
  exact zeB (WD (fun _=>rfl) bs) rfl (by rw [uh,hb.1];decide)
 have sl:∃ ms:List Int,slO (.ks true (ns.map .int)) (some 2) (some 62)=some (.ls (ms.map .int))/\ms.length<=60:=by
  refine⟨cutL ns (some 2) (some 62),?_,?_⟩
  ·show orE none ((shO (some ((ns.map T.int).map fzi))).map _)=_
   rw [WG,Zl (by intro t ht;obtain⟨a,_,rfl⟩:=u0.mp ht;rfl)]
   show some (T.ls (cutL (ns.map T.int) (some 2) (some 62)))=_
   unfold cutL
   rw [uh,List.map_take,List.map_drop]
  ·unfold cutL
   rw [Us]
   have e1:HT.sIx ns.length 0 (some 2)=min 2 ns.length:=HT.sIx_nat _ _ 2
   have e2:HT.sIx ns.length ns.length (some 62)=min 62 ns.length:=HT.sIx_nat _ _ 62
   rw [e1,e2]
   lia
 obtain⟨ms,sl,hms⟩:=sl
 have it:itT .seq [.ls (ms.map .int)]=some (ms.map .int):=by
  show orE (shO (some _)) _=_
  rw [Zl (by intro t ht;obtain⟨a,_,rfl⟩:=u0.mp ht;rfl)]
  rfl
 have fn2:fzn (.fz (.ls (nms.map .str)))=.fz (.ls (nms.map .str)):=by
  show T.fz (.ls (ze (nms.map T.str)))=_
  rw [wI]
 refine⟨by decide,?_⟩
 walk_at "go"
 refine xw (fun k s=>∃ (st:List Fr) (nm toks bl:List (Lc)) (fs:List T) (x:Slot),s=[.own (.ks true (ns.map .int)),.own (.bl ov),.own (.fz (.ls (nms.map .str))),.own (.ls (bl.map .str)),.own (.ls fs),.own (.ls (toks.map .str)),x]/\Rd ov ([root],[]) toks.flatten (st,nm)/\FsP FrL st fs/\st≠[]/\BlOk bl nm/\bl.length<=100/\toks.flatten.length<=16 * k/\toks.length=k) ⟨[root],[],[],bs++jS,_,_,rfl,.nil,⟨_,[],rfl,⟨[],[],rfl,.nil,.nil⟩,rfl⟩,by simp,?_,?_,uu _,rfl⟩ ?_ ?_
 ·refine⟨uB.mpr ⟨hb.2.1,by decide,fun a ha b hb' z=>?_⟩,fun x hx=>?_,fun x _=>by simp⟩
  ·subst z
   exact(hb.2.2 a ha).2 hb'
  ·rcases ud.mp hx with z | z
   ·exact(hb.2.2 x z).1
   ·exact(by decide:∀ x∈jS,1<=x.length/\x.length<=8/\∀ c∈x,97<=c/\c<=122) x z
 ·rw [uf,hb.1];decide
 ·rintro k d _ hd ⟨st,nm,toks,bl,fs,x,rfl,hr,hf,hst,hbl,hb2,hlt,htk⟩
  have hk:k<ms.length:=by have:=(uF.mp hd).1;rwa [uh] at this
  obtain⟨c,_,rfl⟩:=u0.mp (uR hd)
  refine⟨_,rfl,fun K hK=>?_⟩
  have stk:=hr.ok (B:=8) (Qb 8) (uu _)
  have tl:(toks.map T.str).length<16777216:=by rw [uh,htk];lia
  walk_at "go"
  refine zca fun n hn0=>⟨nofun,?_⟩
  walk_at "go"
  rw [fn2]
  refine za0 hf hst stk (by lia) (by lia) hn0 (by rw [hn.1];decide) (by rw [hn.1];decide) hn.2.2 hbl hb2 fun t s' fs' bl' g1 g2 g3=>⟨nofun,?_⟩
  walk_at "go"
  have e:toks.map T.str++[.str t]=(toks++[t]).map .str:=by rw [Ue];rfl
  rw [e]
  refine hK _ ⟨s'.1,s'.2,toks++[t],bl',fs',_,rfl,?_,g1.2.2.1,g1.2.2.2,g2,g3,?_,by rw [uf,htk];rfl⟩
  ·rw [US]
   have:=hr.app g1.1
   simpa using this
  ·have:=g1.2.1
   rw [US,uf]
   simp only [List.flatten_cons,List.flatten_nil,ux]
   lia
 ·rintro _ ⟨st,nm,toks,bl,fs,x,rfl,hr,hf,hst,hbl,hb2,hlt,htk⟩
  rw [uh] at hlt htk
  have sk:=(hr.ok (B:=8) (Qb 8) (uu _))
  have st13:st.length<=13:=by
   cases st with
   | nil=>exact absurd rfl hst
   | cons _ _=>have:=sk.1;simp only [ua];omega
  walk_at "st"
  refine zcL (fun m s=>∃ (st:List Fr) (toks:List (Lc)) (fs:List T) (x:Slot),s=[.own (.ks true (ns.map .int)),.own (.bl ov),.own (.fz (.ls (nms.map .str))),.own (.ls (bl.map .str)),.own (.ls fs),.own (.ls (toks.map .str)),x]/\Rd ov ([root],[]) toks.flatten (st,nm)/\FsP FrL st fs/\st.length=m+1/\toks.flatten.length+5 * m<=1060/\toks.length+m<=100) (st.length - 1) ⟨st,toks,fs,x,rfl,hr,hf,?_,by lia,by lia⟩ ?_
  ·cases st with
   | nil=>exact absurd rfl hst
   | cons _ _=>simp
  ·clear hr hf hlt htk sk st13 hst
   rintro m _ ⟨st,toks,fs,x,rfl,hr,hf,hm,hlt,htk⟩ K hK
   have stk:=hr.ok (B:=8) (Qb 8) (uu _)
   have hlen:=hf.len
   have lf:biO .len [.ls fs]=some (.int fs.length):=rfl
   have bot:=hr.bot (fun f hf=>by cases hf;exact⟨rfl,rfl,rfl⟩)
   have tl:(toks.map T.str).length<16777216:=by rw [uh];lia
   cases m with
   | zero=>
    match st,hm with
    | [f],_=>
     obtain⟨b1,b2,b3⟩:=bot f rfl
     obtain⟨tf,r,rfl,⟨bs,c,rfl,a1,a2⟩,kr⟩:=hf
     have:r=[]:=kr
     subst this
     have:bs=[]:=by rw [b3] at a1;cases a1;rfl
     subst this
     have l1:biO .len [.ls ([]++[.tp [.str f.w,.str f.n,.ls (([]:List (List T)).map .ls++[.ls c])]])]=some (.int 1):=rfl
     walk_at "go"
     show Q (.tp [fzn (.ls (toks.map .str)),fzn (.ls c)]) [.non,.non]
     have e1:fzn (.ls (toks.map .str))=.fz (.ls (toks.map .str)):=by
      show T.fz (.ls (ze (toks.map T.str)))=_
      rw [wI]
     have e2:fzn (.ls c)=.fz (.ls f.cur):=by
      show T.fz (.ls (ze c))=_
      rw [kQ a2]
     rw [e1,e2]
     refine q toks f.cur ⟨nm,?_,by lia⟩
     have:f=⟨[],[],[],f.cur⟩:=by
      cases f
      dsimp only at b1 b2 b3 ⊢
      rw [b1,b2,b3]
     rw [← this]
     exact hr
   | succ m=>
    match st,hm with
    | f::g::st,hm=>
     obtain⟨tf,r,rfl,kf,tg,r',rfl,kg,kr⟩:=hf
     obtain⟨k1,k2,k3,k4,k5⟩:=stk
     have e12:12 - st.length=12 - (st.length+1)+1:=by simp only [ua] at k1;lia
     rw [e12] at k4
     have l2:(1:Int)<((r'++[tg]++[tf]).length:Int):=by rw [hlen];simp only [ua];lia
     walk_at "go"
     refine VT kf kg k2 k4 (by lia) (by lia) (by lia) fun t' ht'=>⟨nofun,?_⟩
     walk_at "go"
     have e:toks.map T.str++[.str [123,101,110,100,125]]=(toks++[[123,101,110,100,125]]).map .str:=by rw [Ue];rfl
     rw [e]
     refine hK m _ (Uz m) ⟨g.put f.whole::st,toks++[[123,101,110,100,125]],_,_,rfl,?_,⟨t',r',rfl,ht',kr⟩,?_,?_,?_⟩
     ·rw [US]
      have:=hr.app (.one .fin (.word .fin))
      simpa using this
     ·simp only [ua] at hm ⊢;lia
     ·rw [US,uf]
      simp only [List.flatten_cons,List.flatten_nil,ux,ua,uk]
      lia
     ·rw [uf];simp only [ua,uk];lia
end
section
variable {Q:T->List T->Prop} {X:Exn->List T->Prop}
theorem zeR {L:List T}{i:Nat}{x:T}(h:L[i]? = some x):L.set i x=L:=by
 apply UI
 intro j
 by_cases z:i=j
 ·subst z
  rw [uP (uF.mp h).1,h]
 ·rw [uN z]
def Good (B n:Nat)(x:T):Prop:=(∃ s,x=.str s/\s.length<=B)\/∃ qs,x=.ls qs/\qs.length<=B/\∀ p∈qs,∃ m,m<n/\Pc B m p
def St1 (B n:Nat)(x x':T):Prop:=(∃ s,x=.str s/\x' = .str s/\s.length<=B)\/∃ qs',x' = .ls qs'/\(∃ qs,x=.ls qs)/\qs'.length<=B+1/\∀ p∈qs',Pc (B+1) n p
def VU (F:Fn):Sl->L4.Ends->Prop:=fun s D=>WSs [.ife (.t (.isi (.a 2 0) [.list])) [.ex (.call "_law_stirred" [.mu] false F [(.a 2 0)])] []] s D
theorem JL {F:Fn}{B n i:Nat}{D:L4.Ends}(ih:∀ qs,qs.length<=B->(∀ p∈qs,∃ m,m<n/\Pc B m p)->∀ {Q:T->List T->Prop} {X:Exn->List T->Prop},(∀ qs',qs'.length<=B+1->(∀ p∈qs',Pc (B+1) n p)->Q .non [.ls qs'])->F [.ls qs] Q X):∀ (rest dn L:List T) (y:Slot),L[i]? = some (.tp (dn++rest))->(∀ x∈rest,Good B n x)->(∀ rest' y',A2 (St1 B n) rest rest'->D.nx [.own (.ls (L.set i (.tp (dn++rest')))),.al 0 [i],y'])->jh 2 (some 1) 0 [i] false (VU F) D (dn.length+rest.length) rest.length [.own (.ls L),.al 0 [i],y]
 | [],dn,L,y,hL,_,fin=>by
  have g:getP [.own (.ls L),.al 0 [i],y] 0 [i]=some (.tp (dn++[])):=by
   show(match L[i]? with | some x=>getT x [] | none=>none)=_
   rw [hL];rfl
  refine⟨⟨rfl,_,dn++[],g,rfl,rfl,by simp⟩,?_⟩
  have:=fin [] y .nil
  rwa [zeR hL] at this
 | x::rest,dn,L,y,hL,hx,fin=>by
  have g:∀ y,getP [.own (.ls L),.al 0 [i],y] 0 [i]=some (.tp (dn++x::rest)):=fun y=>by
   show(match L[i]? with | some x=>getT x [] | none=>none)=_
   rw [hL];rfl
  have g2:∀ y,getP [.own (.ls L),.al 0 [i],y] 0 [i,dn.length]=some x:=fun y=>by
   show(match L[i]? with | some x=>getT x [dn.length] | none=>none)=_
   rw [hL]
   show(match (dn++x::rest)[dn.length]? with | some x=>getT x [] | none=>none)=_
   rw [uL (uu _),UU]
   rfl
  have ix:dn.length+(x::rest).length - (rest.length+1)=dn.length:=by simp only [ua];lia
  refine⟨rfl,_,dn++x::rest,x,g y,rfl,rfl,by simp,?_,.al 0 ([i]++[dn.length]),.inl ⟨rfl,?_⟩,?_⟩
  ·rw [ix,uL (uu _),UU];rfl
  ·rw [ix]
  have len:dn.length+(x::rest).length=(dn++[x]).length+rest.length:=by simp only [ua,uf,uk];lia
  have li:i<L.length:=(uF.mp hL).1
  unfold VU
  show WSs _ [.own (.ls L),.al 0 [i],.al 0 [i,dn.length]] _
  have gx:=g2 (.al 0 [i,dn.length])
  rcases hx x ue with⟨s,rfl,hs⟩ | ⟨qs,rfl,l1,l2⟩
  ·have e:isiO (.str s) [.list]=some false:=rfl
   walk_at "go"
   show jh 2 (some 1) 0 [i] false (VU F) D (dn.length+(T.str s::rest).length) rest.length _
   rw [len]
   refine JL ih rest (dn++[.str s]) L _ (by rw [hL];simp) (fun x hx'=>hx x (ug _ hx')) fun rest' y' h=>?_
   have:=fin (.str s::rest') y' (.cons (.inl ⟨s,rfl,rfl,hs⟩) h)
   rw [uM]
   exact this
  ·have e:isiO (.ls qs) [.list]=some true:=rfl
   walk_at "go"
   refine⟨⟨.ls qs,gx,trivial⟩,.ls qs,gx,?_⟩
   refine ih qs l1 l2 fun qs' h1 h2=>⟨nofun,?_⟩
   walk_at "go"
   have e2:setT (.ls L) [i,dn.length] (.ls qs')=.ls (L.set i (.tp ((dn++[.ls qs'])++rest))):=by
    show(match L[i]? with | some x=>T.ls (L.set i (setT x [dn.length] (.ls qs'))) | none=>_)=_
    rw [hL]
    show T.ls (L.set i (match (dn++.ls qs::rest)[dn.length]? with | some x=>T.tp ((dn++.ls qs::rest).set dn.length (.ls qs')) | none=>_))=_
    rw [uL (uu _),UU]
    simp
   show jh 2 (some 1) 0 [i] false (VU F) D (dn.length+(T.ls qs::rest).length) rest.length [.own (setT (.ls L) [i,dn.length] (.ls qs')),Slot.kill 0 [i,dn.length] (.al 0 [i]),Slot.kill 0 [i,dn.length] (.al 0 [i,dn.length])]
   rw [e2]
   have k1:Slot.kill 0 [i,dn.length] (.al 0 [i])=.al 0 [i]:=by simp [Slot.kill,List.isPrefixOf]
   rw [k1,show dn.length+(T.ls qs::rest).length=(dn++[T.ls qs']).length+rest.length by simp only [ua,uf,uk];lia]
   refine JL ih rest (dn++[.ls qs']) _ _ (by rw [uP li]) (fun x hx'=>hx x (ug _ hx')) fun rest' y' h=>?_
   have:=fin (.ls qs'::rest') y' (.cons (.inr ⟨qs',rfl,⟨qs,rfl⟩,h1,h2⟩) h)
   rw [List.set_set,uM]
   exact this
theorem zeS {B n:Nat}{xs xs':List T}(h:A2 (St1 B n) xs xs')(hp:Pc B n (.tp xs)):Pc (B+1) (n+1) (.tp xs'):=by
 obtain⟨w,ys,e,b1,b2,b3,b4⟩:=hp.body
 cases e
 cases h with
 | cons h0 h=>
  rename_i x' ys'
  have ex:x' = .str w:=by
   rcases h0 with⟨s,e1,e2,_⟩ | ⟨qs',_,⟨qs,e⟩,_⟩
   ·cases e1;exact e2
   ·cases e
  subst ex
  refine⟨w,ys',rfl,by lia,fun z=>?_,by rw [← h.len];exact b3,fun x hx=>?_⟩
  ·obtain⟨s,rfl⟩:=b2 z
   cases h with
   | cons h1 h2=>
    cases h2
    rcases h1 with⟨s',e1,e2,_⟩ | ⟨_,_,⟨qs,e⟩,_⟩
    ·exact⟨s',by rw [e2]⟩
    ·cases e
  ·have:∀ {as bs:List T},A2 (St1 B n) as bs->∀ b∈bs,∃ a,St1 B n a b:=fun h=>by
    induction h with
    | nil=>exact nofun
    | cons h _ ih=>
     intro b hb
     rcases um.mp hb with rfl | hb
     ·exact⟨_,h⟩
     ·exact ih b hb
   obtain⟨a,ha⟩:=this h x hx
   rcases ha with⟨s,_,e,l⟩ | ⟨qs',e,_,l,p⟩
   ·exact .inl ⟨s,e,by lia⟩
   ·exact .inr ⟨qs',e,l,p⟩
def za1 (F:Fn):Sl->L4.Ends->Prop:=fun s D=>WSs [.loopA 2 (some 1) 0 [.ife (.t (.isi (.a 2 0) [.list])) [.ex (.call "_law_stirred" [.mu] false F [(.a 2 0)])] []]] s D
theorem W3 {F:Fn}{B n:Nat}{D:L4.Ends}(ih:∀ qs,qs.length<=B->(∀ p∈qs,∃ m,m<n/\Pc B m p)->∀ {Q:T->List T->Prop} {X:Exn->List T->Prop},(∀ qs',qs'.length<=B+1->(∀ p∈qs',Pc (B+1) n p)->Q .non [.ls qs'])->F [.ls qs] Q X):∀ (rest dn:List T) (y y2:Slot),(∀ x∈rest,Pc B n x)->(∀ rest' y y',A2 (fun _ p=>Pc (B+1) (n+1) p) rest rest'->D.nx [.own (.ls (dn++rest')),y,y'])->jh 1 none 0 [] true (za1 F) D (dn.length+rest.length) rest.length [.own (.ls (dn++rest)),y,y2]
 | [],dn,y,y2,_,fin=>⟨⟨rfl,_,_,rfl,rfl,rfl,by simp⟩,fin [] y y2 .nil⟩
 | x::rest,dn,y,y2,hx,fin=>by
  have px:=hx x ue
  obtain⟨w,xs,rfl,b1,b2,b3,b4⟩:=px.body
  have ix:dn.length+(T.tp (.str w::xs)::rest).length - (rest.length+1)=dn.length:=by simp only [ua];lia
  have gi:(dn++T.tp (.str w::xs)::rest)[dn.length]? = some (.tp (.str w::xs)):=by
   rw [uL (uu _),UU]
   rfl
  refine⟨rfl,_,dn++.tp (.str w::xs)::rest,.tp (.str w::xs),rfl,rfl,rfl,by simp,by rw [ix];exact gi,.al 0 ([]++[dn.length]),.inl ⟨rfl,by rw [ix]⟩,?_⟩
  unfold za1
  refine wg ?_
  show ∃ p t xs,_
  have g:∀ y,getP [.own (.ls (dn++.tp (.str w::xs)::rest)),.al 0 [dn.length],y] 0 [dn.length]=some (.tp (.str w::xs)):=fun y=>by
   show(match (dn++T.tp (.str w::xs)::rest)[dn.length]? with | some x=>getT x [] | none=>none)=_
   rw [gi]
   rfl
  refine⟨[dn.length],.tp (.str w::xs),.str w::xs,rfl,g _,rfl,?_⟩
  have:=JL (D:=?_) ih (.str w::xs) [] (dn++.tp (.str w::xs)::rest) (Slot.killR 1 y2) gi (fun x hx=>?_) ?_
  ·rw [uk,UT] at this
   exact this
  ·rcases um.mp hx with rfl | hx
   ·exact .inl ⟨w,rfl,b1⟩
   ·exact b4 x hx
  ·intro xs' y' h
   refine Zk ?_
   have e:(dn++T.tp (.str w::xs)::rest).set dn.length (.tp ([]++xs'))=(dn++[.tp xs'])++rest:=by simp
   rw [e]
   show jh 1 none 0 [] true (za1 F) D (dn.length+(T.tp (.str w::xs)::rest).length) rest.length _
   rw [show dn.length+(T.tp (.str w::xs)::rest).length=(dn++[T.tp xs']).length+rest.length by simp only [ua,uf,uk];lia]
   refine W3 ih rest (dn++[.tp xs']) _ _ (fun x hx'=>hx x (ug _ hx')) fun rest' y y' h'=>?_
   have:=fin (.tp xs'::rest') y y' (.cons (zeS h px) h')
   rw [uM]
   exact this
noncomputable abbrev eld:T:=.tp [.str vI]
theorem za2 {B n:Nat}(h:5<=B):Pc B n eld:=wH (by simp only [ua,uk];lia) (fun z=>absurd z (by decide)) (by simp) nofun
theorem xN:∀ (m n:Nat) {Q:T->List T->Prop} {X:Exn->List T->Prop} {ps:List T} {B:Nat},(ps=[]/\0<m)\/n+1<m->(∀ u∈ps,Pc B n u)->5<=B->B<=1000000->ps.length<=B->(∀ ps',ps'.length=ps.length+1->(∀ p∈ps',Pc (B+1) (n+1) p)->(ps=[]->ps' = [eld])->Q .non [.ls ps'])->zh m [.ls ps] Q X
 | 0,_,_,_,_,_,h,_,_,_,_,_=>by rcases h with⟨_,h⟩ | h<;>omega
 | m+1,n,Q,X,ps,B,hn,hp,h5,hB,hl,q=>by
  unfold zh jr fnD
  refine⟨rfl,?_⟩
  refine wg ?_
  show ∃ p t xs,_
  refine⟨[],.ls ps,ps,rfl,rfl,rfl,?_⟩
  have fin:∀ ps',ps'.length=ps.length->(∀ p∈ps',Pc (B+1) (n+1) p)->Q .non [.ls (ps'++[eld])]:=fun ps' h1 h2=>by
   refine q _ (by rw [uf,h1];rfl) (fun p hp=>?_) fun z=>?_
   ·rcases ud.mp hp with z | z
    ·exact h2 p z
    ·rw [ui.mp z];exact za2 (by lia)
   ·rw [z] at h1
    rw [gh.mp h1]
    rfl
  by_cases h0:ps=[]
  ·subst h0
   refine⟨⟨rfl,_,_,rfl,rfl,rfl,rfl⟩,?_⟩
   walk_at "go"
   exact fin [] rfl nofun
  have hnm:n<m:=by
   rcases hn with⟨e,_⟩ | h
   ·exact absurd e h0
   ·lia
  have:=W3 (F:=zh m) (B:=B) (n:=n) (D:=?_) ?_ ps [] .no .no hp ?_
  ·rw [uk,UT] at this
   exact this
  ·intro qs l1 l2 Q' X' q'
   by_cases z:n=0
   ·have e:qs=[]:=by
     cases qs with
     | nil=>rfl
     | cons u _=>obtain⟨m',h1,_⟩:=l2 u ue;omega
    subst e
    refine xN m 0 (B:=B) (.inl ⟨rfl,by lia⟩) nofun h5 hB (uS _) fun ps' _ _ h3=>?_
    rw [h3 rfl]
    exact q' _ (by simp only [ua,uk];lia) fun p hp=>by rw [ui.mp hp];exact za2 (by lia)
   ·refine xN m (n - 1) (B:=B) (.inr (by lia)) (fun u hu=>?_) h5 hB l1 fun ps' h1 h2 _=>?_
    ·obtain⟨m',h1,h2⟩:=l2 u hu
     exact h2.to (by lia)
    ·rw [show n - 1+1=n by lia] at h2
     exact q' _ (by lia) h2
  ·intro ps' y y' h
   have hl':ps'.length<16777216:=by rw [← h.len];lia
   walk_at "go"
   refine fin ps' h.len.symm fun p hp=>?_
   have:∀ {as bs:List T},A2 (fun _ p=>Pc (B+1) (n+1) p) as bs->∀ b∈bs,Pc (B+1) (n+1) b:=fun h=>by
    induction h with
    | nil=>exact nofun
    | cons h _ ih=>
     intro b hb
     rcases um.mp hb with rfl | hb
     ·exact h
     ·exact ih b hb
   exact this h p hp
end
section
theorem eqq {a b:T}{d e:Dat}(ha:scT a=none)(hc:(cont a&&cont b)=true)(h1:datT a=some d)(h2:datT b=some e)(h3:depD d<=50):L4.eqT a b=some (eqD d e):=by
 unfold L4.eqT
 rw [ha,h1,h2,hc]
 show(if depD d<=50 then some (eqD d e) else none)=_
 rw [uz h3]
theorem eqDs_len:∀ {ds es:List Dat},ds.length≠es.length->eqDs ds es=false
 | [],[],h=>absurd rfl h
 | [],_::_,_=>rfl
 | _::_,[],_=>rfl
 | d::ds,e::es,h=>by
  simp only [eqDs]
  rw [eqDs_len (fun z=>h (by rw [ua,ua,z])),UX]
theorem Zr {a b:T}{us:List T}{B n:Nat}(h:∀ u∈us,Pc B n u)(hn:n<=20)(ha:a=.ls us\/a=.fz (.ls us))(hb:b=.ls us\/b=.fz (.ls us)):cmpO .eq a b=some true/\cmpO .ne a b=some false:=by
 obtain⟨ds,k1,k2,k3,_⟩:=Zo h
 have d1:datT (.ls us)=some (.ls ds):=by show(jx us).map Dat.ls=_;rw [k1];rfl
 have e:L4.eqT a b=some true:=by
  have:eqD (.ls ds) (.ls ds)=true:=J6 (by simp only [yK,k3])
  rw [eqq (d:=.ls ds) (e:=.ls ds) (by rcases ha with rfl | rfl<;>rfl) (by rcases ha with rfl | rfl<;>rcases hb with rfl | rfl<;>rfl) (by rcases ha with rfl | rfl<;>exact d1) (by rcases hb with rfl | rfl<;>exact d1) (by show wA ds+1<=50;lia),this]
 refine⟨e,?_⟩
 show(L4.eqT a b).map _=_
 rw [e]
 rfl
theorem zcf {us ps:List T}{B n B' n':Nat}(h:∀ u∈us,Pc B n u)(h':∀ u∈ps,Pc B' n' u)(hn:n'<=20)(hl:ps.length=us.length+1):cmpO .eq (.ls ps) (.fz (.ls us))=some false:=by
 obtain⟨ds,k1,k2,k3,k4⟩:=Zo h
 obtain⟨es,j1,j2,j3,j4⟩:=Zo h'
 have d1:datT (.fz (.ls us))=some (.ls ds):=by show(jx us).map Dat.ls=_;rw [k1];rfl
 have d2:datT (.ls ps)=some (.ls es):=by show(jx ps).map Dat.ls=_;rw [j1];rfl
 show L4.eqT _ _=_
 rw [eqq (d:=.ls es) (e:=.ls ds) rfl rfl d2 d1 (by show wA es+1<=50;lia)]
 simp only [eqD]
 rw [eqDs_len (by lia)]
def QL:T->List T->Prop:=fun t _=>t=.bl true
def XL:Exn->List T->Prop:=fun _ _=>False
abbrev DL:L4.Ends:={ nx:=fun s=>∃ r,retA [.fz] s=some r/\QL .non r,rt:=fun t s=>∃ r,retA [.fz] s=some r/\QL t r,bk:=fun _=>False,ct:=fun _=>False,ex:=fun x s=>∃ r,retA [.fz] s=some r/\XL x r }
theorem za3 {ks ov:T}{b:Bool}{tk:T}{us:List T}{l:Lc}(hr:Reads ov l us)(hl:l.length<=2000):WSs (Q5.drop 5) [.own ks,.own (.bl b),.own tk,.own (.fz (.ls us)),.own (.str l),.own ov,.no,.no,.no,.no,.no] DL:=by
 have hv:ov=.non\/∃ n,ov=.str n:=by
  rcases hr with⟨e,_⟩ | ⟨n,_,_,e,_⟩
  ·exact .inl e
  ·exact .inr ⟨n,e⟩
 have hpc:=hr.pc
 have hp:=hpc.2
 have hB:8+l.length<=1000000:=by lia
 have shv:shr ov=true:=by rcases hv with rfl | ⟨n,rfl⟩<;>rfl
 have fzv:fzi ov=ov:=by rcases hv with rfl | ⟨n,rfl⟩<;>rfl
 have fnv:fzn ov=ov:=by rcases hv with rfl | ⟨n,rfl⟩<;>rfl
 have cov:cmpO .ne ov ov=some false:=by
  rcases hv with rfl | ⟨n,rfl⟩
  ·rfl
  ·rw [zcM];simp
 have cus:=(kj hp).2
 have cs:=cus.strip
 have fs1:fzn (.ob 0 sF [ov,.ls us])=.fz (.ob 0 sF [ov,.ls us]):=by
  show T.fz (.ob 0 sF [strip ov,.ls (ze us)])=_
  rw [cs]
  rcases hv with rfl | ⟨n,rfl⟩<;>rfl
 have fs2:fzn (.fz (.ls us))=.fz (.ls us):=by
  show T.fz (.ls (ze us))=_
  rw [cs]
 have e1:=Zr hp (by decide) (.inl rfl) (.inr rfl)
 have e2:=Zr hp (by decide) (.inr rfl) (.inr rfl)
 have e3:=e1.2
 have e4:=e2.2
 have e5:=e2.1
 have e6:=e1.1
 unfold Q5
 show WSs (_::_) _ _
 refine wg ?_
 dsimp only [WS,WE,WEs,WT,WA,WP,WO,WB,WTb,ckT]
 walk_at "go"
 refine yh hr hl ⟨nofun,?_⟩
 rw [fs1]
 have f0:fldO (.fz (.ob 0 sF [ov,.ls us])) 0 "over" = some ov:=by
  show some (fzi ov)=_
  rw [fzv]
 have f1:fldO (.fz (.ob 0 sF [ov,.ls us])) 0 "pieces" = some (.fz (.ls us)):=rfl
 show WSs _ [.own ks,.own (.bl b),.own tk,.own (.fz (.ls us)),.own (.str l),.own ov,.own (.fz (.ob 0 sF [ov,.ls us])),.no,.no,.no,.no] _
 walk_at "go"
 rw [fs2]
 refine xg 40 12 (.inr (by decide)) cus hp hB hpc.1 ⟨nofun,?_⟩
 show WSs _ [.own ks,.own (.bl b),.own tk,.own (.fz (.ls us)),.own (.str l),.own ov,.own (.fz (.ob 0 sF [ov,.ls us])),.own (.ls us),.no,.no,.no] _
 walk_at "go"
 rw [fnv]
 refine Qa (c:=us) hv (by rw [cs];exact cus) hp (by decide) hB hpc.1 ⟨rfl,_,_,rfl,?_⟩
 show WSs _ [.own ks,.own (.bl b),.own tk,.own (.fz (.ls us)),.own (.str l),.own ov,.own (.fz (.ob 0 sF [ov,.ls us])),.own (.ls us),.own (.ob 0 sF [ov,.ls us]),.no,.no] _
 walk_at "go"
 refine xN 40 12 (.inr (by decide)) hp (by lia) hB hpc.1 fun ps h1 h2 _=>⟨nofun,?_⟩
 show WSs _ [.own ks,.own (.bl b),.own tk,.own (.fz (.ls us)),.own (.str l),.own ov,.own (.fz (.ob 0 sF [ov,.ls us])),.own (.ls ps),.own (.ob 0 sF [ov,.ls us]),.no,.no] _
 have g0:fldO (.ob 0 sF [ov,.ls us]) 0 "over" = some ov:=rfl
 have g1:fldO (.ob 0 sF [ov,.ls us]) 0 "pieces" = some (.ls us):=rfl
 have e7:=zcf hp h2 (by decide) h1
 walk_at "go"
 rw [fs2]
 refine xg 40 12 (.inr (by decide)) cus hp hB hpc.1 ⟨nofun,?_⟩
 have hS:∀ u∈[T.tp [.str [115,101,97,116],.str [100,114,97,119],.str [97],.str [],.ls us],.tp [.str [104,111,108,101],.str [97]]],Pc (8+l.length) 13 u:=fun u hu=>by
  rcases um.mp hu with rfl | hu
  ·refine⟨_,_,rfl,by simp only [ua,uk];lia,fun z=>absurd z (by decide),by simp,fun x hx=>?_⟩
   simp only [um,List.not_mem_nil,or_false] at hx
   rcases hx with rfl | rfl | rfl | rfl
   ·exact .inl ⟨_,rfl,by simp only [ua,uk];lia⟩
   ·exact .inl ⟨_,rfl,by simp only [ua,uk];lia⟩
   ·exact .inl ⟨_,rfl,by simp only [uk];lia⟩
   ·exact .inr ⟨us,rfl,hpc⟩
  ·rw [ui.mp hu]
   exact wH (by simp only [ua,uk];lia) (fun z=>absurd z (by decide)) (by simp) fun x hx=>⟨_,ui.mp hx,by simp only [ua,uk];lia⟩
 have cS:=(kj hS).2
 have sS:=cS.strip
 have fS:fzn (.ls [T.tp [.str [115,101,97,116],.str [100,114,97,119],.str [97],.str [],.ls us],.tp [.str [104,111,108,101],.str [97]]])=.fz (.ls [T.tp [.str [115,101,97,116],.str [100,114,97,119],.str [97],.str [],.ls us],.tp [.str [104,111,108,101],.str [97]]]):=by
  show T.fz (.ls (ze _))=_
  rw [sS]
 repeat walk_at "w0"
 rw [fS]
 generalize hSE:[T.tp [.str [115,101,97,116],.str [100,114,97,119],.str [97],.str [],.ls us],.tp [.str [104,111,108,101],.str [97]]]=SE at hS cS sS fS ⊢
 show WSs _ [.own ks,.own (.bl b),.own tk,.own (.fz (.ls us)),.own (.str l),.own ov,.own (.fz (.ob 0 sF [ov,.ls us])),.own (.ls ps),.own (.ob 0 sF [ov,.ls us]),.own (.fz (.ls SE)),.no] _
 have fS2:fzn (.fz (.ls SE))=.fz (.ls SE):=by
  show T.fz (.ls (ze SE))=_
  rw [sS]
 have sl:SE.length<=8+l.length:=by rw [← hSE];simp only [ua,uk];lia
 have x1:=(Zr hS (by decide) (.inl rfl) (.inr rfl)).2
 have x2:cmpO .ne (.fz (.ls SE)) (.ls [T.tp [.str [115,101,97,116],.str [100,114,97,119],.str [97],.str [],.fz (.ls us)],.tp [.str [104,111,108,101],.str [97]]])=some false:=by
  have:cmpO .ne (.fz (.ls SE)) (.ls SE)=some false:=(Zr hS (by decide) (.inr rfl) (.inl rfl)).2
  rw [← hSE] at this ⊢
  exact this
 walk_at "go"
 rw [fS2]
 refine xg 40 13 (.inr (by decide)) cS hS hB sl ⟨nofun,?_⟩
 show WSs _ [.own ks,.own (.bl b),.own tk,.own (.fz (.ls us)),.own (.str l),.own ov,.own (.fz (.ob 0 sF [ov,.ls us])),.own (.ls ps),.own (.ob 0 sF [ov,.ls us]),.own (.fz (.ls SE)),.own (.ls SE)] _
 walk_at "go"
 refine xN 40 13 (.inr (by decide)) hS (by lia) hB sl fun qs _ _ _=>⟨nofun,?_⟩
 show WSs _ [.own ks,.own (.bl b),.own tk,.own (.fz (.ls us)),.own (.str l),.own ov,.own (.fz (.ob 0 sF [ov,.ls us])),.own (.ls ps),.own (.ob 0 sF [ov,.ls us]),.own (.fz (.ls SE)),.own (.ls qs)] _
 walk_at "go"
 refine yh hr hl ⟨nofun,?_⟩
 walk_at "go"
 exact rfl
theorem zcg (ns:List Int)(h:ns.length<=63):fnD [.fz] 11 Q5 [.ks true (ns.map .int)] (fun t _=>t=.bl true) (fun _ _=>False):=by
 refine⟨rfl,?_⟩
 have tail:=fun ks ov b tk us l=>@za3 ks ov b tk us l
 unfold Q5 at tail ⊢
 walk_at "go"
 refine Zn (k:=1) fun c=>⟨nofun,?_⟩
 repeat walk_at "w0"
 obtain⟨b,hb⟩:∃ b,b=decide (c % 2=1):=⟨_,rfl⟩
 rw [← hb]
 show WSs _ [.own (.ks true (ns.map .int)),.own (.bl b),.no,.no,.no,.no,.no,.no,.no,.no,.no] _
 walk_at "go"
 refine zce h fun toks us hm=>⟨nofun,?_⟩
 have jn:meO .join (.str []) [.fz (.ls (toks.map .str))]=some (.str toks.flatten):=by
  obtain⟨nm,_,hl⟩:=hm
  have e:(toks.map T.str).map fzi=toks.map T.str:=by rw [Ux];rfl
  show two (some []) (txts ((toks.map T.str).map fzi)) _=_
  rw [e,WH]
  show(if _ then _ else _)=_
  rw [uz ⟨rfl,by lia⟩]
 repeat walk_at "w0"
 show WSs _ [.own (.ks true (ns.map .int)),.own (.bl b),.own (.fz (.ls (toks.map .str))),.own (.fz (.ls us)),.no,.no,.no,.no,.no,.no,.no] _
 obtain⟨nm,hr,hl⟩:=hm
 cases b with
 | false=>
  walk_at "st"
  walk_at "st"
  walk_at "st"
  refine Zk ?_
  exact tail _ _ _ _ us toks.flatten (.inl ⟨rfl,nm,hr⟩) (by lia)
 | true=>
  walk_at "st"
  walk_at "st"
  show WSs _ [.own (.ks true (ns.map .int)),.own (.bl true),.own (.fz (.ls (toks.map .str))),.own (.fz (.ls us)),.own (.str toks.flatten),.own .non,.no,.no,.no,.no,.no] _
  walk_at "go"
  refine Zn (k:=1) fun c'=>⟨nofun,?_⟩
  walk_at "go"
  refine Qd (many:=1) (by decide) fun n1 hn1=>⟨nofun,?_⟩
  obtain⟨l1,_,own1⟩:=hn1
  match n1,l1,own1 with
  | [n],_,own1=>
   have no:=(own1 n ue).1
   have n8:=no.2.1
   have c1:=jt (a:=[123,111,118,101,114,32]) (b:=n) (by simp only [ua,uk];lia)
   have c2:=jt (a:=[123,111,118,101,114,32]++n) (b:=[125]) (by simp only [uf,ua,uk];lia)
   have c3:=jt (a:=[123,111,118,101,114,32]++n++[125]) (b:=toks.flatten) (by simp only [uf,ua,uk];lia)
   have et:[123,111,118,101,114,32]++n++[125]++toks.flatten=xV n++toks.flatten:=by unfold xV;simp
   rw [et] at c3
   have ix:ixO (.ls ([n].map .str)) (.int 0)=some (.str n):=rfl
   repeat walk_at "w0"
   walk_at "st"
   refine Zk ?_
   refine tail _ _ _ _ us (xV n++toks.flatten) (.inr ⟨n,toks.flatten,nm,rfl,no,rfl,hr⟩) ?_
   unfold xV
   simp only [uf,ua,uk]
   lia
end
noncomputable def clA:Nat->Addr
 | 0=>150
 | 1=>192
 | 2=>248
 | _=>0
def wd (K:Le)(mg:La):Wd:=⟨K,clA,mg⟩
structure Txt (w:World)(K:Le)(mg:La):Prop where
 g_SIGNS:∃ u,mg "SIGNS" = some u/\RelV (.str (S [32,33,34,35,36,38,39,40,41,42,43,44,45,46,47,48,49,50,51,52,53,54,55,56,57,58,59,60,61,62,63,64,65,66,67,68,69,70,71,72,73,74,75,76,77,78,79,80,81,82,83,84,85,86,87,88,89,90,91,92,93,94,95,96,97,98,99,100,101,102,103,104,105,106,107,108,109,110,111,112,113,114,115,116,117,118,119,120,121,122,123,124,125,126])) u
 g_LETTERS:∃ u,mg "LETTERS" = some u/\RelV (.str (S [97,98,99,100,101,102,103,104,105,106,107,108,109,110,111,112,113,114,115,116,117,118,119,120,121,122])) u
 g_LONGEST_NAME:∃ u,mg "LONGEST_NAME" = some u/\RelV (.int 8) u
 g_MOST_SIGNS:∃ u,mg "MOST_SIGNS" = some u/\RelV (.int 2000) u
 g_MOST_OPENED:∃ u,mg "MOST_OPENED" = some u/\RelV (.int 12) u
 m_BRACE_WORDS:mg "BRACE_WORDS" = some (.ref 121)
 d_LONE_TOKENS:mg "LONE_TOKENS" = some (.ref 122)/\Wa w K 122 [(.inr (S [40]),.ref 123),(.inr (S [41]),.ref 124),(.inr (S [101,108,115,101]),.ref 125),(.inr (S [101,110,100]),.ref 126),(.inr (S [101,108,100,101,114]),.ref 127)]
 m_OPENERS:mg "OPENERS" = some (.ref 128)
 s_121:∀ F:Hp,SqT K F 121 [.str (S [101,97,99,104]),.str (S [105,102]),.str (S [101,108,115,101]),.str (S [101,110,100]),.str (S [98,108,111,99,107]),.str (S [101,108,100,101,114]),.str (S [100,114,97,119]),.str (S [111,118,101,114])]
 s_123:∀ F:Hp,SqT K F 123 [.str (S [108,105,116]),.str (S [123])]
 s_124:∀ F:Hp,SqT K F 124 [.str (S [108,105,116]),.str (S [125])]
 s_125:∀ F:Hp,SqT K F 125 [.str (S [101,108,115,101])]
 s_126:∀ F:Hp,SqT K F 126 [.str (S [101,110,100])]
 s_127:∀ F:Hp,SqT K F 127 [.str (S [101,108,100,101,114])]
 s_128:∀ F:Hp,SqT K F 128 [.str (S [101,97,99,104]),.str (S [105,102]),.str (S [98,108,111,99,107])]
 z_all:mg "all" = none
 z_enumerate:mg "enumerate" = none
 z_int:mg "int" = none
 z_isinstance:mg "isinstance" = none
 z_len:mg "len" = none
 z_list:mg "list" = none
 z_range:mg "range" = none
 z_str:mg "str" = none
 z_tuple:mg "tuple" = none
 a_0_over:Cls K 150/\qk K 150 "over"
 a_0_pieces:Cls K 150/\qk K 150 "pieces"
 a_1_branches:Cls K 192/\qk K 192 "branches"
 a_1_name:Cls K 192/\qk K 192 "name"
 a_1_word:Cls K 192/\qk K 192 "word"
 a_2_named:Cls K 248/\qk K 248 "named"
 a_2_opened:Cls K 248/\qk K 248 "opened"
 a_2_over:Cls K 248/\qk K 248 "over"
 i_Sheet:IsCl (wd K mg) mg "Sheet" 0
abbrev JM (K:Le):Sp:=zcI K
section
variable {P:Program} {w:World} {K:Le} {mg:La} {base:Heap}
theorem zcW {W:Wd}{k:Nat}{x:Str}{st:Stmt}{ps N:Lh}{ms:List Md}(D:Df W.K mg x st ps)(Sc:zg N ps (za st))(hn:ms.length=ps.length):OkX P w W.K mg base (k+1) x ps (SpM W ms fun _ _ _=>False):=
 D.okX Sc (fun vs H Q E h=>h.1.trans hn) (fun f cdv A outer s H vs Q E hr h=>by
  obtain⟨hl,F,ts,B,Q4,X4,gF,tr,nd,fr,po,q,x⟩:=h
  exact po.elim)
theorem zeT (T:Txt w K mg)(F H:Hp):Tr (wd K mg) F H (.ks false [.str [101,97,99,104],.str [105,102],.str [101,108,115,101],.str [101,110,100],.str [98,108,111,99,107],.str [101,108,100,101,114],.str [100,114,97,119],.str [111,118,101,114]]) (.ref 121) []:=⟨rfl,_,_,rfl,T.s_121 F,⟨_,_,rfl,⟨rfl,by decide⟩,⟨_,_,rfl,⟨rfl,by decide⟩,⟨_,_,rfl,⟨rfl,by decide⟩,⟨_,_,rfl,⟨rfl,by decide⟩,⟨_,_,rfl,⟨rfl,by decide⟩,⟨_,_,rfl,⟨rfl,by decide⟩,⟨_,_,rfl,⟨rfl,by decide⟩,⟨_,_,rfl,⟨rfl,by decide⟩,rfl⟩⟩⟩⟩⟩⟩⟩⟩⟩
theorem zeU (T:Txt w K mg)(F H:Hp):Tr (wd K mg) F H (.ks false [.str [108,105,116],.str [123]]) (.ref 123) []:=⟨rfl,_,_,rfl,T.s_123 F,⟨_,_,rfl,⟨rfl,by decide⟩,⟨_,_,rfl,⟨rfl,by decide⟩,rfl⟩⟩⟩
theorem zeV (T:Txt w K mg)(F H:Hp):Tr (wd K mg) F H (.ks false [.str [108,105,116],.str [125]]) (.ref 124) []:=⟨rfl,_,_,rfl,T.s_124 F,⟨_,_,rfl,⟨rfl,by decide⟩,⟨_,_,rfl,⟨rfl,by decide⟩,rfl⟩⟩⟩
theorem zeW (T:Txt w K mg)(F H:Hp):Tr (wd K mg) F H (.ks false [.str [101,108,115,101]]) (.ref 125) []:=⟨rfl,_,_,rfl,T.s_125 F,⟨_,_,rfl,⟨rfl,by decide⟩,rfl⟩⟩
theorem zeX (T:Txt w K mg)(F H:Hp):Tr (wd K mg) F H (.ks false [.str [101,110,100]]) (.ref 126) []:=⟨rfl,_,_,rfl,T.s_126 F,⟨_,_,rfl,⟨rfl,by decide⟩,rfl⟩⟩
theorem zeY (T:Txt w K mg)(F H:Hp):Tr (wd K mg) F H (.ks false [.str [101,108,100,101,114]]) (.ref 127) []:=⟨rfl,_,_,rfl,T.s_127 F,⟨_,_,rfl,⟨rfl,by decide⟩,rfl⟩⟩
theorem zeZ (T:Txt w K mg)(F H:Hp):Tr (wd K mg) F H (.ks false [.str [101,97,99,104],.str [105,102],.str [98,108,111,99,107]]) (.ref 128) []:=⟨rfl,_,_,rfl,T.s_128 F,⟨_,_,rfl,⟨rfl,by decide⟩,⟨_,_,rfl,⟨rfl,by decide⟩,⟨_,_,rfl,⟨rfl,by decide⟩,rfl⟩⟩⟩⟩
theorem za4 {k:Nat}(T:Txt w K mg):(Gam P w mg base (wd K mg) k).G "SIGNS" g_SIGNS:=⟨(.str (S [32,33,34,35,36,38,39,40,41,42,43,44,45,46,47,48,49,50,51,52,53,54,55,56,57,58,59,60,61,62,63,64,65,66,67,68,69,70,71,72,73,74,75,76,77,78,79,80,81,82,83,84,85,86,87,88,89,90,91,92,93,94,95,96,97,98,99,100,101,102,103,104,105,106,107,108,109,110,111,112,113,114,115,116,117,118,119,120,121,122,123,124,125,126])),fun _ _=>⟨rfl,rfl,by decide⟩,T.g_SIGNS⟩
theorem XX {k:Nat}(T:Txt w K mg):(Gam P w mg base (wd K mg) k).G "LETTERS" g_LETTERS:=⟨(.str (S [97,98,99,100,101,102,103,104,105,106,107,108,109,110,111,112,113,114,115,116,117,118,119,120,121,122])),fun _ _=>⟨rfl,rfl,by decide⟩,T.g_LETTERS⟩
theorem Zb {k:Nat}(T:Txt w K mg):(Gam P w mg base (wd K mg) k).G "LONGEST_NAME" g_LONGEST_NAME:=⟨(.int 8),fun _ _=>⟨rfl,rfl⟩,T.g_LONGEST_NAME⟩
theorem Qz {k:Nat}(T:Txt w K mg):(Gam P w mg base (wd K mg) k).G "MOST_SIGNS" g_MOST_SIGNS:=⟨(.int 2000),fun _ _=>⟨rfl,rfl⟩,T.g_MOST_SIGNS⟩
theorem Qe {k:Nat}(T:Txt w K mg):(Gam P w mg base (wd K mg) k).G "MOST_OPENED" g_MOST_OPENED:=⟨(.int 12),fun _ _=>⟨rfl,rfl⟩,T.g_MOST_OPENED⟩
theorem Qf {k:Nat}(T:Txt w K mg):(Gam P w mg base (wd K mg) k).G "BRACE_WORDS" wQ:=⟨.ref 121,zeT T,_,T.m_BRACE_WORDS,rfl⟩
theorem Qg {k:Nat}(T:Txt w K mg):(Gam P w mg base (wd K mg) k).D "LONE_TOKENS" wR:=⟨_,_,T.d_LONE_TOKENS.1,T.d_LONE_TOKENS.2,⟨_,_,rfl,zeU T,⟨_,_,rfl,zeV T,⟨_,_,rfl,zeW T,⟨_,_,rfl,zeX T,⟨_,_,rfl,zeY T,rfl⟩⟩⟩⟩⟩⟩
theorem XY {k:Nat}(T:Txt w K mg):(Gam P w mg base (wd K mg) k).G "OPENERS" vX:=⟨.ref 128,zeZ T,_,T.m_OPENERS,rfl⟩
local macro_rules | `(tactic| walk_at "need") => `(tactic| repeat' (first | exact trivial | (refine ⟨_, _, ?_, by assumption⟩; omega) | exact Txt.z_all (by assumption) | exact Txt.z_enumerate (by assumption) | exact Txt.z_int (by assumption) | exact Txt.z_isinstance (by assumption) | exact Txt.z_len (by assumption) | exact Txt.z_list (by assumption) | exact Txt.z_range (by assumption) | exact Txt.z_str (by assumption) | exact Txt.z_tuple (by assumption) | exact za4 (by assumption) | exact XX (by assumption) | exact Zb (by assumption) | exact Qz (by assumption) | exact Qe (by assumption) | exact Qf (by assumption) | exact Qg (by assumption) | exact XY (by assumption) | exact Txt.a_0_over (by assumption) | exact Txt.a_0_pieces (by assumption) | exact Txt.a_1_branches (by assumption) | exact Txt.a_1_name (by assumption) | exact Txt.a_1_word (by assumption) | exact Txt.a_2_named (by assumption) | exact Txt.a_2_opened (by assumption) | exact Txt.a_2_over (by assumption) | exact Txt.i_Sheet (by assumption) | exact fun h => absurd rfl h | (refine List.forall_mem_cons.mpr ⟨?_, ?_⟩) | exact List.forall_mem_nil _ | refine ⟨?_, ?_⟩ | intro _))
section
variable (P:Program) (w:World) (K:Le) (mg:La) (base:Heap)
abbrev JN:=OkX P w K mg base 41 "copied" j8 (SpM (wd K mg) [.fz] (zM 40))
abbrev qV:=OkMk P w K mg base 42 (clA 0) "Sheet" qy (SpM (wd K mg) [.mu,.fz,.mu] zr)
abbrev yC:=OkX P w K mg base 1 "need_text" jX (SpM (wd K mg) [.fz] qG)
abbrev qM:=OkMk P w K mg base 1 (clA 1) "Opened" qo (SpM (wd K mg) [.mu,.fz,.fz] zx)
abbrev jT:=OkMk P w K mg base 3 (clA 2) "Draft" qz (SpM (wd K mg) [.mu] zN)
abbrev ju:=OkMt P w K mg base 1 (clA 1) "add_piece" qf (SpM (wd K mg) [.mu,.fz] zA)
abbrev qu:=OkMt P w K mg base 1 (clA 1) "takes_else" z9 (SpM (wd K mg) [.fz] zo)
abbrev wX:=OkMt P w K mg base 2 (clA 1) "whole" qS (SpM (wd K mg) [.mu] zY)
abbrev qB:=OkMt P w K mg base 1 (clA 2) "is_outside" qg (SpM (wd K mg) [.fz] zl)
abbrev jG:=OkMt P w K mg base 2 (clA 2) "can_stand" qp (SpM (wd K mg) [.fz,.fz,.fz] zk)
abbrev ja:=OkMt P w K mg base 3 (clA 2) "begin_piece" qa (SpM (wd K mg) [.mu,.fz,.fz] zE)
abbrev vN:=OkMt P w K mg base 4 (clA 2) "take" jH (SpM (wd K mg) [.mu,.fz,.fz] zW)
abbrev xO:=OkMt P w K mg base 44 (clA 2) "ended" jl (SpM (wd K mg) [.mu,.fz] qe)
abbrev kl:=OkX P w K mg base 1 "is_name" xA (SpM (wd K mg) [.fz] qL)
abbrev xP:=OkX P w K mg base 2 "is_own_name" jm (SpM (wd K mg) [.fz] zX)
abbrev kR:=OkX P w K mg base 3 "token_of" wD (SpM (wd K mg) [.fz] zO)
abbrev kS:=OkX P w K mg base 4 "token_at" wF (SpM (wd K mg) [.fz,.fz] qq)
abbrev vO:=OkX P w K mg base 45 "sheet_read" jI (SpM (wd K mg) [.fz] qb)
abbrev jN:=OkX P w K mg base 1 "_law_cell_at" qT (SpM (wd K mg) [.fz,.fz] zB)
abbrev wJ:=OkX P w K mg base 1 "_law_mixed" jJ (SpM (wd K mg) [.fz,.fz] zG)
abbrev wK:=OkX P w K mg base 2 "_law_names" jK (SpM (wd K mg) [.fz,.fz] zP)
abbrev yD:=OkX P w K mg base 2 "_law_rest" jY (SpM (wd K mg) [.fz] qH)
abbrev xh:=OkX P w K mg base 1 "_law_put" wG (SpM (wd K mg) [.mu,.fz] zC)
abbrev xQ:=OkX P w K mg base 2 "_law_shut" jZ (SpM (wd K mg) [.mu] qc)
abbrev vP:=OkX P w K mg base 1 "_law_signs" jL (SpM (wd K mg) [] qr)
abbrev wY:=OkX P w K mg base 2 "_law_literal" qU (SpM (wd K mg) [.mu,.fz] zZ)
abbrev xR:=OkX P w K mg base 1 "_law_opened" jo (SpM (wd K mg) [.mu,.fz,.fz,.mu] zQ)
abbrev yE:=OkX P w K mg base 3 "_law_word" j0 (SpM (wd K mg) [.mu,.fz,.fz,.fz] qI)
abbrev vQ:=OkX P w K mg base 4 "_law_token" jM (SpM (wd K mg) [.mu,.fz,.fz,.mu,.fz] qt)
abbrev yF:=OkX P w K mg base 5 "_law_made" j5 (SpM (wd K mg) [.fz,.fz] qJ)
abbrev yi:=OkX P w K mg base 41 "_law_stirred" z6 (SpM (wd K mg) [.mu] (zh 40))
end
theorem Qh (T:Txt w K mg)(D:Df K mg "copied" xc j8):∀ n,OkX P w K mg base (n+1) "copied" j8 (SpM (wd K mg) [.fz] (zM n))
 | 0=>by rw [zM];exact zcW (W:=wd K mg) D Q3 rfl
 | n+1=>by
  have Fr:=Qh T D n
  rw [zM]
  exact jb (W:=wd K mg) (k:=n+1) D Q3 zaK rfl rfl (by decide) (by unfold kh;walk_at "need")
theorem Yz (T:Txt w K mg)(D:Df K mg "copied" xc j8):JN P w K mg base:=Qh T D 40
theorem km (T:Txt w K mg)(D:Cdf K mg (clA 0) "Sheet" "Sheet.__init__" jB qy)(F1:JN P w K mg base):qV P w K mg base:=by
 unfold qV zr
 exact zaB (c:=0) (W:=wd K mg) (k:=41) D ka (by decide +kernel) (by decide) rfl (by decide) (by unfold jD;walk_at "need")
theorem JO (T:Txt w K mg)(D:Df K mg "need_text" vp jX):yC P w K mg base:=by
 unfold yC qG
 exact jb (W:=wd K mg) (k:=0) D Jx (by decide +kernel) (by decide) rfl (by decide) (by unfold vC;walk_at "need")
theorem yG (T:Txt w K mg)(D:Cdf K mg (clA 1) "Opened" "Opened.__init__" jj qo):qM P w K mg base:=by
 unfold qM zx
 exact zaB (c:=1) (W:=wd K mg) (k:=0) D yr (by decide +kernel) (by decide) rfl (by decide) (by unfold jq;walk_at "need")
theorem kn (T:Txt w K mg)(D:Cdf K mg (clA 2) "Draft" "Draft.__init__" jC qz)(F1:qM P w K mg base):jT P w K mg base:=by
 unfold jT zN
 exact zaB (c:=2) (W:=wd K mg) (k:=2) D kc (by decide +kernel) (by decide) rfl (by decide) (by unfold jE;walk_at "need")
theorem v8 (T:Txt w K mg)(D:Mdf K (clA 1) "add_piece" "Opened.add_piece" qX qf):ju P w K mg base:=by
 unfold ju zA
 exact kZ (c:=1) (W:=wd K mg) (k:=0) D vY (by decide +kernel) (by decide) rfl (by decide) (by unfold qZ;walk_at "need")
theorem vR (T:Txt w K mg)(D:Mdf K (clA 1) "takes_else" "Opened.takes_else" qO z9):qu P w K mg base:=by
 unfold qu zo
 exact kZ (c:=1) (W:=wd K mg) (k:=0) D vq (by decide +kernel) (by decide) rfl (by decide) (by unfold qQ;walk_at "need")
theorem Zc (T:Txt w K mg)(D:Mdf K (clA 1) "whole" "Opened.whole" wm qS)(F1:qu P w K mg base):wX P w K mg base:=by
 unfold wX zY
 exact kZ (c:=1) (W:=wd K mg) (k:=1) D k8 (by decide +kernel) (by decide) rfl (by decide) (by unfold wt;walk_at "need")
theorem v9 (T:Txt w K mg)(D:Mdf K (clA 2) "is_outside" "Draft.is_outside" qY qg):qB P w K mg base:=by
 unfold qB zl
 exact kZ (c:=2) (W:=wd K mg) (k:=0) D v5 (by decide +kernel) (by decide) rfl (by decide) (by unfold q9;walk_at "need")
theorem yH (T:Txt w K mg)(D:Mdf K (clA 2) "can_stand" "Draft.can_stand" jk qp)(F1:qu P w K mg base)(F2:qB P w K mg base):jG P w K mg base:=by
 unfold jG zk
 exact kZ (c:=2) (W:=wd K mg) (k:=1) D yw (by decide +kernel) (by decide) rfl (by decide) (by unfold qA;walk_at "need")
theorem vS (T:Txt w K mg)(D:Mdf K (clA 2) "begin_piece" "Draft.begin_piece" qP qa)(F1:qM P w K mg base):ja P w K mg base:=by
 unfold ja zE
 exact kZ (c:=2) (W:=wd K mg) (k:=2) D vt (by decide +kernel) (by decide) rfl (by decide) (by unfold qR;walk_at "need")
theorem QA (T:Txt w K mg)(D:Mdf K (clA 2) "take" "Draft.take" xy jH)(F1:ju P w K mg base)(F2:wX P w K mg base)(F3:jG P w K mg base)(F4:ja P w K mg base):vN P w K mg base:=by
 unfold vN zW
 exact kZ (c:=2) (W:=wd K mg) (k:=3) D Qq (by decide +kernel) (by decide) rfl (by decide) (by unfold j6;walk_at "need")
theorem Qi (T:Txt w K mg)(D:Mdf K (clA 2) "ended" "Draft.ended" wM jl)(F1:qV P w K mg base)(F2:qB P w K mg base):xO P w K mg base:=by
 unfold xO qe
 exact kZ (c:=2) (W:=wd K mg) (k:=43) D Z0 (by decide +kernel) (by decide) rfl (by decide) (by unfold wU;walk_at "need")
theorem XZ (T:Txt w K mg)(D:Df K mg "is_name" kO xA):kl P w K mg base:=by
 unfold kl qL
 exact jb (W:=wd K mg) (k:=0) D XG (by decide +kernel) (by decide) rfl (by decide) (by unfold kP;walk_at "need")
theorem Qj (T:Txt w K mg)(D:Df K mg "is_own_name" wN jm)(F1:kl P w K mg base):xP P w K mg base:=by
 unfold xP zX
 exact jb (W:=wd K mg) (k:=1) D Z3 (by decide +kernel) (by decide) rfl (by decide) (by unfold wV;walk_at "need")
theorem W4 (T:Txt w K mg)(D:Df K mg "token_of" yx wD)(F1:kl P w K mg base)(F2:xP P w K mg base):kR P w K mg base:=by
 unfold kR zO
 exact jb (W:=wd K mg) (k:=2) D WK (by decide +kernel) (by decide) rfl (by decide) (by unfold wu;walk_at "need")
theorem W5 (T:Txt w K mg)(D:Df K mg "token_at" yz wF)(F1:kR P w K mg base):kS P w K mg base:=by
 unfold kS qq
 exact jb (W:=wd K mg) (k:=3) D WL (by decide +kernel) (by decide) rfl (by decide) (by unfold xG;walk_at "need")
theorem QB (T:Txt w K mg)(D:Df K mg "sheet_read" xB jI)(F1:yC P w K mg base)(F2:jT P w K mg base)(F3:vN P w K mg base)(F4:xO P w K mg base)(F5:kS P w K mg base):vO P w K mg base:=by
 unfold vO qb
 exact jb (W:=wd K mg) (k:=44) D Qt (by decide +kernel) (by decide) rfl (by decide) (by unfold xH;walk_at "need")
theorem Qk (T:Txt w K mg)(D:Df K mg "_law_cell_at" wo qT):jN P w K mg base:=by
 unfold jN zB
 exact jb (W:=wd K mg) (k:=0) D k9 (by decide +kernel) (by decide) rfl (by decide) (by unfold wx;walk_at "need")
theorem JP (T:Txt w K mg)(D:Df K mg "_law_mixed" xC jJ):wJ P w K mg base:=by
 unfold wJ zG
 exact jb (W:=wd K mg) (k:=0) D Qu (by decide +kernel) (by decide) rfl (by decide) (by unfold xI;walk_at "need")
theorem JQ (T:Txt w K mg)(D:Df K mg "_law_names" xD jK)(F1:wJ P w K mg base):wK P w K mg base:=by
 unfold wK zP
 exact jb (W:=wd K mg) (k:=1) D Qv (by decide +kernel) (by decide) rfl (by decide) (by unfold xJ;walk_at "need")
theorem W6 (T:Txt w K mg)(D:Df K mg "_law_rest" vv jY)(F1:wJ P w K mg base):yD P w K mg base:=by
 unfold yD qH
 exact jb (W:=wd K mg) (k:=1) D JC (by decide +kernel) (by decide) rfl (by decide) (by unfold vD;walk_at "need")
theorem X0 (T:Txt w K mg)(D:Df K mg "_law_put" yA wG):xh P w K mg base:=by
 unfold xh zC
 exact jb (W:=wd K mg) (k:=0) D WN (by decide +kernel) (by decide) rfl (by decide) (by unfold yB;walk_at "need")
theorem W7 (T:Txt w K mg)(D:Df K mg "_law_shut" vw jZ)(F1:xh P w K mg base):xQ P w K mg base:=by
 unfold xQ qc
 exact jb (W:=wd K mg) (k:=1) D JD (by decide +kernel) (by decide) rfl (by decide) (by unfold vE;walk_at "need")
theorem JR (T:Txt w K mg)(D:Df K mg "_law_signs" xE jL):vP P w K mg base:=by
 unfold vP qr
 exact jb (W:=wd K mg) (k:=0) D Qw (by decide +kernel) (by decide) rfl (by decide) (by unfold xK;walk_at "need")
theorem Ql (T:Txt w K mg)(D:Df K mg "_law_literal" wq qU)(F1:vP P w K mg base)(F2:xh P w K mg base):wY P w K mg base:=by
 unfold wY zZ
 exact jb (W:=wd K mg) (k:=1) D Za (by decide +kernel) (by decide) rfl (by decide) (by unfold wy;walk_at "need")
theorem QC (T:Txt w K mg)(D:Df K mg "_law_opened" wO jo):xR P w K mg base:=by
 unfold xR zQ
 exact jb (W:=wd K mg) (k:=0) D Z6 (by decide +kernel) (by decide) rfl (by decide) (by unfold wW;walk_at "need")
theorem W8 (T:Txt w K mg)(D:Df K mg "_law_word" vy j0)(F1:xh P w K mg base)(F2:xQ P w K mg base):yE P w K mg base:=by
 unfold yE qI
 exact jb (W:=wd K mg) (k:=2) D JF (by decide +kernel) (by decide) rfl (by decide) (by unfold vF;walk_at "need")
theorem JS (T:Txt w K mg)(D:Df K mg "_law_token" xF jM)(F1:wY P w K mg base)(F2:xR P w K mg base)(F3:yE P w K mg base):vQ P w K mg base:=by
 unfold vQ qt
 exact jb (W:=wd K mg) (k:=3) D Qy (by decide +kernel) (by decide) rfl (by decide) (by unfold xM;walk_at "need")
theorem W9 (T:Txt w K mg)(D:Df K mg "_law_made" vA j5)(F1:jN P w K mg base)(F2:yD P w K mg base)(F3:wK P w K mg base)(F4:xQ P w K mg base)(F5:vQ P w K mg base):yF P w K mg base:=by
 unfold yF qJ
 exact jb (W:=wd K mg) (k:=4) D JH (by decide +kernel) (by decide) rfl (by decide) (by unfold vG;walk_at "need")
theorem xi (T:Txt w K mg)(D:Df K mg "_law_stirred" qj z6):∀ n,OkX P w K mg base (n+1) "_law_stirred" z6 (SpM (wd K mg) [.mu] (zh n))
 | 0=>by rw [zh];exact zcW (W:=wd K mg) D xU rfl
 | n+1=>by
  have Fr:=xi T D n
  rw [zh]
  exact jb (W:=wd K mg) (k:=n+1) D xU Z7 rfl rfl (by decide) (by unfold jr;walk_at "need")
theorem Qm (T:Txt w K mg)(D:Df K mg "_law_stirred" qj z6):yi P w K mg base:=xi T D 40
theorem ze0 (T:Txt w K mg)(D:Df K mg "law" zaJ JI)(F1:JN P w K mg base)(F2:qV P w K mg base)(F3:vO P w K mg base)(F4:jN P w K mg base)(F5:wK P w K mg base)(F6:yF P w K mg base)(F7:yi P w K mg base):OkF P w K mg base 46 "law" JI (JM K):=
 zew (W:=wd K mg) (k:=45) D zeF (by decide) (by decide +kernel) (by unfold Q5;walk_at "need") fun ns h=>zcg ns h
end
end My
set_option maxHeartbeats 0
open PySem L2 L4 PySem.Spec PyProof.Rows
namespace My
theorem len0 {α:Type}{us:List α}(h:us.length=0):us=[]:=gh.mp h
theorem len1 {α:Type}:∀ {us:List α},us.length=1->∃ a0,us=[a0]
 | [a0],_=>⟨a0,rfl⟩
theorem len2 {α:Type}:∀ {us:List α},us.length=2->∃ a0 a1,us=[a0,a1]
 | [a0,a1],_=>⟨a0,a1,rfl⟩
theorem len3 {α:Type}:∀ {us:List α},us.length=3->∃ a0 a1 a2,us=[a0,a1,a2]
 | [a0,a1,a2],_=>⟨a0,a1,a2,rfl⟩
theorem len4 {α:Type}:∀ {us:List α},us.length=4->∃ a0 a1 a2 a3,us=[a0,a1,a2,a3]
 | [a0,a1,a2,a3],_=>⟨a0,a1,a2,a3,rfl⟩
theorem len5 {α:Type}:∀ {us:List α},us.length=5->∃ a0 a1 a2 a3 a4,us=[a0,a1,a2,a3,a4]
 | [a0,a1,a2,a3,a4],_=>⟨a0,a1,a2,a3,a4,rfl⟩
theorem len6 {α:Type}:∀ {us:List α},us.length=6->∃ a0 a1 a2 a3 a4 a5,us=[a0,a1,a2,a3,a4,a5]
 | [a0,a1,a2,a3,a4,a5],_=>⟨a0,a1,a2,a3,a4,a5,rfl⟩
theorem len7 {α:Type}:∀ {us:List α},us.length=7->∃ a0 a1 a2 a3 a4 a5 a6,us=[a0,a1,a2,a3,a4,a5,a6]
 | [a0,a1,a2,a3,a4,a5,a6],_=>⟨a0,a1,a2,a3,a4,a5,a6,rfl⟩
theorem dfm {K:Le}{mg:La}{h:Heap}{x:Str}{st:Stmt}{ps:Lh}{f cd:Addr}{pm:Value}(X:K.In h)(G:h.Ns mainGlobals mg)
  (b:∀ (kV doc pm:Value) (an:Option Addr) (cdv ct:Value) (us:Lf),us.length=ps.length->bindArgs (PySem.W.fnOf x x (qK st) (zD st) (za st) .none kV doc pm an cdv ct) ⟨us,[]⟩=pure (ps.zip us))
  (a:PySem.W.nsIn K mainGlobals x=some (some (.ref f))) (l:K.lookup f=some ⟨.type "function",none,.func (PySem.W.fnOf x x (qK st) (zD st) (za st) .none .none .none pm none (.ref cd) .none),#[]⟩)
  (c:PySem.W.codeIn K (.ref cd) x=true) (k:PySem.W.keepIn K (.ref f)=true):Df K mg x st ps:=zfq X G b a l c k
theorem mdfm {K:Le}{C:Addr}{m x:Str}{st:Stmt}{ps:Lh}{f cd:Addr}{pm:Value}
  (b:∀ (kV doc pm:Value) (an:Option Addr) (cdv ct:Value) (us:Lf),us.length=ps.length->bindArgs (PySem.W.fnOf m x (qK st) (zD st) (za st) .none kV doc pm an cdv ct) ⟨us,[]⟩=pure (ps.zip us))
  (l:K.lookup f=some ⟨.type "function",none,.func (PySem.W.fnOf m x (qK st) (zD st) (za st) .none .none .none pm none (.ref cd) .none),#[]⟩)
  (c:PySem.W.codeIn K (.ref cd) x=true) (k:PySem.W.keepIn K (.ref f)=true) (cl:Cls K C) (mt:Meth K C m f):Mdf K C m x st ps:=⟨f,_,kx l c k,(kx l c k).binds b,cl,mt⟩
theorem cdfm {K:Le}{mg:La}{h:Heap}{C:Addr}{y x:Str}{st:Stmt}{ps:Lh}{f cd:Addr}{pm:Value}(X:K.In h)(G:h.Ns mainGlobals mg)
  (b:∀ (kV doc pm:Value) (an:Option Addr) (cdv ct:Value) (us:Lf),us.length=ps.length->bindArgs (PySem.W.fnOf "__init__" x (qK st) (zD st) (za st) .none kV doc pm an cdv ct) ⟨us,[]⟩=pure (ps.zip us))
  (l:K.lookup f=some ⟨.type "function",none,.func (PySem.W.fnOf "__init__" x (qK st) (zD st) (za st) .none .none .none pm none (.ref cd) .none),#[]⟩)
  (c:PySem.W.codeIn K (.ref cd) x=true) (k:PySem.W.keepIn K (.ref f)=true) (a:PySem.W.nsIn K mainGlobals y=some (some (.ref C))) (mk:Mk K C f):Cdf K mg C y x st ps:=⟨f,_,kx l c k,(kx l c k).binds b,mk,Uj X G a⟩
theorem all_ok {l:PySem.W.OpenLaw}{w:World}{h:Heap}{mg:La}{fa:Addr}(X:(KH w.params).In h)(G:h.Ns mainGlobals mg)(hfa:mg "law" = some (.ref fa)) :
  ∃ fd:FuncData,(∀ (s:Shared) (v:Value),BindsTo s fd ⟨[v],[]⟩ [("_law_script",v)])/\∀ base:Heap,(KH w.params).In base->base.Ns mainGlobals mg->FnOk l.prog w (KH w.params) mg base CX0 46 fa fd ["_law_script"] (JM (KH w.params)):=by
 have C_Draft:Cls (KH w.params) 248:=⟨by kernel_rfl!,by kernel_rfl!,by kernel_rfl!,by kernel_rfl!⟩
 have C_Opened:Cls (KH w.params) 192:=⟨by kernel_rfl!,by kernel_rfl!,by kernel_rfl!,by kernel_rfl!⟩
 have C_Sheet:Cls (KH w.params) 150:=⟨by kernel_rfl!,by kernel_rfl!,by kernel_rfl!,by kernel_rfl!⟩
 have D_copied:Df (KH w.params) mg "copied" xc j8:=dfm (f:=101) (pm:=(.str "sealpress.pieces" 298)) (cd:=100) X G (fun _ _ _ _ _ _ us hl=>by obtain⟨_,rfl⟩:=len1 hl;rfl) (by kernel_rfl!) (by kernel_rfl!) (by kernel_rfl!) (by kernel_rfl!)
 have D_is_name:Df (KH w.params) mg "is_name" kO xA:=dfm (f:=113) (pm:=(.str "sealpress.signs" 316)) (cd:=112) X G (fun _ _ _ _ _ _ us hl=>by obtain⟨_,rfl⟩:=len1 hl;rfl) (by kernel_rfl!) (by kernel_rfl!) (by kernel_rfl!) (by kernel_rfl!)
 have D_need_text:Df (KH w.params) mg "need_text" vp jX:=dfm (f:=120) (pm:=(.str "sealpress.signs" 316)) (cd:=119) X G (fun _ _ _ _ _ _ us hl=>by obtain⟨_,rfl⟩:=len1 hl;rfl) (by kernel_rfl!) (by kernel_rfl!) (by kernel_rfl!) (by kernel_rfl!)
 have D_Sheet___init__:Cdf (KH w.params) mg 150 "Sheet" "Sheet.__init__" jB qy:=cdfm (f:=142) (pm:=(.str "sealpress.sheets" 339)) (cd:=141) X G (fun _ _ _ _ _ _ us hl=>by obtain⟨_,_,_,rfl⟩:=len3 hl;rfl) (by kernel_rfl!) (by kernel_rfl!) (by kernel_rfl!) (by kernel_rfl!) ⟨by kernel_rfl!,by kernel_rfl!,by kernel_rfl!,by kernel_rfl!⟩
 have D_Opened___init__:Cdf (KH w.params) mg 192 "Opened" "Opened.__init__" jj qo:=cdfm (f:=168) (pm:=(.str "sealpress.sheets" 339)) (cd:=167) X G (fun _ _ _ _ _ _ us hl=>by obtain⟨_,_,_,rfl⟩:=len3 hl;rfl) (by kernel_rfl!) (by kernel_rfl!) (by kernel_rfl!) (by kernel_rfl!) ⟨by kernel_rfl!,by kernel_rfl!,by kernel_rfl!,by kernel_rfl!⟩
 have D_Opened_add_piece:Mdf (KH w.params) 192 "add_piece" "Opened.add_piece" qX qf:=mdfm (f:=175) (pm:=(.str "sealpress.sheets" 339)) (cd:=174) (fun _ _ _ _ _ _ us hl=>by obtain⟨_,_,rfl⟩:=len2 hl;rfl) (by kernel_rfl!) (by kernel_rfl!) (by kernel_rfl!) C_Opened ⟨by kernel_rfl!,by kernel_rfl!,by kernel_rfl!⟩
 have D_Opened_takes_else:Mdf (KH w.params) 192 "takes_else" "Opened.takes_else" qO z9:=mdfm (f:=182) (pm:=(.str "sealpress.sheets" 339)) (cd:=181) (fun _ _ _ _ _ _ us hl=>by obtain⟨_,rfl⟩:=len1 hl;rfl) (by kernel_rfl!) (by kernel_rfl!) (by kernel_rfl!) C_Opened ⟨by kernel_rfl!,by kernel_rfl!,by kernel_rfl!⟩
 have D_Opened_whole:Mdf (KH w.params) 192 "whole" "Opened.whole" wm qS:=mdfm (f:=189) (pm:=(.str "sealpress.sheets" 339)) (cd:=188) (fun _ _ _ _ _ _ us hl=>by obtain⟨_,rfl⟩:=len1 hl;rfl) (by kernel_rfl!) (by kernel_rfl!) (by kernel_rfl!) C_Opened ⟨by kernel_rfl!,by kernel_rfl!,by kernel_rfl!⟩
 have D_Draft___init__:Cdf (KH w.params) mg 248 "Draft" "Draft.__init__" jC qz:=cdfm (f:=210) (pm:=(.str "sealpress.sheets" 339)) (cd:=209) X G (fun _ _ _ _ _ _ us hl=>by obtain⟨_,rfl⟩:=len1 hl;rfl) (by kernel_rfl!) (by kernel_rfl!) (by kernel_rfl!) (by kernel_rfl!) ⟨by kernel_rfl!,by kernel_rfl!,by kernel_rfl!,by kernel_rfl!⟩
 have D_Draft_is_outside:Mdf (KH w.params) 248 "is_outside" "Draft.is_outside" qY qg:=mdfm (f:=217) (pm:=(.str "sealpress.sheets" 339)) (cd:=216) (fun _ _ _ _ _ _ us hl=>by obtain⟨_,rfl⟩:=len1 hl;rfl) (by kernel_rfl!) (by kernel_rfl!) (by kernel_rfl!) C_Draft ⟨by kernel_rfl!,by kernel_rfl!,by kernel_rfl!⟩
 have D_Draft_can_stand:Mdf (KH w.params) 248 "can_stand" "Draft.can_stand" jk qp:=mdfm (f:=224) (pm:=(.str "sealpress.sheets" 339)) (cd:=223) (fun _ _ _ _ _ _ us hl=>by obtain⟨_,_,_,rfl⟩:=len3 hl;rfl) (by kernel_rfl!) (by kernel_rfl!) (by kernel_rfl!) C_Draft ⟨by kernel_rfl!,by kernel_rfl!,by kernel_rfl!⟩
 have D_Draft_begin_piece:Mdf (KH w.params) 248 "begin_piece" "Draft.begin_piece" qP qa:=mdfm (f:=231) (pm:=(.str "sealpress.sheets" 339)) (cd:=230) (fun _ _ _ _ _ _ us hl=>by obtain⟨_,_,_,rfl⟩:=len3 hl;rfl) (by kernel_rfl!) (by kernel_rfl!) (by kernel_rfl!) C_Draft ⟨by kernel_rfl!,by kernel_rfl!,by kernel_rfl!⟩
 have D_Draft_take:Mdf (KH w.params) 248 "take" "Draft.take" xy jH:=mdfm (f:=238) (pm:=(.str "sealpress.sheets" 339)) (cd:=237) (fun _ _ _ _ _ _ us hl=>by obtain⟨_,_,_,rfl⟩:=len3 hl;rfl) (by kernel_rfl!) (by kernel_rfl!) (by kernel_rfl!) C_Draft ⟨by kernel_rfl!,by kernel_rfl!,by kernel_rfl!⟩
 have D_Draft_ended:Mdf (KH w.params) 248 "ended" "Draft.ended" wM jl:=mdfm (f:=245) (pm:=(.str "sealpress.sheets" 339)) (cd:=244) (fun _ _ _ _ _ _ us hl=>by obtain⟨_,_,rfl⟩:=len2 hl;rfl) (by kernel_rfl!) (by kernel_rfl!) (by kernel_rfl!) C_Draft ⟨by kernel_rfl!,by kernel_rfl!,by kernel_rfl!⟩
 have D_is_own_name:Df (KH w.params) mg "is_own_name" wN jm:=dfm (f:=259) (pm:=(.str "sealpress.sheets" 339)) (cd:=258) X G (fun _ _ _ _ _ _ us hl=>by obtain⟨_,rfl⟩:=len1 hl;rfl) (by kernel_rfl!) (by kernel_rfl!) (by kernel_rfl!) (by kernel_rfl!)
 have D_token_of:Df (KH w.params) mg "token_of" yx wD:=dfm (f:=266) (pm:=(.str "sealpress.sheets" 339)) (cd:=265) X G (fun _ _ _ _ _ _ us hl=>by obtain⟨_,rfl⟩:=len1 hl;rfl) (by kernel_rfl!) (by kernel_rfl!) (by kernel_rfl!) (by kernel_rfl!)
 have D_token_at:Df (KH w.params) mg "token_at" yz wF:=dfm (f:=273) (pm:=(.str "sealpress.sheets" 339)) (cd:=272) X G (fun _ _ _ _ _ _ us hl=>by obtain⟨_,_,rfl⟩:=len2 hl;rfl) (by kernel_rfl!) (by kernel_rfl!) (by kernel_rfl!) (by kernel_rfl!)
 have D_sheet_read:Df (KH w.params) mg "sheet_read" xB jI:=dfm (f:=280) (pm:=(.str "sealpress.sheets" 339)) (cd:=279) X G (fun _ _ _ _ _ _ us hl=>by obtain⟨_,rfl⟩:=len1 hl;rfl) (by kernel_rfl!) (by kernel_rfl!) (by kernel_rfl!) (by kernel_rfl!)
 have D__law_cell_at:Df (KH w.params) mg "_law_cell_at" wo qT:=dfm (f:=287) (pm:=(.str "law_sealpress_k51_pieces_of_a_text" 578)) (cd:=286) X G (fun _ _ _ _ _ _ us hl=>by obtain⟨_,_,rfl⟩:=len2 hl;rfl) (by kernel_rfl!) (by kernel_rfl!) (by kernel_rfl!) (by kernel_rfl!)
 have D__law_mixed:Df (KH w.params) mg "_law_mixed" xC jJ:=dfm (f:=294) (pm:=(.str "law_sealpress_k51_pieces_of_a_text" 578)) (cd:=293) X G (fun _ _ _ _ _ _ us hl=>by obtain⟨_,_,rfl⟩:=len2 hl;rfl) (by kernel_rfl!) (by kernel_rfl!) (by kernel_rfl!) (by kernel_rfl!)
 have D__law_rest:Df (KH w.params) mg "_law_rest" vv jY:=dfm (f:=301) (pm:=(.str "law_sealpress_k51_pieces_of_a_text" 578)) (cd:=300) X G (fun _ _ _ _ _ _ us hl=>by obtain⟨_,rfl⟩:=len1 hl;rfl) (by kernel_rfl!) (by kernel_rfl!) (by kernel_rfl!) (by kernel_rfl!)
 have D__law_signs:Df (KH w.params) mg "_law_signs" xE jL:=dfm (f:=308) (pm:=(.str "law_sealpress_k51_pieces_of_a_text" 578)) (cd:=307) X G (fun _ _ _ _ _ _ us hl=>by obtain rfl:=len0 hl;rfl) (by kernel_rfl!) (by kernel_rfl!) (by kernel_rfl!) (by kernel_rfl!)
 have D__law_names:Df (KH w.params) mg "_law_names" xD jK:=dfm (f:=315) (pm:=(.str "law_sealpress_k51_pieces_of_a_text" 578)) (cd:=314) X G (fun _ _ _ _ _ _ us hl=>by obtain⟨_,_,rfl⟩:=len2 hl;rfl) (by kernel_rfl!) (by kernel_rfl!) (by kernel_rfl!) (by kernel_rfl!)
 have D__law_put:Df (KH w.params) mg "_law_put" yA wG:=dfm (f:=322) (pm:=(.str "law_sealpress_k51_pieces_of_a_text" 578)) (cd:=321) X G (fun _ _ _ _ _ _ us hl=>by obtain⟨_,_,rfl⟩:=len2 hl;rfl) (by kernel_rfl!) (by kernel_rfl!) (by kernel_rfl!) (by kernel_rfl!)
 have D__law_shut:Df (KH w.params) mg "_law_shut" vw jZ:=dfm (f:=329) (pm:=(.str "law_sealpress_k51_pieces_of_a_text" 578)) (cd:=328) X G (fun _ _ _ _ _ _ us hl=>by obtain⟨_,rfl⟩:=len1 hl;rfl) (by kernel_rfl!) (by kernel_rfl!) (by kernel_rfl!) (by kernel_rfl!)
 have D__law_literal:Df (KH w.params) mg "_law_literal" wq qU:=dfm (f:=336) (pm:=(.str "law_sealpress_k51_pieces_of_a_text" 578)) (cd:=335) X G (fun _ _ _ _ _ _ us hl=>by obtain⟨_,_,rfl⟩:=len2 hl;rfl) (by kernel_rfl!) (by kernel_rfl!) (by kernel_rfl!) (by kernel_rfl!)
 have D__law_opened:Df (KH w.params) mg "_law_opened" wO jo:=dfm (f:=343) (pm:=(.str "law_sealpress_k51_pieces_of_a_text" 578)) (cd:=342) X G (fun _ _ _ _ _ _ us hl=>by obtain⟨_,_,_,_,rfl⟩:=len4 hl;rfl) (by kernel_rfl!) (by kernel_rfl!) (by kernel_rfl!) (by kernel_rfl!)
 have D__law_word:Df (KH w.params) mg "_law_word" vy j0:=dfm (f:=348) (pm:=(.str "law_sealpress_k51_pieces_of_a_text" 578)) (cd:=347) X G (fun _ _ _ _ _ _ us hl=>by obtain⟨_,_,_,_,rfl⟩:=len4 hl;rfl) (by kernel_rfl!) (by kernel_rfl!) (by kernel_rfl!) (by kernel_rfl!)
 have D__law_token:Df (KH w.params) mg "_law_token" xF jM:=dfm (f:=355) (pm:=(.str "law_sealpress_k51_pieces_of_a_text" 578)) (cd:=354) X G (fun _ _ _ _ _ _ us hl=>by obtain⟨_,_,_,_,_,rfl⟩:=len5 hl;rfl) (by kernel_rfl!) (by kernel_rfl!) (by kernel_rfl!) (by kernel_rfl!)
 have D__law_made:Df (KH w.params) mg "_law_made" vA j5:=dfm (f:=362) (pm:=(.str "law_sealpress_k51_pieces_of_a_text" 578)) (cd:=361) X G (fun _ _ _ _ _ _ us hl=>by obtain⟨_,_,rfl⟩:=len2 hl;rfl) (by kernel_rfl!) (by kernel_rfl!) (by kernel_rfl!) (by kernel_rfl!)
 have D__law_stirred:Df (KH w.params) mg "_law_stirred" qj z6:=dfm (f:=369) (pm:=(.str "law_sealpress_k51_pieces_of_a_text" 578)) (cd:=368) X G (fun _ _ _ _ _ _ us hl=>by obtain⟨_,rfl⟩:=len1 hl;rfl) (by kernel_rfl!) (by kernel_rfl!) (by kernel_rfl!) (by kernel_rfl!)
 have D_law:Df (KH w.params) mg "law" zaJ JI:=dfm (f:=376) (pm:=(.str "law_sealpress_k51_pieces_of_a_text" 578)) (cd:=375) X G (fun _ _ _ _ _ _ us hl=>by obtain⟨_,rfl⟩:=len1 hl;rfl) (by kernel_rfl!) (by kernel_rfl!) (by kernel_rfl!) (by kernel_rfl!)
 have e_SIGNS:Str.ofString " !\"#$&'()*+,-./0123456789:;<=>?@ABCDEFGHIJKLMNOPQRSTUVWXYZ[\\]^_`abcdefghijklmnopqrstuvwxyz{|}~" = (S [32,33,34,35,36,38,39,40,41,42,43,44,45,46,47,48,49,50,51,52,53,54,55,56,57,58,59,60,61,62,63,64,65,66,67,68,69,70,71,72,73,74,75,76,77,78,79,80,81,82,83,84,85,86,87,88,89,90,91,92,93,94,95,96,97,98,99,100,101,102,103,104,105,106,107,108,109,110,111,112,113,114,115,116,117,118,119,120,121,122,123,124,125,126]):=by decide +kernel
 have e_LETTERS:Str.ofString "abcdefghijklmnopqrstuvwxyz" = (S [97,98,99,100,101,102,103,104,105,106,107,108,109,110,111,112,113,114,115,116,117,118,119,120,121,122]):=by decide +kernel
 have xl_LONE_TOKENS:(KH w.params).lookup 122=some ⟨.type "dict",none,.dict #[(en w.params "(" 354 (.ref 123)),(en w.params ")" 357 (.ref 124)),(en w.params "else" 360 (.ref 125)),(en w.params "end" 362 (.ref 126)),(en w.params "elder" 364 (.ref 127))] 5,#[]⟩:=by kernel_rfl!
 have xl_121:(KH w.params).lookup 121=some ⟨.type "tuple",none,.seq #[(.str "each" 345),(.str "if" 346),(.str "else" 347),(.str "end" 348),(.str "block" 349),(.str "elder" 350),(.str "draw" 351),(.str "over" 352)] 0,#[]⟩:=by kernel_rfl!
 have xl_123:(KH w.params).lookup 123=some ⟨.type "tuple",none,.seq #[(.str "lit" 355),(.str "{" 356)] 0,#[]⟩:=by kernel_rfl!
 have xl_124:(KH w.params).lookup 124=some ⟨.type "tuple",none,.seq #[(.str "lit" 358),(.str "}" 359)] 0,#[]⟩:=by kernel_rfl!
 have xl_125:(KH w.params).lookup 125=some ⟨.type "tuple",none,.seq #[(.str "else" 361)] 0,#[]⟩:=by kernel_rfl!
 have xl_126:(KH w.params).lookup 126=some ⟨.type "tuple",none,.seq #[(.str "end" 363)] 0,#[]⟩:=by kernel_rfl!
 have xl_127:(KH w.params).lookup 127=some ⟨.type "tuple",none,.seq #[(.str "elder" 365)] 0,#[]⟩:=by kernel_rfl!
 have xl_128:(KH w.params).lookup 128=some ⟨.type "tuple",none,.seq #[(.str "each" 372),(.str "if" 373),(.str "block" 374)] 0,#[]⟩:=by kernel_rfl!
 have T:Txt w (KH w.params) mg:=⟨⟨.str (Str.ofString " !\"#$&'()*+,-./0123456789:;<=>?@ABCDEFGHIJKLMNOPQRSTUVWXYZ[\\]^_`abcdefghijklmnopqrstuvwxyz{|}~") 318,Uj X G (by kernel_rfl!),⟨_,by rw [e_SIGNS]⟩⟩,⟨.str (Str.ofString "abcdefghijklmnopqrstuvwxyz") 320,Uj X G (by kernel_rfl!),⟨_,by rw [e_LETTERS]⟩⟩,⟨.int 8 322,Uj X G (by kernel_rfl!),⟨_,rfl⟩⟩,⟨.int 2000 341,Uj X G (by kernel_rfl!),⟨_,rfl⟩⟩,⟨.int 12 343,Uj X G (by kernel_rfl!),⟨_,rfl⟩⟩,Uj (v:=.ref 121) X G (by kernel_rfl!),⟨Uj (v:=.ref 122) X G (by kernel_rfl!),by decide,_,_,_,xl_LONE_TOKENS,⟨rfl,rfl,rfl⟩,rfl,by repeat' (first | exact EntK.nil | refine EntK.cons rfl rfl rfl ?_),by decide +kernel⟩,Uj (v:=.ref 128) X G (by kernel_rfl!),fun _=>.inr ⟨_,_,_,xl_121,rfl,rfl,by decide,by repeat' (first | exact .nil | refine .cons ⟨_,rfl⟩ ?_)⟩,fun _=>.inr ⟨_,_,_,xl_123,rfl,rfl,by decide,by repeat' (first | exact .nil | refine .cons ⟨_,rfl⟩ ?_)⟩,fun _=>.inr ⟨_,_,_,xl_124,rfl,rfl,by decide,by repeat' (first | exact .nil | refine .cons ⟨_,rfl⟩ ?_)⟩,fun _=>.inr ⟨_,_,_,xl_125,rfl,rfl,by decide,by repeat' (first | exact .nil | refine .cons ⟨_,rfl⟩ ?_)⟩,fun _=>.inr ⟨_,_,_,xl_126,rfl,rfl,by decide,by repeat' (first | exact .nil | refine .cons ⟨_,rfl⟩ ?_)⟩,fun _=>.inr ⟨_,_,_,xl_127,rfl,rfl,by decide,by repeat' (first | exact .nil | refine .cons ⟨_,rfl⟩ ?_)⟩,fun _=>.inr ⟨_,_,_,xl_128,rfl,rfl,by decide,by repeat' (first | exact .nil | refine .cons ⟨_,rfl⟩ ?_)⟩,Uc X G (by kernel_rfl!),Uc X G (by kernel_rfl!),Uc X G (by kernel_rfl!),Uc X G (by kernel_rfl!),Uc X G (by kernel_rfl!),Uc X G (by kernel_rfl!),Uc X G (by kernel_rfl!),Uc X G (by kernel_rfl!),Uc X G (by kernel_rfl!),⟨C_Sheet,by show _=_;kernel_rfl!⟩,⟨C_Sheet,by show _=_;kernel_rfl!⟩,⟨C_Opened,by show _=_;kernel_rfl!⟩,⟨C_Opened,by show _=_;kernel_rfl!⟩,⟨C_Opened,by show _=_;kernel_rfl!⟩,⟨C_Draft,by show _=_;kernel_rfl!⟩,⟨C_Draft,by show _=_;kernel_rfl!⟩,⟨C_Draft,by show _=_;kernel_rfl!⟩,⟨Uj (v:=.ref 150) X G (by kernel_rfl!),C_Sheet,by kernel_rfl!,by kernel_rfl!,by kernel_rfl!,by kernel_rfl!,by kernel_rfl!⟩⟩
 refine zdC D_law hfa (fun _ _ _ _ _ _ s v=>.of_eq rfl) fun base=>?_
 have zM:=Yz (P:=l.prog) (w:=w) (base:=base) T D_copied
 have zr:=km (P:=l.prog) (w:=w) (base:=base) T D_Sheet___init__ zM
 have qG:=JO (P:=l.prog) (w:=w) (base:=base) T D_need_text
 have zx:=yG (P:=l.prog) (w:=w) (base:=base) T D_Opened___init__
 have zN:=kn (P:=l.prog) (w:=w) (base:=base) T D_Draft___init__ zx
 have zA:=v8 (P:=l.prog) (w:=w) (base:=base) T D_Opened_add_piece
 have zo:=vR (P:=l.prog) (w:=w) (base:=base) T D_Opened_takes_else
 have zY:=Zc (P:=l.prog) (w:=w) (base:=base) T D_Opened_whole zo
 have zl:=v9 (P:=l.prog) (w:=w) (base:=base) T D_Draft_is_outside
 have zk:=yH (P:=l.prog) (w:=w) (base:=base) T D_Draft_can_stand zo zl
 have zE:=vS (P:=l.prog) (w:=w) (base:=base) T D_Draft_begin_piece zx
 have zW:=QA (P:=l.prog) (w:=w) (base:=base) T D_Draft_take zA zY zk zE
 have qe:=Qi (P:=l.prog) (w:=w) (base:=base) T D_Draft_ended zr zl
 have qL:=XZ (P:=l.prog) (w:=w) (base:=base) T D_is_name
 have zX:=Qj (P:=l.prog) (w:=w) (base:=base) T D_is_own_name qL
 have zO:=W4 (P:=l.prog) (w:=w) (base:=base) T D_token_of qL zX
 have qq:=W5 (P:=l.prog) (w:=w) (base:=base) T D_token_at zO
 have qb:=QB (P:=l.prog) (w:=w) (base:=base) T D_sheet_read qG zN zW qe qq
 have zB:=Qk (P:=l.prog) (w:=w) (base:=base) T D__law_cell_at
 have zG:=JP (P:=l.prog) (w:=w) (base:=base) T D__law_mixed
 have zP:=JQ (P:=l.prog) (w:=w) (base:=base) T D__law_names zG
 have qH:=W6 (P:=l.prog) (w:=w) (base:=base) T D__law_rest zG
 have zC:=X0 (P:=l.prog) (w:=w) (base:=base) T D__law_put
 have qc:=W7 (P:=l.prog) (w:=w) (base:=base) T D__law_shut zC
 have qr:=JR (P:=l.prog) (w:=w) (base:=base) T D__law_signs
 have zZ:=Ql (P:=l.prog) (w:=w) (base:=base) T D__law_literal qr zC
 have zQ:=QC (P:=l.prog) (w:=w) (base:=base) T D__law_opened
 have qI:=W8 (P:=l.prog) (w:=w) (base:=base) T D__law_word zC qc
 have qt:=JS (P:=l.prog) (w:=w) (base:=base) T D__law_token zZ zQ qI
 have qJ:=W9 (P:=l.prog) (w:=w) (base:=base) T D__law_made zB qH zP qc qt
 have zh:=Qm (P:=l.prog) (w:=w) (base:=base) T D__law_stirred
 have zcQ:=ze0 (P:=l.prog) (w:=w) (base:=base) T D_law zM zr qb zB zP qJ zh
 exact zcQ
theorem walk {l:PySem.W.OpenLaw}{q:Program}{loose:Lh}{XP:(La)->Heap->Prop}{YP:World->Heap->Prop}{d:DefRec}{K:Params->Le}(hn:l.most=some 63)(hdf:d.params.defaults=[])
  (hY:∀ (w:World) (h:Heap),YP w h->(K w.params).In h)
  (F:∀ (w:World) (mg:La) (fa:Addr) (h:Heap),(K w.params).In h->h.Ns mainGlobals mg->mg d.name=some (.ref fa) ->
   ∃ fd:FuncData,(∀ (s:Shared) (u:Value),BindsTo s fd ⟨[u],[]⟩ [("_law_script",u)])/\∀ base:Heap,(K w.params).In base->base.Ns mainGlobals mg->FnOk l.prog w (K w.params) mg base CX0 46 fa fd ["_law_script"] (JM (K w.params))) :
  PySem.W.WalkO q loose XP YP l.row.toRowW d [] (fun f vs=>PySem.call f vs):=
 L2.zbr (n:=63) (k:=46) (x:="_law_script") (CX:=fun _=>CX0) (sp:=fun w=>JM (K w.params)) hn (by decide) hdf ⟨rfl,by decide,by decide,rfl⟩ hY F (fun _ _ a ns hl _ hS=>⟨a,ns,rfl,hS,hl,fun _=>rfl⟩) fun _ _ _ _ _ z=>z
end My
open PySem PySem.W PyProof.Rows
set_option maxRecDepth 100000 in
set_option maxHeartbeats 0 in
theorem PySem.Challenge.cw_sealpress_k51_pieces_of_a_text_holds : PySem.Challenge.rw_sealpress_k51_pieces_of_a_text.Holds := by
  w_on; o_law
  refine PySem.W.holds_open (q := My.qvw) (loose := My.loose0) (Xt := My.Xt0) (XP := XL My.qvw []) (Yf := Hook.obs My.HK) (Ya := Hook.val My.HK) (YP := Hook.says My.HK) (N := 3223) My.left (Hook.of My.HK) (Hook.keeps My.HK) (fun s e => xl_of s (Bool.and_eq_true_iff.mp e).1) XL.keeps (by rfl) (by rfl) (by rfl) (fun s e => recFacts_of (Bool.and_eq_true_iff.mp e).2) (by rfl) (by first | assumption | decide +kernel) (by decide +kernel) ⟨rfl, rfl, rfl, rfl, rfl, by decide +kernel⟩ ?hw ?hc
  (case hw => w_witness2)
  exact My.walk (l := PySem.Challenge.rw_sealpress_k51_pieces_of_a_text) rfl rfl (fun w h Y => PySem.W.kIn_of Y) (fun w mg fa h KX G hmg => My.all_ok KX G hmg)
