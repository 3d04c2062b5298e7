import PyProof.Rows.All
import Wide.All
import OpenK.AllK
import Wide.FinOn
import Lean
import PyProof.EqAt
import PyProof.EqKinds
import PyProof.TupleCall
import PyProof.Draws
import PyProof.EnumMake
import PyProof.NeKinds
import PyProof.ZipIter
import PyProof.Rows.ZipGen
import PyProof.ReprRoads
import KE.KRevIter
import PyProof.StrLawsReplace
import PyProof.ToksMono
import PyProof.SliceList
import KE.KEqDict
import PySem.Challenge.RW_sealpress_k76_whole_just_where_all_ways
set_option linter.all false
set_option genSizeOf false
set_option backward.match.sparseCases false
set_option compiler.extract_closed false
set_option bootstrap.genMatcherCode false
abbrev La:=PySem.Str->Option PySem.Value
abbrev Lc:=List Nat
abbrev Ld:=List PySem.Addr
abbrev Le:=PySem.W.Frag
abbrev Lf:=List PySem.Value
abbrev Lg:=List PySem.Expr
abbrev Lh:=List PySem.Str
abbrev ua:=@PySem.wpAny_bind
abbrev ub:=@if_neg
abbrev uc:=@PySem.Heap.get?_push_of_some
abbrev ud:=@PySem.wpAny_pure
abbrev ue:=@PySem.Heap.lt_size
abbrev uf:=@if_pos
abbrev ug:=@List.length_append
abbrev uh:=@List.size_toArray
abbrev ui:=@PySem.W.mg_of
abbrev uj:=@PySem.wpAny_mono
abbrev uk:=@Nat.le_refl
abbrev um:=@PySem.Heap.get?_push_size
abbrev uo:=@PySem.Heap.get?_update_other
abbrev uq:=@Nat.lt_of_lt_of_le
abbrev ur:=@List.length_singleton
abbrev uu:=@List.length_cons
abbrev uw:=@List.getElem?_eq_getElem
abbrev ux:=@Nat.le_trans
abbrev uy:=@List.mem_cons
abbrev uz:=@List.append_nil
abbrev uA:=@Bool.false_ne_true
abbrev uB:=@Option.some.inj
abbrev uC:=@PySem.mem_of_lookup
abbrev uD:=@List.map_cons
abbrev uE:=@List.mem_append_right
abbrev uF:=@List.getElem?_eq_some_iff
abbrev uG:=@PySem.wpAny_loadPart_at
abbrev uH:=@PySem.sizeLine_eq
abbrev uI:=@Bool.and_eq_true
abbrev uJ:=@PySem.wpAny_field
abbrev uK:=@decide_eq_false
abbrev uL:=@PySem.F.plainAttrs_list
abbrev uM:=@Nat.lt_irrefl
abbrev uN:=@PySem.F.slot_list_append
abbrev uO:=@PySem.F.type_list_append
abbrev uP:=@List.mem_cons_of_mem
abbrev uQ:=@decide_eq_true
abbrev uR:=@Option.map_some
abbrev uS:=@List.length_map
abbrev uT:=@beq_eq_false_iff_ne
abbrev uU:=@PySem.Heap.get?_update_self
abbrev uV:=@PySem.wpAny_Call_Name_kw
abbrev uW:=@List.mem_append_left
abbrev uX:=@PySem.wpAny_holding
abbrev uY:=@List.lookup_cons
abbrev uZ:=@List.mem_of_getElem?
abbrev u0:=@PySem.W.mg_none_of
abbrev u4:=@List.cons_append
abbrev u5:=@PySem.wpAny_standAt
abbrev u6:=@Array.getElem?_eq_some_iff
abbrev u7:=@List.mem_singleton
abbrev u9:=@Nat.mul_le_mul_right
abbrev Ua:=@PySem.wpAny_call
abbrev Ub:=@PySem.Value.ref.inj
abbrev Uc:=@Nat.ne_of_lt
abbrev Ud:=@List.nil_append
abbrev Ue:=@PySem.codeAny_mono
abbrev Ug:=@PySem.W.callWith_K
abbrev Uh:=@PySem.wpAny_newObj_type
abbrev Ui:=@List.any_cons
abbrev Uj:=@decide_eq_true_eq
abbrev Uk:=@beq_iff_eq
abbrev Ul:=@List.length_take
abbrev Um:=@List.getElem?_map
abbrev Uo:=@Nat.zero_le
abbrev Up:=@Nat.one_mul
abbrev Uq:=@beq_self_eq_true
abbrev Ur:=@List.getElem?_eq_none_iff
abbrev Us:=@Option.some.injEq
abbrev Ut:=@PySem.wpAny_setField
abbrev Uu:=@Prod.mk.injEq
abbrev Uv:=@PySem.wpAny_truthy_bool
abbrev Uw:=@Nat.mul_le_mul
abbrev Ux:=@List.mem_cons_self
abbrev Uy:=@Bool.false_eq_true
abbrev Uz:=@Bool.or_true
abbrev UA:=@List.mem_append
abbrev UB:=@Bool.eq_iff_iff
abbrev UC:=@Array.getElem?_setIfInBounds
abbrev UD:=@List.map_append
abbrev UE:=@PySem.wpAny_passesOwn
abbrev UG:=@PySem.W.methodCall_KW
abbrev UH:=@List.append_assoc
abbrev UI:=@List.take_add_one
abbrev UJ:=@Option.bind_some
abbrev UK:=@Nat.le_of_eq
abbrev UL:=@PySem.plainObj_wpAny_Assign_Attribute
abbrev UM:=@List.getElem_mem
abbrev UN:=@List.getElem?_append_left
abbrev UO:=@PySem.wpAny_isSubtype_exc
abbrev UP:=@List.drop_eq_getElem_cons
abbrev UQ:=@PySem.Obj.data_mapFields
abbrev UR:=@List.nodup_cons
abbrev US:=@List.find?_cons
abbrev UT:=@Except.ok.injEq
abbrev UU:=@List.foldl_cons
abbrev UW:=@List.contains_cons
abbrev UX:=@PySem.wpAny_assign_Name
abbrev UY:=@Bool.false_and
abbrev UZ:=@PySem.W.cellsFrom_some
abbrev U0:=@PySem.wpAny_newFunctionEnv_cells
abbrev U1:=@Bool.and_false
abbrev U2:=@List.drop_zero
abbrev U3:=@List.append_eq_nil_iff
abbrev U4:=@PySem.wpAny_execs_nil
abbrev U5:=@List.take_length
abbrev U6:=@Nat.mul_assoc
abbrev U7:=@Bool.or_eq_false_iff
abbrev U8:=@List.of_mem_zip
abbrev U9:=@List.length_nil
abbrev gb:=@List.filterMap_cons
abbrev gc:=@Nat.le_of_lt
abbrev gf:=@PySem.codeAny_call_function
abbrev gh:=@Bool.true_or
abbrev gi:=@PySem.Heap.get?_none_of_le
abbrev gj:=@List.getElem?_append_right
abbrev gk:=@if_false
abbrev gm:=@PySem.wpAny_typeOf
abbrev gn:=@PySem.codeAny_call_builtin
abbrev gp:=@List.isPrefixOf_iff_prefix
abbrev gq:=@List.filter_append
abbrev gr:=@PySem.F.args_tuple_add_2
abbrev gu:=@Bool.or_false
abbrev gw:=@Bool.and_true
abbrev gx:=@Prod.ext
abbrev gy:=@PySem.W.any_some
abbrev gz:=@PySem.F.entry_tuple_add
abbrev gA:=@PySem.call_meets
abbrev gB:=@List.all_eq_true
abbrev gC:=@Nat.le_mul_of_pos_right
abbrev gD:=@PySem.noFill_tuple_add
abbrev gE:=@PySem.F.slot_tuple_add
abbrev gF:=@List.map_nil
abbrev gG:=@List.take_of_length_le
abbrev gI:=@List.mem_map
abbrev gJ:=@Nat.zero_add
abbrev gK:=@Nat.not_lt_zero
abbrev gL:=@PySem.W.looks_findIn
abbrev gN:=@PySem.Heap.size_push
abbrev gO:=@PySem.arm_exec_Raise
abbrev gP:=@Nat.add_mul
abbrev gQ:=@Array.length_toList
abbrev gR:=@PySem.W.plainGet_of
abbrev gS:=@PySem.W.callWith_K0
abbrev gT:=@PySem.seq_tuple_add
abbrev gU:=@PySem.W.looks_mroIn
abbrev gW:=@PySem.strLen_append
abbrev gX:=@List.replicate_succ
abbrev gY:=@PyProof.Rows.subscriptTail_builtinR
abbrev gZ:=@List.all_cons
abbrev g8:=@PySem.W.codeRec_of
abbrev g9:=@PySem.codeAny_func
abbrev Ga:=@PySem.concat_meets
abbrev Gb:=@PySem.seqIndex_neg
abbrev Gd:=@Array.append_empty
abbrev Ge:=@Nat.ne_of_gt
abbrev Gf:=@PySem.W.set_plain
abbrev Gg:=@PyProof.Rows.entry_tuple_getitem
abbrev Gh:=@PySem.seqIndex_of
abbrev Gi:=@List.flatten_cons
abbrev Gj:=@PyProof.Rows.args_tuple_getitem
abbrev Gk:=@PySem.wpAny_Name
abbrev Gm:=@List.length_drop
abbrev Gn:=@PySem.typeIs_int
abbrev Gp:=@PySem.wpAny_comprehension_free
abbrev Gq:=@List.not_mem_nil
abbrev Gs:=@List.filter_cons
abbrev Gu:=@Nat.le_succ
abbrev Gv:=@PySem.wpAny_callSpecial?_slot
abbrev Gw:=@Nat.mul_add
abbrev Gx:=@PySem.codeAny_compStart_list
abbrev Gy:=@List.any_append
abbrev Gz:=@PyProof.Rows.slicePart_none
abbrev GB:=@PySem.Obj.isFreed_of_fields
abbrev GC:=@PyProof.Rows.joinParts_cons
abbrev GD:=@Int.fdiv_eq_ediv_of_nonneg
abbrev GF:=@PyProof.Rows.tupleItemsOf_
abbrev GG:=@PySem.wpAny_newFunctionEnv
abbrev GH:=@Nat.not_lt
abbrev GI:=@PySem.F.excBase_ValueError
abbrev GJ:=@List.getD_eq_getElem?_getD
abbrev GK:=@PyProof.Rows.isTrue_plain
abbrev GL:=@PySem.Heap.SameBut.update
abbrev GN:=@PySem.Heap.get?_update_ne
abbrev GO:=@List.getElem?_zip_eq_some
abbrev GP:=@List.getElem?_take_of_lt
abbrev GQ:=@PyProof.Rows.isTrue_and
abbrev GR:=@PySem.Heap.Ns1.of_empty
abbrev GS:=@List.getElem?_replicate
abbrev GU:=@PySem.wpAny_sequenceKey
abbrev GV:=@PySem.F.attr_ValueError
abbrev GW:=@PySem.wpAny_pyIter_enum
set_option Elab.async false
set_option linter.all false
set_option maxRecDepth 100000
set_option maxHeartbeats 0
namespace PySem.W.Fast
noncomputable def tw11153905948700119535:PySem.Program:=PySem.Challenge.pw_sealpress_k76_whole_just_where_all_ways
theorem te11153905948700119535:PySem.Challenge.pw_sealpress_k76_whole_just_where_all_ways=tw11153905948700119535:=rfl
end PySem.W.Fast
namespace L2
open PySem PySem.W
theorem left_run {p q:Program}{loose:Lh}{Xt:Shared->Bool}{α:Type}{Yf:Shared->α}{Ya:World->α}{N M m0:Nat}{ann:Option Value}{H0:Params->Heap}{g0:Array GenState}{d0:Drawn}{k0:Nat}
  (hb:∀ w:World,(fencedOpening treeTable p w N).map (λs=>(s.heap,s.gens,s.drawn,s.toks))=some (H0 w.params,g0,d0,k0))
  (hz:∀ w:World,((H0 w.params).isNs mainGlobals&&g0.size == 0,(H0 w.params).objs.size,(H0 w.params).nsMap mainGlobals "__annotations__")=(true,m0,ann))
  (hr:∀ (w:World) (os:OsState),∃ s:Shared,topRun treeTable p w m0 ann M ⟨H0 w.params,g0,d0,k0,os⟩ (topStub p)=some s /\
   (staticsOk (importedModules p.main.body) (H0 w.params) s.heap&&namesBound p s.heap&&gensDone s&&laidKept (H0 w.params) s.heap)=true/\openSeen q loose (importedModules p.main.body) Xt true s=openGood q loose/\Yf s=Ya w)
  (hn:M<=N):LeftO p q loose Xt Yf Ya N:=λw=>by
 obtain⟨s0,e,e'⟩:=Option.map_eq_some_iff.mp (hb w)
 obtain⟨h,gs,d,k,os⟩:=s0
 simp only [Uu] at e'
 obtain⟨rfl,rfl,rfl,rfl⟩:=e'
 obtain⟨s,r,l1,l2,l3⟩:=hr w os
 have z:=hz w
 simp only [Uu] at z
 obtain⟨z1,z2,z3⟩:=z
 obtain⟨x,rfl⟩:=Nat.exists_eq_add_of_le hn
 have r':=topRun_mono x _ _ _ _ r
 have t:topFrom treeTable p w (M+x) ⟨H0 w.params,gs,d,k,os⟩=some s:=by
  unfold topFrom
  simp only [z1,z2,z3,r',UJ,l1]
 unfold openEnds
 rw [e,UJ,t,uR,l2,l3]
end L2
namespace My
open PySem PySem.W
abbrev pw:Program:=PySem.Challenge.pw_sealpress_k76_whole_just_where_all_ways
noncomputable def tp (i:Nat):Stmt:=pw.main.body.getD i (.Pass ⟨0,0,0,0⟩)
noncomputable def tc (i j:Nat):Stmt:=match tp i with
 | .ClassDef _ _ _ body _ _ _ _ _ _ _=>body.getD j (.Pass ⟨0,0,0,0⟩)
 | _=>.Pass ⟨0,0,0,0⟩
noncomputable def fnO (s:Stmt)(nm q:Str)(g:Addr)(cl:List (Str×Addr))(df kd dc pm:Value)(an:Option Addr)(cd ct:Value)(bl:Addr):Data:=match s with
 | .FunctionDef _ a b _ _ _ sc _ _ _=>.func ⟨nm,q,a,.stmts b,sc,g,cl,df,kd,dc,pm,an,cd,ct,bl⟩
 | _=>.plain
noncomputable def en (P:Params)(k:Str)(t:Nat)(v:Value):DictEntry:=⟨PyData.keyHash P k,.str k t,v⟩
noncomputable def o11 (_:Params):Obj:={ cls:=.type "tuple",data:=.seq #[] }
noncomputable def o12 (_:Params):Obj:={ cls:=.none,data:=.fields #[] }
noncomputable def o13 (_:Params):Obj:={ cls:=.type "code",data:=.fields #[.str "<module>" 182,.str "<module>" 183,.str "/claim/cut.py" 184,.int 1 0,.int 0 0,.int 0 0,.int 0 0,.int 0 0,.ref 11,.bool false,.int 181 0,.ref 12,.none,.none,.none,.none,.int 185 0,.int 1 0,.str "/claim/cut.py" 186] }
noncomputable def o14 (_:Params):Obj:={ cls:=.type "frame",slots:=#[some (.ref 13),some (.ref 3),some (.ref 3),none,some (.str "__main__" 164),none,some (.ref 0)] }
noncomputable def cM (n q:Str)(a:Nat)(l g k:Int)(r:Addr)(f:Bool)(b:Addr)(x y z w:Value)(t:Nat):Obj:=⟨.type "code",none,.fields #[.str n a,.str q (a+1),.str "/claim/cut.py" (a+2),.int l 0,.int g 0,.int 0 0,.int 0 0,.int k 0,.ref r,.bool f,.int 181 0,.ref b,x,y,z,w,.int t 0,.int l 0,.str "/claim/cut.py" (t+1)],#[]⟩
noncomputable def cS (n q:Str)(a:Nat)(l g:Int)(r t:Nat):Obj:=cM n q a l g 3 r true (r+1) .none (.ref (r+2)) (.ref (r+3)) (.ref (r+4)) t
noncomputable def cN (n:Str)(a:Nat)(l g:Int)(r t:Nat):Obj:=cS n n a l g r t
noncomputable def cK (n:Str)(a:Nat)(l:Int)(r t:Nat):Obj:=cM n n a l 0 0 r false (r+1) .none .none .none .none t
noncomputable def fM (s:Stmt)(n q:Str)(m:Value)(c:Addr):Obj:=⟨.type "function",none,fnO s n q 3 [] .none .none .none m none (.ref c) .none 0,#[]⟩
noncomputable def gM (s:Stmt)(n q:Str):Obj:=⟨.none,none,fnO s n q 0 [] .none .none .none .none none .none .none 0,#[]⟩
noncomputable def rM (a c:Addr)(v:Value):Obj:=⟨.type "frame",none,.plain,#[some (.ref a),some (.ref 3),some (.ref c),none,some v,none,some (.ref 0)]⟩
noncomputable def dO (a:Array DictEntry)(n:Nat):Obj:=⟨.type "dict",none,.dict a n,#[]⟩
noncomputable def tO (a:Array Value):Obj:=⟨.type "tuple",none,.seq a 0,#[]⟩
noncomputable def pO (a:Array Value):Obj:=⟨.none,none,.fields a,#[]⟩
noncomputable def sO (a:Addr):Obj:=⟨.type "super",none,.fields #[.ref a,.ref a,.ref a],#[]⟩
noncomputable def kO (n:Str)(c b d x i j:Nat):Obj:=⟨.type "type",none,.cls ⟨n,[.ref b],[.ref c,.ref b,.type "ValueError",.type "Exception",.type "BaseException",.type "object"],d,n,true,[],[],false,none,false⟩,#[some (.ref x),none,some (.str n i),some (.str n j),some (.builtin "ValueError.__new__"),some (.bool true)]⟩
noncomputable abbrev m0:Value:=.str "sealpress.errors" 187
noncomputable abbrev m1:Value:=.str "sealpress.signs" 688
noncomputable abbrev m2:Value:=.str "sealpress.places" 715
noncomputable abbrev m3:Value:=.str "sealpress.talks" 729
noncomputable abbrev m4:Value:=.str "sealpress.modes" 760
noncomputable abbrev m5:Value:=.str "sealpress.steps" 1085
noncomputable abbrev m6:Value:=.str "sealpress.looker" 1128
noncomputable abbrev m7:Value:=.str "law_sealpress_k76_whole_just_where_all_ways" 1322
noncomputable def x0 (P:Params):Obj:=dO #[en P "__name__" 165 (.str "sealpress.modes" 760),en P "__doc__" 166 .none,en P "__package__" 167 .none,en P "__loader__" 168 (.builtin "__main__.__loader__#opaque"),en P "__spec__" 169 .none,en P "__annotations__" 170 (.ref 6),en P "__builtins__" 171 (.ref 4),en P "__file__" 173 (.str "/claim/cut.py" 172),en P "__cached__" 174 .none,en P "SealError" 206 (.ref 24),en P "NoSign" 231 (.ref 44),en P "NoCode" 256 (.ref 63),en P "Unread" 281 (.ref 82),en P "Unended" 297 (.ref 94),en P "NoPage" 322 (.ref 113),en P "NoName" 347 (.ref 132),en P "NoSheet" 372 (.ref 151),en P "Twice" 397 (.ref 170),en P "TooMany" 413 (.ref 182),en P "Unknown" 438 (.ref 201),en P "RingOver" 463 (.ref 220),en P "Ringed" 488 (.ref 239),en P "NoElder" 513 (.ref 258),en P "Astray" 540 (.ref 277),en P "NoPlace" 567 (.ref 296),en P "Unlike" 596 (.ref 315),en P "LeftOpen" 621 (.ref 334),en P "NoValue" 646 (.ref 353),en P "NoKind" 671 (.ref 372),en P "NoRow" 687 (.ref 384),en P "SIGNS" 691 (.str " !\"#$&'()*+,-./0123456789:;<=>?@ABCDEFGHIJKLMNOPQRSTUVWXYZ[\\]^_`abcdefghijklmnopqrstuvwxyz{|}~" 690),en P "FIGURES" 693 (.str "0123456789" 692),en P "LETTERS" 695 (.str "abcdefghijklmnopqrstuvwxyz" 694),en P "LONGEST_NAME" 697 (.int 8 696),en P "sign_of" 704 (.ref 393),en P "sign_told" 712 (.ref 400),en P "WORDSIGNS" 714 (.str "abcdefghijklmnopqrstuvwxyz0123456789-" 713),en P "PLACE_MODES" 721 (.ref 401),en P "place_of" 728 (.ref 408),en P "fed_between" 737 (.ref 415),en P "fed_word" 744 (.ref 422),en P "fed_said" 751 (.ref 429),en P "feed" 759 (.ref 436),en P "ASIS_END" 763 (.str "</asis>" 762),en P "MARK_FIGURES" 765 (.int 2 764),en P "come_to" 774 (.ref 443),en P "told" 783 (.ref 450),en P "gathered" 794 (.ref 457),en P "box_shut" 802 (.ref 464),en P "into_box" 811 (.ref 471),en P "led_on" 820 (.ref 478),en P "fed" 830 (.ref 485),en P "mark_ended" 838 (.ref 492),en P "at_text" 848 (.ref 499),en P "at_mark" 858 (.ref 506),en P "at_open" 868 (.ref 513),en P "at_name" 878 (.ref 520),en P "at_slash" 888 (.ref 527),en P "at_shut" 898 (.ref 534),en P "at_gap" 908 (.ref 541),en P "at_attr" 918 (.ref 548),en P "at_is" 928 (.ref 555),en P "at_bang" 938 (.ref 562),en P "at_bare" 948 (.ref 569),en P "at_code" 958 (.ref 576),en P "at_row" 968 (.ref 583),en P "at_stroke" 978 (.ref 590),en P "at_quoted" 988 (.ref 597),en P "at_qmark" 998 (.ref 604),en P "at_done" 1008 (.ref 611),en P "at_talk" 1018 (.ref 618),en P "at_tmark" 1028 (.ref 625),en P "at_asis" 1034 (.ref 630)] 73
noncomputable def x1:Obj:=pO #[.int 2 0,.int 0 0,.ref 20,.int 4 0,.int 0 0,.ref 33,.int 9 0,.int 0 0,.ref 52,.int 14 0,.int 0 0,.ref 71,.int 19 0,.int 0 0,.ref 90,.int 21 0,.int 0 0,.ref 102,.int 26 0,.int 0 0,.ref 121,.int 31 0,.int 0 0,.ref 140,.int 36 0,.int 0 0,.ref 159,.int 41 0,.int 0 0,.ref 178,.int 43 0,.int 0 0,.ref 190,.int 48 0,.int 0 0,.ref 209,.int 53 0,.int 0 0,.ref 228,.int 58 0,.int 0 0,.ref 247,.int 63 0,.int 0 0,.ref 266,.int 69 0,.int 0 0,.ref 285,.int 75 0,.int 0 0,.ref 304,.int 82 0,.int 0 0,.ref 323,.int 87 0,.int 0 0,.ref 342,.int 92 0,.int 0 0,.ref 361,.int 97 0,.int 0 0,.ref 380,.int 104 0,.int 0 0,.ref 392,.int 106 0,.int 0 0,.ref 399,.int 114 0,.int 0 0,.ref 407,.int 119 0,.int 0 0,.ref 414,.int 127 0,.int 0 0,.ref 421,.int 131 0,.int 0 0,.ref 428,.int 137 0,.int 0 0,.ref 435,.int 150 0,.int 0 0,.ref 442,.int 152 0,.int 0 0,.ref 449,.int 156 0,.int 0 0,.ref 456,.int 160 0,.int 0 0,.ref 463,.int 164 0,.int 0 0,.ref 470,.int 169 0,.int 0 0,.ref 477,.int 177 0,.int 0 0,.ref 484,.int 182 0,.int 0 0,.ref 491,.int 184 0,.int 0 0,.ref 498,.int 190 0,.int 0 0,.ref 505,.int 194 0,.int 0 0,.ref 512,.int 200 0,.int 0 0,.ref 519,.int 204 0,.int 0 0,.ref 526,.int 208 0,.int 0 0,.ref 533,.int 214 0,.int 0 0,.ref 540,.int 218 0,.int 0 0,.ref 547,.int 230 0,.int 0 0,.ref 554,.int 234 0,.int 0 0,.ref 561,.int 238 0,.int 0 0,.ref 568,.int 244 0,.int 0 0,.ref 575,.int 248 0,.int 0 0,.ref 582,.int 256 0,.int 0 0,.ref 589,.int 258 0,.int 0 0,.ref 596,.int 264 0,.int 0 0,.ref 603,.int 268 0,.int 0 0,.ref 610,.int 270 0,.int 0 0,.ref 617,.int 276 0,.int 0 0,.ref 624,.int 280 0,.int 0 0,.ref 629]
noncomputable def x2:Obj:=tO #[.type "ValueError"]
noncomputable def x3:Obj:=⟨(.type "builtin_function_or_method"),none,(.fields #[.builtin "type.__prepare__",.type "type"]),#[]⟩
noncomputable def x4 (P:Params):Obj:=dO #[en P "__module__" 196 (.str "sealpress.errors" 187),en P "__qualname__" 198 (.str "SealError" 197),en P "__firstlineno__" 200 (.int 2 199),en P "__static_attributes__" 201 (.ref 22)] 4
noncomputable def x5:Obj:=tO #[]
noncomputable def x6:Obj:=pO #[]
noncomputable def x7:Obj:=cK "SealError" 191 2 18 194
noncomputable def x8:Obj:=rM 20 17 m0
noncomputable def x9 (P:Params):Obj:=dO #[en P "__module__" 196 m0,en P "__firstlineno__" 200 (.int 2 199),en P "__static_attributes__" 201 (.ref 22),en P "__weakref__" 203 (.ref 25),en P "__doc__" 204 .none] 3
noncomputable def x10:Obj:=⟨(.type "type"),none,(.cls ⟨"SealError",[.type "ValueError"],[.ref 24,.type "ValueError",.type "Exception",.type "BaseException",.type "object"],23,"SealError",true,[],[.ref 44,.ref 63,.ref 82,.ref 94,.ref 113,.ref 132,.ref 151,.ref 170,.ref 182,.ref 201,.ref 220,.ref 239,.ref 258,.ref 277,.ref 296,.ref 315,.ref 334,.ref 353,.ref 372,.ref 384],false,none,false⟩),#[some (.ref 15),none,some (.str "SealError" 189),some (.str "SealError" 197),some (.builtin "ValueError.__new__"),some (.bool true)]⟩
noncomputable def x11:Obj:=⟨(.type "getset_descriptor"),none,(.fields #[.str "__weakref__" 202,.ref 24,.builtin "ExceptionGroup.__weakref__",.none]),#[]⟩
noncomputable def x12:Obj:=sO 24
noncomputable def x13:Obj:=⟨(.type "builtin_function_or_method"),none,(.fields #[.builtin "object.__init_subclass__",.ref 24]),#[]⟩
noncomputable def x14:Obj:=tO #[.ref 24]
noncomputable def x15 (P:Params):Obj:=dO #[en P "__module__" 214 m0,en P "__qualname__" 216 (.str "NoSign" 215),en P "__firstlineno__" 218 (.int 4 217),en P "__init__" 226 (.ref 41),en P "__static_attributes__" 228 (.ref 42)] 5
noncomputable def x16:Obj:=pO #[.int 6 0,.int 4 0,.ref 40]
noncomputable def x17:Obj:=cK "NoSign" 209 4 31 212
noncomputable def x18:Obj:=rM 33 30 m0
noncomputable def x19:Obj:=tO #[.str "self" 222,.str "at" 223]
noncomputable def x20:Obj:=gM (tc 2 0) "__init__" "NoSign.__init__"
noncomputable def x21:Obj:=cS "__init__" "NoSign.__init__" 219 6 2 35 224
noncomputable def x22:Obj:=fM (tc 2 0) "__init__" "NoSign.__init__" m0 40
noncomputable def x23:Obj:=tO #[.str "at" 227]
noncomputable def x24 (P:Params):Obj:=dO #[en P "__module__" 214 m0,en P "__firstlineno__" 218 (.int 4 217),en P "__init__" 226 (.ref 41),en P "__static_attributes__" 228 (.ref 42),en P "__doc__" 229 .none] 2
noncomputable def x25:Obj:=kO "NoSign" 44 24 43 28 207 215
noncomputable def x26:Obj:=sO 44
noncomputable def x27:Obj:=⟨(.type "builtin_function_or_method"),none,(.fields #[.builtin "object.__init_subclass__",.ref 44]),#[]⟩
noncomputable def x28 (P:Params):Obj:=dO #[en P "__module__" 239 m0,en P "__qualname__" 241 (.str "NoCode" 240),en P "__firstlineno__" 243 (.int 9 242),en P "__init__" 251 (.ref 60),en P "__static_attributes__" 253 (.ref 61)] 5
noncomputable def x29:Obj:=pO #[.int 11 0,.int 4 0,.ref 59]
noncomputable def x30:Obj:=cK "NoCode" 234 9 50 237
noncomputable def x31:Obj:=rM 52 49 m0
noncomputable def x32:Obj:=tO #[.str "self" 247,.str "at" 248]
noncomputable def x33:Obj:=gM (tc 3 0) "__init__" "NoCode.__init__"
noncomputable def x34:Obj:=cS "__init__" "NoCode.__init__" 244 11 2 54 249
noncomputable def x35:Obj:=fM (tc 3 0) "__init__" "NoCode.__init__" m0 59
noncomputable def x36:Obj:=tO #[.str "at" 252]
noncomputable def x37 (P:Params):Obj:=dO #[en P "__module__" 239 m0,en P "__firstlineno__" 243 (.int 9 242),en P "__init__" 251 (.ref 60),en P "__static_attributes__" 253 (.ref 61),en P "__doc__" 254 .none] 2
noncomputable def x38:Obj:=kO "NoCode" 63 24 62 47 232 240
noncomputable def x39:Obj:=sO 63
noncomputable def x40:Obj:=⟨(.type "builtin_function_or_method"),none,(.fields #[.builtin "object.__init_subclass__",.ref 63]),#[]⟩
noncomputable def x41 (P:Params):Obj:=dO #[en P "__module__" 264 m0,en P "__qualname__" 266 (.str "Unread" 265),en P "__firstlineno__" 268 (.int 14 267),en P "__init__" 276 (.ref 79),en P "__static_attributes__" 278 (.ref 80)] 5
noncomputable def x42:Obj:=pO #[.int 16 0,.int 4 0,.ref 78]
noncomputable def x43:Obj:=cK "Unread" 259 14 69 262
noncomputable def x44:Obj:=rM 71 68 m0
noncomputable def x45:Obj:=tO #[.str "self" 272,.str "at" 273]
noncomputable def x46:Obj:=gM (tc 4 0) "__init__" "Unread.__init__"
noncomputable def x47:Obj:=cS "__init__" "Unread.__init__" 269 16 2 73 274
noncomputable def x48:Obj:=fM (tc 4 0) "__init__" "Unread.__init__" m0 78
noncomputable def x49:Obj:=tO #[.str "at" 277]
noncomputable def x50 (P:Params):Obj:=dO #[en P "__module__" 264 m0,en P "__firstlineno__" 268 (.int 14 267),en P "__init__" 276 (.ref 79),en P "__static_attributes__" 278 (.ref 80),en P "__doc__" 279 .none] 2
noncomputable def x51:Obj:=kO "Unread" 82 24 81 66 257 265
noncomputable def x52:Obj:=sO 82
noncomputable def x53:Obj:=⟨(.type "builtin_function_or_method"),none,(.fields #[.builtin "object.__init_subclass__",.ref 82]),#[]⟩
noncomputable def x54 (P:Params):Obj:=dO #[en P "__module__" 289 m0,en P "__qualname__" 291 (.str "Unended" 290),en P "__firstlineno__" 293 (.int 19 292),en P "__static_attributes__" 294 (.ref 92)] 4
noncomputable def x55:Obj:=cK "Unended" 284 19 88 287
noncomputable def x56:Obj:=rM 90 87 m0
noncomputable def x57 (P:Params):Obj:=dO #[en P "__module__" 289 m0,en P "__firstlineno__" 293 (.int 19 292),en P "__static_attributes__" 294 (.ref 92),en P "__doc__" 295 .none] 2
noncomputable def x58:Obj:=kO "Unended" 94 24 93 85 282 290
noncomputable def x59:Obj:=sO 94
noncomputable def x60:Obj:=⟨(.type "builtin_function_or_method"),none,(.fields #[.builtin "object.__init_subclass__",.ref 94]),#[]⟩
noncomputable def x61 (P:Params):Obj:=dO #[en P "__module__" 305 m0,en P "__qualname__" 307 (.str "NoPage" 306),en P "__firstlineno__" 309 (.int 21 308),en P "__init__" 317 (.ref 110),en P "__static_attributes__" 319 (.ref 111)] 5
noncomputable def x62:Obj:=pO #[.int 23 0,.int 4 0,.ref 109]
noncomputable def x63:Obj:=cK "NoPage" 300 21 100 303
noncomputable def x64:Obj:=rM 102 99 m0
noncomputable def x65:Obj:=tO #[.str "self" 313,.str "at" 314]
noncomputable def x66:Obj:=gM (tc 6 0) "__init__" "NoPage.__init__"
noncomputable def x67:Obj:=cS "__init__" "NoPage.__init__" 310 23 2 104 315
noncomputable def x68:Obj:=fM (tc 6 0) "__init__" "NoPage.__init__" m0 109
noncomputable def x69:Obj:=tO #[.str "at" 318]
noncomputable def x70 (P:Params):Obj:=dO #[en P "__module__" 305 m0,en P "__firstlineno__" 309 (.int 21 308),en P "__init__" 317 (.ref 110),en P "__static_attributes__" 319 (.ref 111),en P "__doc__" 320 .none] 2
noncomputable def x71:Obj:=kO "NoPage" 113 24 112 97 298 306
noncomputable def x72:Obj:=sO 113
noncomputable def x73:Obj:=⟨(.type "builtin_function_or_method"),none,(.fields #[.builtin "object.__init_subclass__",.ref 113]),#[]⟩
noncomputable def x74 (P:Params):Obj:=dO #[en P "__module__" 330 m0,en P "__qualname__" 332 (.str "NoName" 331),en P "__firstlineno__" 334 (.int 26 333),en P "__init__" 342 (.ref 129),en P "__static_attributes__" 344 (.ref 130)] 5
noncomputable def x75:Obj:=pO #[.int 28 0,.int 4 0,.ref 128]
noncomputable def x76:Obj:=cK "NoName" 325 26 119 328
noncomputable def x77:Obj:=rM 121 118 m0
noncomputable def x78:Obj:=tO #[.str "self" 338,.str "name" 339]
noncomputable def x79:Obj:=gM (tc 7 0) "__init__" "NoName.__init__"
noncomputable def x80:Obj:=cS "__init__" "NoName.__init__" 335 28 2 123 340
noncomputable def x81:Obj:=fM (tc 7 0) "__init__" "NoName.__init__" m0 128
noncomputable def x82:Obj:=tO #[.str "name" 343]
noncomputable def x83 (P:Params):Obj:=dO #[en P "__module__" 330 m0,en P "__firstlineno__" 334 (.int 26 333),en P "__init__" 342 (.ref 129),en P "__static_attributes__" 344 (.ref 130),en P "__doc__" 345 .none] 2
noncomputable def x84:Obj:=kO "NoName" 132 24 131 116 323 331
noncomputable def x85:Obj:=sO 132
noncomputable def x86:Obj:=⟨(.type "builtin_function_or_method"),none,(.fields #[.builtin "object.__init_subclass__",.ref 132]),#[]⟩
noncomputable def x87 (P:Params):Obj:=dO #[en P "__module__" 355 m0,en P "__qualname__" 357 (.str "NoSheet" 356),en P "__firstlineno__" 359 (.int 31 358),en P "__init__" 367 (.ref 148),en P "__static_attributes__" 369 (.ref 149)] 5
noncomputable def x88:Obj:=pO #[.int 33 0,.int 4 0,.ref 147]
noncomputable def x89:Obj:=cK "NoSheet" 350 31 138 353
noncomputable def x90:Obj:=rM 140 137 m0
noncomputable def x91:Obj:=tO #[.str "self" 363,.str "at" 364]
noncomputable def x92:Obj:=gM (tc 8 0) "__init__" "NoSheet.__init__"
noncomputable def x93:Obj:=cS "__init__" "NoSheet.__init__" 360 33 2 142 365
noncomputable def x94:Obj:=fM (tc 8 0) "__init__" "NoSheet.__init__" m0 147
noncomputable def x95:Obj:=tO #[.str "at" 368]
noncomputable def x96 (P:Params):Obj:=dO #[en P "__module__" 355 m0,en P "__firstlineno__" 359 (.int 31 358),en P "__init__" 367 (.ref 148),en P "__static_attributes__" 369 (.ref 149),en P "__doc__" 370 .none] 2
noncomputable def x97:Obj:=kO "NoSheet" 151 24 150 135 348 356
noncomputable def x98:Obj:=sO 151
noncomputable def x99:Obj:=⟨(.type "builtin_function_or_method"),none,(.fields #[.builtin "object.__init_subclass__",.ref 151]),#[]⟩
noncomputable def x100 (P:Params):Obj:=dO #[en P "__module__" 380 m0,en P "__qualname__" 382 (.str "Twice" 381),en P "__firstlineno__" 384 (.int 36 383),en P "__init__" 392 (.ref 167),en P "__static_attributes__" 394 (.ref 168)] 5
noncomputable def x101:Obj:=pO #[.int 38 0,.int 4 0,.ref 166]
noncomputable def x102:Obj:=cK "Twice" 375 36 157 378
noncomputable def x103:Obj:=rM 159 156 m0
noncomputable def x104:Obj:=tO #[.str "self" 388,.str "name" 389]
noncomputable def x105:Obj:=gM (tc 9 0) "__init__" "Twice.__init__"
noncomputable def x106:Obj:=cS "__init__" "Twice.__init__" 385 38 2 161 390
noncomputable def x107:Obj:=fM (tc 9 0) "__init__" "Twice.__init__" m0 166
noncomputable def x108:Obj:=tO #[.str "name" 393]
noncomputable def x109 (P:Params):Obj:=dO #[en P "__module__" 380 m0,en P "__firstlineno__" 384 (.int 36 383),en P "__init__" 392 (.ref 167),en P "__static_attributes__" 394 (.ref 168),en P "__doc__" 395 .none] 2
noncomputable def x110:Obj:=kO "Twice" 170 24 169 154 373 381
noncomputable def x111:Obj:=sO 170
noncomputable def x112:Obj:=⟨(.type "builtin_function_or_method"),none,(.fields #[.builtin "object.__init_subclass__",.ref 170]),#[]⟩
noncomputable def x113 (P:Params):Obj:=dO #[en P "__module__" 405 m0,en P "__qualname__" 407 (.str "TooMany" 406),en P "__firstlineno__" 409 (.int 41 408),en P "__static_attributes__" 410 (.ref 180)] 4
noncomputable def x114:Obj:=cK "TooMany" 400 41 176 403
noncomputable def x115:Obj:=rM 178 175 m0
noncomputable def x116 (P:Params):Obj:=dO #[en P "__module__" 405 m0,en P "__firstlineno__" 409 (.int 41 408),en P "__static_attributes__" 410 (.ref 180),en P "__doc__" 411 .none] 2
noncomputable def x117:Obj:=kO "TooMany" 182 24 181 173 398 406
noncomputable def x118:Obj:=sO 182
noncomputable def x119:Obj:=⟨(.type "builtin_function_or_method"),none,(.fields #[.builtin "object.__init_subclass__",.ref 182]),#[]⟩
noncomputable def x120 (P:Params):Obj:=dO #[en P "__module__" 421 m0,en P "__qualname__" 423 (.str "Unknown" 422),en P "__firstlineno__" 425 (.int 43 424),en P "__init__" 433 (.ref 198),en P "__static_attributes__" 435 (.ref 199)] 5
noncomputable def x121:Obj:=pO #[.int 45 0,.int 4 0,.ref 197]
noncomputable def x122:Obj:=cK "Unknown" 416 43 188 419
noncomputable def x123:Obj:=rM 190 187 m0
noncomputable def x124:Obj:=tO #[.str "self" 429,.str "name" 430]
noncomputable def x125:Obj:=gM (tc 11 0) "__init__" "Unknown.__init__"
noncomputable def x126:Obj:=cS "__init__" "Unknown.__init__" 426 45 2 192 431
noncomputable def x127:Obj:=fM (tc 11 0) "__init__" "Unknown.__init__" m0 197
noncomputable def x128:Obj:=tO #[.str "name" 434]
noncomputable def x129 (P:Params):Obj:=dO #[en P "__module__" 421 m0,en P "__firstlineno__" 425 (.int 43 424),en P "__init__" 433 (.ref 198),en P "__static_attributes__" 435 (.ref 199),en P "__doc__" 436 .none] 2
noncomputable def x130:Obj:=kO "Unknown" 201 24 200 185 414 422
noncomputable def x131:Obj:=sO 201
noncomputable def x132:Obj:=⟨(.type "builtin_function_or_method"),none,(.fields #[.builtin "object.__init_subclass__",.ref 201]),#[]⟩
noncomputable def x133 (P:Params):Obj:=dO #[en P "__module__" 446 m0,en P "__qualname__" 448 (.str "RingOver" 447),en P "__firstlineno__" 450 (.int 48 449),en P "__init__" 458 (.ref 217),en P "__static_attributes__" 460 (.ref 218)] 5
noncomputable def x134:Obj:=pO #[.int 50 0,.int 4 0,.ref 216]
noncomputable def x135:Obj:=cK "RingOver" 441 48 207 444
noncomputable def x136:Obj:=rM 209 206 m0
noncomputable def x137:Obj:=tO #[.str "self" 454,.str "ring" 455]
noncomputable def x138:Obj:=gM (tc 12 0) "__init__" "RingOver.__init__"
noncomputable def x139:Obj:=cS "__init__" "RingOver.__init__" 451 50 2 211 456
noncomputable def x140:Obj:=fM (tc 12 0) "__init__" "RingOver.__init__" m0 216
noncomputable def x141:Obj:=tO #[.str "ring" 459]
noncomputable def x142 (P:Params):Obj:=dO #[en P "__module__" 446 m0,en P "__firstlineno__" 450 (.int 48 449),en P "__init__" 458 (.ref 217),en P "__static_attributes__" 460 (.ref 218),en P "__doc__" 461 .none] 2
noncomputable def x143:Obj:=kO "RingOver" 220 24 219 204 439 447
noncomputable def x144:Obj:=sO 220
noncomputable def x145:Obj:=⟨(.type "builtin_function_or_method"),none,(.fields #[.builtin "object.__init_subclass__",.ref 220]),#[]⟩
noncomputable def x146 (P:Params):Obj:=dO #[en P "__module__" 471 m0,en P "__qualname__" 473 (.str "Ringed" 472),en P "__firstlineno__" 475 (.int 53 474),en P "__init__" 483 (.ref 236),en P "__static_attributes__" 485 (.ref 237)] 5
noncomputable def x147:Obj:=pO #[.int 55 0,.int 4 0,.ref 235]
noncomputable def x148:Obj:=cK "Ringed" 466 53 226 469
noncomputable def x149:Obj:=rM 228 225 m0
noncomputable def x150:Obj:=tO #[.str "self" 479,.str "ring" 480]
noncomputable def x151:Obj:=gM (tc 13 0) "__init__" "Ringed.__init__"
noncomputable def x152:Obj:=cS "__init__" "Ringed.__init__" 476 55 2 230 481
noncomputable def x153:Obj:=fM (tc 13 0) "__init__" "Ringed.__init__" m0 235
noncomputable def x154:Obj:=tO #[.str "ring" 484]
noncomputable def x155 (P:Params):Obj:=dO #[en P "__module__" 471 m0,en P "__firstlineno__" 475 (.int 53 474),en P "__init__" 483 (.ref 236),en P "__static_attributes__" 485 (.ref 237),en P "__doc__" 486 .none] 2
noncomputable def x156:Obj:=kO "Ringed" 239 24 238 223 464 472
noncomputable def x157:Obj:=sO 239
noncomputable def x158:Obj:=⟨(.type "builtin_function_or_method"),none,(.fields #[.builtin "object.__init_subclass__",.ref 239]),#[]⟩
noncomputable def x159 (P:Params):Obj:=dO #[en P "__module__" 496 m0,en P "__qualname__" 498 (.str "NoElder" 497),en P "__firstlineno__" 500 (.int 58 499),en P "__init__" 508 (.ref 255),en P "__static_attributes__" 510 (.ref 256)] 5
noncomputable def x160:Obj:=pO #[.int 60 0,.int 4 0,.ref 254]
noncomputable def x161:Obj:=cK "NoElder" 491 58 245 494
noncomputable def x162:Obj:=rM 247 244 m0
noncomputable def x163:Obj:=tO #[.str "self" 504,.str "name" 505]
noncomputable def x164:Obj:=gM (tc 14 0) "__init__" "NoElder.__init__"
noncomputable def x165:Obj:=cS "__init__" "NoElder.__init__" 501 60 2 249 506
noncomputable def x166:Obj:=fM (tc 14 0) "__init__" "NoElder.__init__" m0 254
noncomputable def x167:Obj:=tO #[.str "name" 509]
noncomputable def x168 (P:Params):Obj:=dO #[en P "__module__" 496 m0,en P "__firstlineno__" 500 (.int 58 499),en P "__init__" 508 (.ref 255),en P "__static_attributes__" 510 (.ref 256),en P "__doc__" 511 .none] 2
noncomputable def x169:Obj:=kO "NoElder" 258 24 257 242 489 497
noncomputable def x170:Obj:=sO 258
noncomputable def x171:Obj:=⟨(.type "builtin_function_or_method"),none,(.fields #[.builtin "object.__init_subclass__",.ref 258]),#[]⟩
noncomputable def x172 (P:Params):Obj:=dO #[en P "__module__" 521 m0,en P "__qualname__" 523 (.str "Astray" 522),en P "__firstlineno__" 525 (.int 63 524),en P "__init__" 534 (.ref 274),en P "__static_attributes__" 537 (.ref 275)] 5
noncomputable def x173:Obj:=pO #[.int 65 0,.int 4 0,.ref 273]
noncomputable def x174:Obj:=cK "Astray" 516 63 264 519
noncomputable def x175:Obj:=rM 266 263 m0
noncomputable def x176:Obj:=tO #[.str "self" 529,.str "place" 530,.str "at" 531]
noncomputable def x177:Obj:=gM (tc 15 0) "__init__" "Astray.__init__"
noncomputable def x178:Obj:=cS "__init__" "Astray.__init__" 526 65 3 268 532
noncomputable def x179:Obj:=fM (tc 15 0) "__init__" "Astray.__init__" m0 273
noncomputable def x180:Obj:=tO #[.str "at" 535,.str "place" 536]
noncomputable def x181 (P:Params):Obj:=dO #[en P "__module__" 521 m0,en P "__firstlineno__" 525 (.int 63 524),en P "__init__" 534 (.ref 274),en P "__static_attributes__" 537 (.ref 275),en P "__doc__" 538 .none] 2
noncomputable def x182:Obj:=kO "Astray" 277 24 276 261 514 522
noncomputable def x183:Obj:=sO 277
noncomputable def x184:Obj:=⟨(.type "builtin_function_or_method"),none,(.fields #[.builtin "object.__init_subclass__",.ref 277]),#[]⟩
noncomputable def x185 (P:Params):Obj:=dO #[en P "__module__" 548 m0,en P "__qualname__" 550 (.str "NoPlace" 549),en P "__firstlineno__" 552 (.int 69 551),en P "__init__" 561 (.ref 293),en P "__static_attributes__" 564 (.ref 294)] 5
noncomputable def x186:Obj:=pO #[.int 71 0,.int 4 0,.ref 292]
noncomputable def x187:Obj:=cK "NoPlace" 543 69 283 546
noncomputable def x188:Obj:=rM 285 282 m0
noncomputable def x189:Obj:=tO #[.str "self" 556,.str "name" 557,.str "place" 558]
noncomputable def x190:Obj:=gM (tc 16 0) "__init__" "NoPlace.__init__"
noncomputable def x191:Obj:=cS "__init__" "NoPlace.__init__" 553 71 3 287 559
noncomputable def x192:Obj:=fM (tc 16 0) "__init__" "NoPlace.__init__" m0 292
noncomputable def x193:Obj:=tO #[.str "name" 562,.str "place" 563]
noncomputable def x194 (P:Params):Obj:=dO #[en P "__module__" 548 m0,en P "__firstlineno__" 552 (.int 69 551),en P "__init__" 561 (.ref 293),en P "__static_attributes__" 564 (.ref 294),en P "__doc__" 565 .none] 2
noncomputable def x195:Obj:=kO "NoPlace" 296 24 295 280 541 549
noncomputable def x196:Obj:=sO 296
noncomputable def x197:Obj:=⟨(.type "builtin_function_or_method"),none,(.fields #[.builtin "object.__init_subclass__",.ref 296]),#[]⟩
noncomputable def x198 (P:Params):Obj:=dO #[en P "__module__" 575 m0,en P "__qualname__" 577 (.str "Unlike" 576),en P "__firstlineno__" 579 (.int 75 578),en P "__init__" 589 (.ref 312),en P "__static_attributes__" 593 (.ref 313)] 5
noncomputable def x199:Obj:=pO #[.int 77 0,.int 4 0,.ref 311]
noncomputable def x200:Obj:=cK "Unlike" 570 75 302 573
noncomputable def x201:Obj:=rM 304 301 m0
noncomputable def x202:Obj:=tO #[.str "self" 583,.str "what" 584,.str "one" 585,.str "other" 586]
noncomputable def x203:Obj:=gM (tc 17 0) "__init__" "Unlike.__init__"
noncomputable def x204:Obj:=cS "__init__" "Unlike.__init__" 580 77 4 306 587
noncomputable def x205:Obj:=fM (tc 17 0) "__init__" "Unlike.__init__" m0 311
noncomputable def x206:Obj:=tO #[.str "one" 590,.str "other" 591,.str "what" 592]
noncomputable def x207 (P:Params):Obj:=dO #[en P "__module__" 575 m0,en P "__firstlineno__" 579 (.int 75 578),en P "__init__" 589 (.ref 312),en P "__static_attributes__" 593 (.ref 313),en P "__doc__" 594 .none] 2
noncomputable def x208:Obj:=kO "Unlike" 315 24 314 299 568 576
noncomputable def x209:Obj:=sO 315
noncomputable def x210:Obj:=⟨(.type "builtin_function_or_method"),none,(.fields #[.builtin "object.__init_subclass__",.ref 315]),#[]⟩
noncomputable def x211 (P:Params):Obj:=dO #[en P "__module__" 604 m0,en P "__qualname__" 606 (.str "LeftOpen" 605),en P "__firstlineno__" 608 (.int 82 607),en P "__init__" 616 (.ref 331),en P "__static_attributes__" 618 (.ref 332)] 5
noncomputable def x212:Obj:=pO #[.int 84 0,.int 4 0,.ref 330]
noncomputable def x213:Obj:=cK "LeftOpen" 599 82 321 602
noncomputable def x214:Obj:=rM 323 320 m0
noncomputable def x215:Obj:=tO #[.str "self" 612,.str "place" 613]
noncomputable def x216:Obj:=gM (tc 18 0) "__init__" "LeftOpen.__init__"
noncomputable def x217:Obj:=cS "__init__" "LeftOpen.__init__" 609 84 2 325 614
noncomputable def x218:Obj:=fM (tc 18 0) "__init__" "LeftOpen.__init__" m0 330
noncomputable def x219:Obj:=tO #[.str "place" 617]
noncomputable def x220 (P:Params):Obj:=dO #[en P "__module__" 604 m0,en P "__firstlineno__" 608 (.int 82 607),en P "__init__" 616 (.ref 331),en P "__static_attributes__" 618 (.ref 332),en P "__doc__" 619 .none] 2
noncomputable def x221:Obj:=kO "LeftOpen" 334 24 333 318 597 605
noncomputable def x222:Obj:=sO 334
noncomputable def x223:Obj:=⟨(.type "builtin_function_or_method"),none,(.fields #[.builtin "object.__init_subclass__",.ref 334]),#[]⟩
noncomputable def x224 (P:Params):Obj:=dO #[en P "__module__" 629 m0,en P "__qualname__" 631 (.str "NoValue" 630),en P "__firstlineno__" 633 (.int 87 632),en P "__init__" 641 (.ref 350),en P "__static_attributes__" 643 (.ref 351)] 5
noncomputable def x225:Obj:=pO #[.int 89 0,.int 4 0,.ref 349]
noncomputable def x226:Obj:=cK "NoValue" 624 87 340 627
noncomputable def x227:Obj:=rM 342 339 m0
noncomputable def x228:Obj:=tO #[.str "self" 637,.str "name" 638]
noncomputable def x229:Obj:=gM (tc 19 0) "__init__" "NoValue.__init__"
noncomputable def x230:Obj:=cS "__init__" "NoValue.__init__" 634 89 2 344 639
noncomputable def x231:Obj:=fM (tc 19 0) "__init__" "NoValue.__init__" m0 349
noncomputable def x232:Obj:=tO #[.str "name" 642]
noncomputable def x233 (P:Params):Obj:=dO #[en P "__module__" 629 m0,en P "__firstlineno__" 633 (.int 87 632),en P "__init__" 641 (.ref 350),en P "__static_attributes__" 643 (.ref 351),en P "__doc__" 644 .none] 2
noncomputable def x234:Obj:=kO "NoValue" 353 24 352 337 622 630
noncomputable def x235:Obj:=sO 353
noncomputable def x236:Obj:=⟨(.type "builtin_function_or_method"),none,(.fields #[.builtin "object.__init_subclass__",.ref 353]),#[]⟩
noncomputable def x237 (P:Params):Obj:=dO #[en P "__module__" 654 m0,en P "__qualname__" 656 (.str "NoKind" 655),en P "__firstlineno__" 658 (.int 92 657),en P "__init__" 666 (.ref 369),en P "__static_attributes__" 668 (.ref 370)] 5
noncomputable def x238:Obj:=pO #[.int 94 0,.int 4 0,.ref 368]
noncomputable def x239:Obj:=cK "NoKind" 649 92 359 652
noncomputable def x240:Obj:=rM 361 358 m0
noncomputable def x241:Obj:=tO #[.str "self" 662,.str "name" 663]
noncomputable def x242:Obj:=gM (tc 20 0) "__init__" "NoKind.__init__"
noncomputable def x243:Obj:=cS "__init__" "NoKind.__init__" 659 94 2 363 664
noncomputable def x244:Obj:=fM (tc 20 0) "__init__" "NoKind.__init__" m0 368
noncomputable def x245:Obj:=tO #[.str "name" 667]
noncomputable def x246 (P:Params):Obj:=dO #[en P "__module__" 654 m0,en P "__firstlineno__" 658 (.int 92 657),en P "__init__" 666 (.ref 369),en P "__static_attributes__" 668 (.ref 370),en P "__doc__" 669 .none] 2
noncomputable def x247:Obj:=kO "NoKind" 372 24 371 356 647 655
noncomputable def x248:Obj:=sO 372
noncomputable def x249:Obj:=⟨(.type "builtin_function_or_method"),none,(.fields #[.builtin "object.__init_subclass__",.ref 372]),#[]⟩
noncomputable def x250 (P:Params):Obj:=dO #[en P "__module__" 679 m0,en P "__qualname__" 681 (.str "NoRow" 680),en P "__firstlineno__" 683 (.int 97 682),en P "__static_attributes__" 684 (.ref 382)] 4
noncomputable def x251:Obj:=cK "NoRow" 674 97 378 677
noncomputable def x252:Obj:=rM 380 377 m0
noncomputable def x253 (P:Params):Obj:=dO #[en P "__module__" 679 m0,en P "__firstlineno__" 683 (.int 97 682),en P "__static_attributes__" 684 (.ref 382),en P "__doc__" 685 .none] 2
noncomputable def x254:Obj:=kO "NoRow" 384 24 383 375 672 680
noncomputable def x255:Obj:=sO 384
noncomputable def x256:Obj:=⟨(.type "builtin_function_or_method"),none,(.fields #[.builtin "object.__init_subclass__",.ref 384]),#[]⟩
noncomputable def x257:Obj:=tO #[.str "number" 701]
noncomputable def x258:Obj:=gM (tp 27) "sign_of" "sign_of"
noncomputable def x259:Obj:=cN "sign_of" 698 104 1 387 702
noncomputable def x260:Obj:=fM (tp 27) "sign_of" "sign_of" m1 392
noncomputable def x261:Obj:=tO #[.str "figures" 708,.str "number" 709]
noncomputable def x262:Obj:=gM (tp 28) "sign_told" "sign_told"
noncomputable def x263:Obj:=cN "sign_told" 705 106 1 394 710
noncomputable def x264:Obj:=fM (tp 28) "sign_told" "sign_told" m1 399
noncomputable def x265:Obj:=tO #[.str "text" 717,.str "bare" 718,.str "row" 719,.str "quoted" 720]
noncomputable def x266:Obj:=tO #[.str "state" 725]
noncomputable def x267:Obj:=gM (tp 32) "place_of" "place_of"
noncomputable def x268:Obj:=cN "place_of" 722 114 1 402 726
noncomputable def x269:Obj:=fM (tp 32) "place_of" "place_of" m2 407
noncomputable def x270:Obj:=tO #[.str "sign" 734]
noncomputable def x271:Obj:=gM (tp 34) "fed_between" "fed_between"
noncomputable def x272:Obj:=cN "fed_between" 731 119 1 409 735
noncomputable def x273:Obj:=fM (tp 34) "fed_between" "fed_between" m3 414
noncomputable def x274:Obj:=tO #[.str "sign" 741]
noncomputable def x275:Obj:=gM (tp 35) "fed_word" "fed_word"
noncomputable def x276:Obj:=cN "fed_word" 738 127 1 416 742
noncomputable def x277:Obj:=fM (tp 35) "fed_word" "fed_word" m3 421
noncomputable def x278:Obj:=tO #[.str "sign" 748]
noncomputable def x279:Obj:=gM (tp 36) "fed_said" "fed_said"
noncomputable def x280:Obj:=cN "fed_said" 745 131 1 423 749
noncomputable def x281:Obj:=fM (tp 36) "fed_said" "fed_said" m3 428
noncomputable def x282:Obj:=tO #[.str "talk" 755,.str "sign" 756]
noncomputable def x283:Obj:=gM (tp 37) "feed" "feed"
noncomputable def x284:Obj:=cN "feed" 752 137 2 430 757
noncomputable def x285:Obj:=fM (tp 37) "feed" "feed" m3 435
noncomputable def x286:Obj:=tO #[.str "mode" 769,.str "opens" 770,.str "events" 771]
noncomputable def x287:Obj:=gM (tp 41) "come_to" "come_to"
noncomputable def x288:Obj:=cN "come_to" 766 150 3 437 772
noncomputable def x289:Obj:=fM (tp 41) "come_to" "come_to" m4 442
noncomputable def x290:Obj:=tO #[.str "mode" 778,.str "opens" 779,.str "sign" 780]
noncomputable def x291:Obj:=gM (tp 42) "told" "told"
noncomputable def x292:Obj:=cN "told" 775 152 3 444 781
noncomputable def x293:Obj:=fM (tp 42) "told" "told" m4 449
noncomputable def x294:Obj:=tO #[.str "mode" 787,.str "word" 788,.str "opens" 789,.str "talk" 790,.str "most" 791]
noncomputable def x295:Obj:=gM (tp 43) "gathered" "gathered"
noncomputable def x296:Obj:=cN "gathered" 784 156 5 451 792
noncomputable def x297:Obj:=fM (tp 43) "gathered" "gathered" m4 456
noncomputable def x298:Obj:=tO #[.str "opens" 798,.str "events" 799]
noncomputable def x299:Obj:=gM (tp 44) "box_shut" "box_shut"
noncomputable def x300:Obj:=cN "box_shut" 795 160 2 458 800
noncomputable def x301:Obj:=fM (tp 44) "box_shut" "box_shut" m4 463
noncomputable def x302:Obj:=tO #[.str "opens" 806,.str "events" 807,.str "mode" 808]
noncomputable def x303:Obj:=gM (tp 45) "into_box" "into_box"
noncomputable def x304:Obj:=cN "into_box" 803 164 2 465 809
noncomputable def x305:Obj:=fM (tp 45) "into_box" "into_box" m4 470
noncomputable def x306:Obj:=tO #[.str "opens" 815,.str "sign" 816,.str "events" 817]
noncomputable def x307:Obj:=gM (tp 46) "led_on" "led_on"
noncomputable def x308:Obj:=cN "led_on" 812 169 3 472 818
noncomputable def x309:Obj:=fM (tp 46) "led_on" "led_on" m4 477
noncomputable def x310:Obj:=tO #[.str "opens" 824,.str "talk" 825,.str "sign" 826,.str "answer" 827]
noncomputable def x311:Obj:=gM (tp 47) "fed" "fed"
noncomputable def x312:Obj:=cN "fed" 821 177 3 479 828
noncomputable def x313:Obj:=fM (tp 47) "fed" "fed" m4 484
noncomputable def x314:Obj:=tO #[.str "word" 834,.str "sign" 835]
noncomputable def x315:Obj:=gM (tp 48) "mark_ended" "mark_ended"
noncomputable def x316:Obj:=cN "mark_ended" 831 182 2 486 836
noncomputable def x317:Obj:=fM (tp 48) "mark_ended" "mark_ended" m4 491
noncomputable def x318:Obj:=tO #[.str "word" 842,.str "opens" 843,.str "talk" 844,.str "sign" 845]
noncomputable def x319:Obj:=gM (tp 49) "at_text" "at_text"
noncomputable def x320:Obj:=cN "at_text" 839 184 4 493 846
noncomputable def x321:Obj:=fM (tp 49) "at_text" "at_text" m4 498
noncomputable def x322:Obj:=tO #[.str "word" 852,.str "opens" 853,.str "talk" 854,.str "sign" 855]
noncomputable def x323:Obj:=gM (tp 50) "at_mark" "at_mark"
noncomputable def x324:Obj:=cN "at_mark" 849 190 4 500 856
noncomputable def x325:Obj:=fM (tp 50) "at_mark" "at_mark" m4 505
noncomputable def x326:Obj:=tO #[.str "word" 862,.str "opens" 863,.str "talk" 864,.str "sign" 865]
noncomputable def x327:Obj:=gM (tp 51) "at_open" "at_open"
noncomputable def x328:Obj:=cN "at_open" 859 194 4 507 866
noncomputable def x329:Obj:=fM (tp 51) "at_open" "at_open" m4 512
noncomputable def x330:Obj:=tO #[.str "word" 872,.str "opens" 873,.str "talk" 874,.str "sign" 875]
noncomputable def x331:Obj:=gM (tp 52) "at_name" "at_name"
noncomputable def x332:Obj:=cN "at_name" 869 200 4 514 876
noncomputable def x333:Obj:=fM (tp 52) "at_name" "at_name" m4 519
noncomputable def x334:Obj:=tO #[.str "word" 882,.str "opens" 883,.str "talk" 884,.str "sign" 885]
noncomputable def x335:Obj:=gM (tp 53) "at_slash" "at_slash"
noncomputable def x336:Obj:=cN "at_slash" 879 204 4 521 886
noncomputable def x337:Obj:=fM (tp 53) "at_slash" "at_slash" m4 526
noncomputable def x338:Obj:=tO #[.str "word" 892,.str "opens" 893,.str "talk" 894,.str "sign" 895]
noncomputable def x339:Obj:=gM (tp 54) "at_shut" "at_shut"
noncomputable def x340:Obj:=cN "at_shut" 889 208 4 528 896
noncomputable def x341:Obj:=fM (tp 54) "at_shut" "at_shut" m4 533
noncomputable def x342:Obj:=tO #[.str "word" 902,.str "opens" 903,.str "talk" 904,.str "sign" 905]
noncomputable def x343:Obj:=gM (tp 55) "at_gap" "at_gap"
noncomputable def x344:Obj:=cN "at_gap" 899 214 4 535 906
noncomputable def x345:Obj:=fM (tp 55) "at_gap" "at_gap" m4 540
noncomputable def x346:Obj:=tO #[.str "word" 912,.str "opens" 913,.str "talk" 914,.str "sign" 915]
noncomputable def x347:Obj:=gM (tp 56) "at_attr" "at_attr"
noncomputable def x348:Obj:=cN "at_attr" 909 218 4 542 916
noncomputable def x349:Obj:=fM (tp 56) "at_attr" "at_attr" m4 547
noncomputable def x350:Obj:=tO #[.str "word" 922,.str "opens" 923,.str "talk" 924,.str "sign" 925]
noncomputable def x351:Obj:=gM (tp 57) "at_is" "at_is"
noncomputable def x352:Obj:=cN "at_is" 919 230 4 549 926
noncomputable def x353:Obj:=fM (tp 57) "at_is" "at_is" m4 554
noncomputable def x354:Obj:=tO #[.str "word" 932,.str "opens" 933,.str "talk" 934,.str "sign" 935]
noncomputable def x355:Obj:=gM (tp 58) "at_bang" "at_bang"
noncomputable def x356:Obj:=cN "at_bang" 929 234 4 556 936
noncomputable def x357:Obj:=fM (tp 58) "at_bang" "at_bang" m4 561
noncomputable def x358:Obj:=tO #[.str "word" 942,.str "opens" 943,.str "talk" 944,.str "sign" 945]
noncomputable def x359:Obj:=gM (tp 59) "at_bare" "at_bare"
noncomputable def x360:Obj:=cN "at_bare" 939 238 4 563 946
noncomputable def x361:Obj:=fM (tp 59) "at_bare" "at_bare" m4 568
noncomputable def x362:Obj:=tO #[.str "word" 952,.str "opens" 953,.str "talk" 954,.str "sign" 955]
noncomputable def x363:Obj:=gM (tp 60) "at_code" "at_code"
noncomputable def x364:Obj:=cN "at_code" 949 244 4 570 956
noncomputable def x365:Obj:=fM (tp 60) "at_code" "at_code" m4 575
noncomputable def x366:Obj:=tO #[.str "word" 962,.str "opens" 963,.str "talk" 964,.str "sign" 965]
noncomputable def x367:Obj:=gM (tp 61) "at_row" "at_row"
noncomputable def x368:Obj:=cN "at_row" 959 248 4 577 966
noncomputable def x369:Obj:=fM (tp 61) "at_row" "at_row" m4 582
noncomputable def x370:Obj:=tO #[.str "word" 972,.str "opens" 973,.str "talk" 974,.str "sign" 975]
noncomputable def x371:Obj:=gM (tp 62) "at_stroke" "at_stroke"
noncomputable def x372:Obj:=cN "at_stroke" 969 256 4 584 976
noncomputable def x373:Obj:=fM (tp 62) "at_stroke" "at_stroke" m4 589
noncomputable def x374:Obj:=tO #[.str "word" 982,.str "opens" 983,.str "talk" 984,.str "sign" 985]
noncomputable def x375:Obj:=gM (tp 63) "at_quoted" "at_quoted"
noncomputable def x376:Obj:=cN "at_quoted" 979 258 4 591 986
noncomputable def x377:Obj:=fM (tp 63) "at_quoted" "at_quoted" m4 596
noncomputable def x378:Obj:=tO #[.str "word" 992,.str "opens" 993,.str "talk" 994,.str "sign" 995]
noncomputable def x379:Obj:=gM (tp 64) "at_qmark" "at_qmark"
noncomputable def x380:Obj:=cN "at_qmark" 989 264 4 598 996
noncomputable def x381:Obj:=fM (tp 64) "at_qmark" "at_qmark" m4 603
noncomputable def x382:Obj:=tO #[.str "word" 1002,.str "opens" 1003,.str "talk" 1004,.str "sign" 1005]
noncomputable def x383:Obj:=gM (tp 65) "at_done" "at_done"
noncomputable def x384:Obj:=cN "at_done" 999 268 4 605 1006
noncomputable def x385:Obj:=fM (tp 65) "at_done" "at_done" m4 610
noncomputable def x386:Obj:=tO #[.str "word" 1012,.str "opens" 1013,.str "talk" 1014,.str "sign" 1015]
noncomputable def x387:Obj:=gM (tp 66) "at_talk" "at_talk"
noncomputable def x388:Obj:=cN "at_talk" 1009 270 4 612 1016
noncomputable def x389:Obj:=fM (tp 66) "at_talk" "at_talk" m4 617
noncomputable def x390:Obj:=tO #[.str "word" 1022,.str "opens" 1023,.str "talk" 1024,.str "sign" 1025]
noncomputable def x391:Obj:=gM (tp 67) "at_tmark" "at_tmark"
noncomputable def x392:Obj:=cN "at_tmark" 1019 276 4 619 1026
noncomputable def x393:Obj:=fM (tp 67) "at_tmark" "at_tmark" m4 624
noncomputable def x394:Obj:=gM (tp 68) "at_asis" "at_asis"
noncomputable def x395:Obj:=cM "at_asis" "at_asis" 1029 280 4 3 626 true 627 .none .none .none (.ref 628) 1032
noncomputable def x396:Obj:=fM (tp 68) "at_asis" "at_asis" m4 629
noncomputable def x397 (P:Params):Obj:=dO #[en P "__name__" 165 (.str "law_sealpress_k76_whole_just_where_all_ways" 1322),en P "__doc__" 166 .none,en P "__package__" 167 .none,en P "__loader__" 168 (.builtin "__main__.__loader__#opaque"),en P "__spec__" 169 .none,en P "__annotations__" 170 (.ref 6),en P "__builtins__" 171 (.ref 4),en P "__file__" 173 (.str "/claim/cut.py" 172),en P "__cached__" 174 .none,en P "SealError" 206 (.ref 24),en P "NoSign" 231 (.ref 44),en P "NoCode" 256 (.ref 63),en P "Unread" 281 (.ref 82),en P "Unended" 297 (.ref 94),en P "NoPage" 322 (.ref 113),en P "NoName" 347 (.ref 132),en P "NoSheet" 372 (.ref 151),en P "Twice" 397 (.ref 170),en P "TooMany" 413 (.ref 182),en P "Unknown" 438 (.ref 201),en P "RingOver" 463 (.ref 220),en P "Ringed" 488 (.ref 239),en P "NoElder" 513 (.ref 258),en P "Astray" 540 (.ref 277),en P "NoPlace" 567 (.ref 296),en P "Unlike" 596 (.ref 315),en P "LeftOpen" 621 (.ref 334),en P "NoValue" 646 (.ref 353),en P "NoKind" 671 (.ref 372),en P "NoRow" 687 (.ref 384),en P "SIGNS" 691 (.str " !\"#$&'()*+,-./0123456789:;<=>?@ABCDEFGHIJKLMNOPQRSTUVWXYZ[\\]^_`abcdefghijklmnopqrstuvwxyz{|}~" 690),en P "FIGURES" 693 (.str "0123456789" 692),en P "LETTERS" 695 (.str "abcdefghijklmnopqrstuvwxyz" 694),en P "LONGEST_NAME" 697 (.int 8 696),en P "sign_of" 704 (.ref 393),en P "sign_told" 712 (.ref 400),en P "WORDSIGNS" 714 (.str "abcdefghijklmnopqrstuvwxyz0123456789-" 713),en P "PLACE_MODES" 721 (.ref 401),en P "place_of" 728 (.ref 408),en P "fed_between" 737 (.ref 415),en P "fed_word" 744 (.ref 422),en P "fed_said" 751 (.ref 429),en P "feed" 759 (.ref 436),en P "ASIS_END" 763 (.str "</asis>" 762),en P "MARK_FIGURES" 765 (.int 2 764),en P "come_to" 774 (.ref 443),en P "told" 783 (.ref 450),en P "gathered" 794 (.ref 457),en P "box_shut" 802 (.ref 464),en P "into_box" 811 (.ref 471),en P "led_on" 820 (.ref 478),en P "fed" 830 (.ref 485),en P "mark_ended" 838 (.ref 492),en P "at_text" 848 (.ref 499),en P "at_mark" 858 (.ref 506),en P "at_open" 868 (.ref 513),en P "at_name" 878 (.ref 520),en P "at_slash" 888 (.ref 527),en P "at_shut" 898 (.ref 534),en P "at_gap" 908 (.ref 541),en P "at_attr" 918 (.ref 548),en P "at_is" 928 (.ref 555),en P "at_bang" 938 (.ref 562),en P "at_bare" 948 (.ref 569),en P "at_code" 958 (.ref 576),en P "at_row" 968 (.ref 583),en P "at_stroke" 978 (.ref 590),en P "at_quoted" 988 (.ref 597),en P "at_qmark" 998 (.ref 604),en P "at_done" 1008 (.ref 611),en P "at_talk" 1018 (.ref 618),en P "at_tmark" 1028 (.ref 625),en P "at_asis" 1034 (.ref 630),en P "MODES" 1075 (.ref 631),en P "moved" 1084 (.ref 639),en P "begin" 1092 (.ref 646),en P "step" 1100 (.ref 653),en P "run" 1113 (.ref 660),en P "is_end" 1120 (.ref 667),en P "floored" 1127 (.ref 674),en P "Spot" 1185 (.ref 712),en P "Looking" 1304 (.ref 789),en P "looked_at" 1314 (.ref 800),en P "look" 1321 (.ref 807),en P "_law_cell" 1332 (.ref 814),en P "_law_mix" 1344 (.ref 821),en P "_law_other" 1351 (.ref 828),en P "_law_looked" 1360 (.ref 835),en P "_law_refusal" 1367 (.ref 842),en P "_law_menu" 1374 (.ref 849),en P "_law_ran" 1384 (.ref 856),en P "_law_literal" 1395 (.ref 863),en P "_law_pieces" 1410 (.ref 870),en P "_law_nested" 1424 (.ref 877),en P "_law_even" 1435 (.ref 884),en P "_law_closed" 1444 (.ref 891),en P "_law_hole_stands" 1451 (.ref 898),en P "_law_each_end" 1457 (.ref 903),en P "_law_ends" 1471 (.ref 910),en P "_law_right" 1477 (.ref 915),en P "law" 1488 (.ref 922)] 101
noncomputable def x398 (P:Params):Obj:=dO #[en P "text" 1035 (.ref 499),en P "mark" 1037 (.ref 506),en P "open" 1039 (.ref 513),en P "name" 1041 (.ref 520),en P "slash" 1043 (.ref 527),en P "shut" 1045 (.ref 534),en P "gap" 1047 (.ref 541),en P "attr" 1049 (.ref 548),en P "is" 1051 (.ref 555),en P "bang" 1053 (.ref 562),en P "bare" 1055 (.ref 569),en P "code" 1057 (.ref 576),en P "row" 1059 (.ref 583),en P "stroke" 1061 (.ref 590),en P "quoted" 1063 (.ref 597),en P "qmark" 1065 (.ref 604),en P "done" 1067 (.ref 611),en P "talk" 1069 (.ref 618),en P "tmark" 1070 (.ref 625),en P "asis" 1071 (.ref 630)] 20
noncomputable def x399:Obj:=cN "moved" 1076 291 2 633 1082
noncomputable def x400:Obj:=fM (tp 70) "moved" "moved" m4 638
noncomputable def x401:Obj:=cN "begin" 1087 295 0 640 1090
noncomputable def x402:Obj:=fM (tp 72) "begin" "begin" m5 645
noncomputable def x403:Obj:=cN "step" 1093 297 2 647 1098
noncomputable def x404:Obj:=fM (tp 73) "step" "step" m5 652
noncomputable def x405:Obj:=cN "run" 1101 299 2 654 1111
noncomputable def x406:Obj:=fM (tp 74) "run" "run" m5 659
noncomputable def x407:Obj:=cN "is_end" 1114 309 1 661 1118
noncomputable def x408:Obj:=fM (tp 75) "is_end" "is_end" m5 666
noncomputable def x409:Obj:=cN "floored" 1121 311 1 668 1125
noncomputable def x410:Obj:=fM (tp 76) "floored" "floored" m5 673
noncomputable def x411:Obj:=cS "__init__" "Spot.__init__" 1142 316 4 682 1149
noncomputable def x412:Obj:=fM (tc 78 0) "__init__" "Spot.__init__" m6 687
noncomputable def x413:Obj:=cS "shown" "Spot.shown" 1152 321 1 689 1156
noncomputable def x414:Obj:=fM (tc 78 1) "shown" "Spot.shown" m6 694
noncomputable def x415:Obj:=cS "met" "Spot.met" 1159 324 2 696 1164
noncomputable def x416:Obj:=fM (tc 78 2) "met" "Spot.met" m6 701
noncomputable def x417:Obj:=cS "turned" "Spot.turned" 1167 327 2 703 1172
noncomputable def x418:Obj:=fM (tc 78 3) "turned" "Spot.turned" m6 708
noncomputable def x419 (P:Params):Obj:=dO #[en P "__module__" 1137 m6,en P "__firstlineno__" 1141 (.int 314 1140),en P "__init__" 1151 (.ref 688),en P "shown" 1158 (.ref 695),en P "met" 1166 (.ref 702),en P "turned" 1174 (.ref 709),en P "__static_attributes__" 1178 (.ref 710),en P "__dict__" 1180 (.ref 713),en P "__weakref__" 1182 (.ref 714),en P "__doc__" 1183 .none] 4
noncomputable def x420:Obj:=⟨(.type "type"),none,(.cls ⟨"Spot",[.type "object"],[.ref 712,.type "object"],711,"Spot",true,[],[],false,none,false⟩),#[none,none,some (.str "Spot" 1130),some (.str "Spot" 1138),some (.builtin "object.__new__"),some (.bool true)]⟩
noncomputable def x421:Obj:=cS "__init__" "Looking.__init__" 1198 331 2 724 1203
noncomputable def x422:Obj:=fM (tc 79 0) "__init__" "Looking.__init__" m6 729
noncomputable def x423:Obj:=cS "look_all" "Looking.look_all" 1206 336 3 731 1214
noncomputable def x424:Obj:=fM (tc 79 1) "look_all" "Looking.look_all" m6 736
noncomputable def x425:Obj:=cS "look_piece" "Looking.look_piece" 1217 342 3 738 1224
noncomputable def x426:Obj:=fM (tc 79 2) "look_piece" "Looking.look_piece" m6 743
noncomputable def x427:Obj:=cS "look_literal" "Looking.look_literal" 1227 356 3 745 1235
noncomputable def x428:Obj:=fM (tc 79 3) "look_literal" "Looking.look_literal" m6 750
noncomputable def x429:Obj:=cS "look_hole" "Looking.look_hole" 1238 363 3 752 1245
noncomputable def x430:Obj:=fM (tc 79 4) "look_hole" "Looking.look_hole" m6 757
noncomputable def x431:Obj:=cS "look_each" "Looking.look_each" 1248 370 3 759 1256
noncomputable def x432:Obj:=fM (tc 79 5) "look_each" "Looking.look_each" m6 764
noncomputable def x433:Obj:=cS "look_if" "Looking.look_if" 1259 377 3 766 1267
noncomputable def x434:Obj:=fM (tc 79 6) "look_if" "Looking.look_if" m6 771
noncomputable def x435:Obj:=cS "look_seat" "Looking.look_seat" 1270 384 3 773 1278
noncomputable def x436:Obj:=fM (tc 79 7) "look_seat" "Looking.look_seat" m6 778
noncomputable def x437 (P:Params):Obj:=dO #[en P "__module__" 1193 m6,en P "__firstlineno__" 1197 (.int 329 1196),en P "__init__" 1205 (.ref 730),en P "look_all" 1216 (.ref 737),en P "look_piece" 1226 (.ref 744),en P "look_literal" 1237 (.ref 751),en P "look_hole" 1247 (.ref 758),en P "look_each" 1258 (.ref 765),en P "look_if" 1269 (.ref 772),en P "look_seat" 1280 (.ref 779),en P "look_drawn" 1293 (.ref 786),en P "__static_attributes__" 1297 (.ref 787),en P "__dict__" 1299 (.ref 790),en P "__weakref__" 1301 (.ref 791),en P "__doc__" 1302 .none] 4
noncomputable def x438:Obj:=⟨(.type "type"),none,(.cls ⟨"Looking",[.type "object"],[.ref 789,.type "object"],788,"Looking",true,[],[],false,none,false⟩),#[none,none,some (.str "Looking" 1186),some (.str "Looking" 1194),some (.builtin "object.__new__"),some (.bool true)]⟩
noncomputable def x439:Obj:=cN "looked_at" 1305 402 2 794 1312
noncomputable def x440:Obj:=fM (tp 80) "looked_at" "looked_at" m6 799
noncomputable def x441:Obj:=cN "look" 1315 408 1 801 1319
noncomputable def x442:Obj:=fM (tp 81) "look" "look" m6 806
noncomputable def x443:Obj:=cN "_law_cell" 1324 411 2 808 1330
noncomputable def x444:Obj:=fM (tp 83) "_law_cell" "_law_cell" m7 813
noncomputable def x445:Obj:=cN "_law_mix" 1333 418 3 815 1342
noncomputable def x446:Obj:=fM (tp 84) "_law_mix" "_law_mix" m7 820
noncomputable def x447:Obj:=cN "_law_other" 1345 425 1 822 1349
noncomputable def x448:Obj:=fM (tp 85) "_law_other" "_law_other" m7 827
noncomputable def x449:Obj:=cN "_law_looked" 1352 429 1 829 1358
noncomputable def x450:Obj:=fM (tp 86) "_law_looked" "_law_looked" m7 834
noncomputable def x451:Obj:=cN "_law_refusal" 1361 435 1 836 1365
noncomputable def x452:Obj:=fM (tp 87) "_law_refusal" "_law_refusal" m7 841
noncomputable def x453:Obj:=cN "_law_menu" 1368 446 0 843 1372
noncomputable def x454:Obj:=fM (tp 88) "_law_menu" "_law_menu" m7 848
noncomputable def x455:Obj:=cN "_law_ran" 1375 450 2 850 1382
noncomputable def x456:Obj:=fM (tp 89) "_law_ran" "_law_ran" m7 855
noncomputable def x457:Obj:=cN "_law_literal" 1385 457 2 857 1393
noncomputable def x458:Obj:=fM (tp 90) "_law_literal" "_law_literal" m7 862
noncomputable def x459:Obj:=cN "_law_pieces" 1396 467 4 864 1408
noncomputable def x460:Obj:=fM (tp 91) "_law_pieces" "_law_pieces" m7 869
noncomputable def x461:Obj:=cN "_law_nested" 1411 483 5 871 1422
noncomputable def x462:Obj:=fM (tp 92) "_law_nested" "_law_nested" m7 876
noncomputable def x463:Obj:=cN "_law_even" 1425 494 3 878 1433
noncomputable def x464:Obj:=fM (tp 93) "_law_even" "_law_even" m7 883
noncomputable def x465:Obj:=cN "_law_closed" 1436 502 1 885 1442
noncomputable def x466:Obj:=fM (tp 94) "_law_closed" "_law_closed" m7 890
noncomputable def x467:Obj:=cN "_law_hole_stands" 1445 508 1 892 1449
noncomputable def x468:Obj:=fM (tp 95) "_law_hole_stands" "_law_hole_stands" m7 897
noncomputable def x469:Obj:=cM "_law_each_end" "_law_each_end" 1452 510 3 3 899 true 900 .none .none .none (.ref 901) 1455
noncomputable def x470:Obj:=fM (tp 96) "_law_each_end" "_law_each_end" m7 902
noncomputable def x471:Obj:=cN "_law_ends" 1458 536 3 904 1469
noncomputable def x472:Obj:=fM (tp 97) "_law_ends" "_law_ends" m7 909
noncomputable def x473:Obj:=cM "_law_right" "_law_right" 1472 546 1 3 911 true 912 .none .none .none (.ref 913) 1475
noncomputable def x474:Obj:=fM (tp 98) "_law_right" "_law_right" m7 914
noncomputable def x475:Obj:=cN "law" 1478 555 1 916 1486
noncomputable def x476:Obj:=fM (tp 99) "law" "law" m7 921
noncomputable def kh0 (P:Params):Le:=[(2,boot_o_2 P),(3,x397 P),(15,x2),(22,x5),(23,x9 P),(24,x10),(25,x11),(43,x24 P),(44,x25),(62,x37 P),(63,x38),(78,x47)]
noncomputable def kh1 (P:Params):Le:=[(79,x48),(81,x50 P),(82,x51),(93,x57 P),(94,x58),(112,x70 P),(113,x71),(131,x83 P),(132,x84),(150,x96 P),(151,x97),(169,x109 P)]
noncomputable def kh2 (P:Params):Le:=[(170,x110),(181,x116 P),(182,x117),(200,x129 P),(201,x130),(219,x142 P),(220,x143),(238,x155 P),(239,x156),(257,x168 P),(258,x169),(273,x178)]
noncomputable def kh3 (P:Params):Le:=[(274,x179),(276,x181 P),(277,x182),(292,x191),(293,x192),(295,x194 P),(296,x195),(311,x204),(312,x205),(314,x207 P),(315,x208),(330,x217)]
noncomputable def kh4 (P:Params):Le:=[(331,x218),(333,x220 P),(334,x221),(352,x233 P),(353,x234),(371,x246 P),(372,x247),(383,x253 P),(384,x254),(392,x259),(393,x260),(399,x263)]
noncomputable def kh5 (P:Params):Le:=[(400,x264),(401,x265),(407,x268),(408,x269),(414,x272),(415,x273),(421,x276),(422,x277),(428,x280),(429,x281),(435,x284),(436,x285)]
noncomputable def kh6 (P:Params):Le:=[(442,x288),(443,x289),(449,x292),(450,x293),(456,x296),(457,x297),(463,x300),(464,x301),(470,x304),(471,x305),(477,x308),(478,x309)]
noncomputable def kh7 (P:Params):Le:=[(484,x312),(485,x313),(491,x316),(492,x317),(498,x320),(499,x321),(505,x324),(506,x325),(512,x328),(513,x329),(519,x332),(520,x333)]
noncomputable def kh8 (P:Params):Le:=[(526,x336),(527,x337),(533,x340),(534,x341),(540,x344),(541,x345),(547,x348),(548,x349),(554,x352),(555,x353),(561,x356),(562,x357)]
noncomputable def kh9 (P:Params):Le:=[(568,x360),(569,x361),(575,x364),(576,x365),(582,x368),(583,x369),(589,x372),(590,x373),(596,x376),(597,x377),(603,x380),(604,x381)]
noncomputable def kh10 (P:Params):Le:=[(610,x384),(611,x385),(617,x388),(618,x389),(624,x392),(625,x393),(629,x395),(630,x396),(631,x398 P),(638,x399),(639,x400),(645,x401)]
noncomputable def kh11 (P:Params):Le:=[(646,x402),(652,x403),(653,x404),(659,x405),(660,x406),(666,x407),(667,x408),(673,x409),(674,x410),(687,x411),(688,x412),(694,x413)]
noncomputable def kh12 (P:Params):Le:=[(695,x414),(701,x415),(702,x416),(708,x417),(709,x418),(711,x419 P),(712,x420),(729,x421),(730,x422),(736,x423),(737,x424),(743,x425)]
noncomputable def kh13 (P:Params):Le:=[(744,x426),(750,x427),(751,x428),(757,x429),(758,x430),(764,x431),(765,x432),(771,x433),(772,x434),(778,x435),(779,x436),(788,x437 P)]
noncomputable def kh14 (P:Params):Le:=[(789,x438),(799,x439),(800,x440),(806,x441),(807,x442),(813,x443),(814,x444),(820,x445),(821,x446),(827,x447),(828,x448),(834,x449)]
noncomputable def kh15 (P:Params):Le:=[(835,x450),(841,x451),(842,x452),(848,x453),(849,x454),(855,x455),(856,x456),(862,x457),(863,x458),(869,x459),(870,x460),(876,x461)]
noncomputable def kh16 (P:Params):Le:=[(877,x462),(883,x463),(884,x464),(890,x465),(891,x466),(897,x467),(898,x468),(902,x469),(903,x470),(909,x471),(910,x472),(914,x473)]
noncomputable def kh17 (P:Params):Le:=[(915,x474),(921,x475),(922,x476)]
noncomputable def ze3 (P:Params):Le:=kh0 P++(kh1 P++(kh2 P++(kh3 P++(kh4 P++(kh5 P++(kh6 P++(kh7 P)))))))
noncomputable def ze4 (P:Params):Le:=kh8 P++(kh9 P++(kh10 P++(kh11 P++(kh12 P++(kh13 P++(kh14 P++(kh15 P)))))))
noncomputable def zdd (P:Params):Le:=kh16 P++(kh17 P)
noncomputable def KH (P:Params):Le:=ze3 P++(ze4 P++(zdd P))
noncomputable def asL:Ld:=[2,3,15,22,23,24,25,43,44,62,63,78,79,81,82,93,94,112,113,131,132,150,151,169,170,181,182,200,201,219,220,238,239,257,258,273,274,276,277,292,293,295,296,311,312,314,315,330,331,333,334,352,353,371,372,383,384,392,393,399,400,401,407,408,414,415,421,422,428,429,435,436,442,443,449,450,456,457,463,464,470,471,477,478,484,485,491,492,498,499,505,506,512,513,519,520,526,527,533,534,540,541,547,548,554,555,561,562,568,569,575,576,582,583,589,590,596,597,603,604,610,611,617,618,624,625,629,630,631,638,639,645,646,652,653,659,660,666,667,673,674,687,688,694,695,701,702,708,709,711,712,729,730,736,737,743,744,750,751,757,758,764,765,771,772,778,779,788,789,799,800,806,807,813,814,820,821,827,828,834,835,841,842,848,849,855,856,862,863,869,870,876,877,883,884,890,891,897,898,902,903,909,910,914,915,921,922]
theorem zhV (P:Params):asL=(KH P).map (λp=>p.1):=by kernel_rfl
@[reducible] noncomputable def HK:Hook:=kHook KH asL zhV
noncomputable def obs0 (s:Shared):List (Option Obj):=asL.map s.heap.get?
noncomputable def val0 (w:World):List (Option Obj):=(KH w.params).map λp=>some p.2
noncomputable def tb0 (P:Params):BT:=.node (boot_o_0 P) (.node (boot_o_1 P) (.node (boot_o_3 P) (.node (boot_o_7 P) .nil .nil) (.node (o11 P) .nil .nil)) (.node (boot_o_5 P) (.node (boot_o_9 P) .nil .nil) (.node (o13 P) .nil .nil))) (.node (boot_o_2 P) (.node (boot_o_4 P) (.node (boot_o_8 P) .nil .nil) (.node (o12 P) .nil .nil)) (.node (boot_o_6 P) (.node (boot_o_10 P) .nil .nil) (.node (o14 P) .nil .nil)))
noncomputable def sB (w:World)(os:OsState):SharedT:=⟨tb0 w.params,15,{},#[],{},187,os⟩
noncomputable def env0:Env:={ scope:=pw.main.scope,locals:=mainNs,globals:=mainNs,cells:=[],code:=.ref 13,frame:=some 14 }
noncomputable def Wd:List Stmt:=behindTheImports pw
noncomputable def cE:Code:=.body Wd env0
noncomputable def pos0:Pos:=⟨0,0,0,0⟩
noncomputable def B0:List Frame:=[topFrame pos0]
noncomputable def ann0:Option Value:=some (.ref 6)
noncomputable def qvw:Program:=view pw [1,2,3,4,5,6,7,8,9,10,11,12,13,14,15,16,17,18,19,20,21,23,24,25,26,27,28,29,31,32,34,35,36,37,39,40,41,42,43,44,45,46,47,48,49,50,51,52,53,54,55,56,57,58,59,60,61,62,63,64,65,66,67,68,69,70,72,73,74,75,76,78,79,80,81,83,84,85,86,87,88,89,90,91,92,93,94,95,96,97,98,99]
noncomputable def loose0:Lh:=["MODES"]
noncomputable def mods:Lh:=importedModules pw.main.body
noncomputable def Xt0 (s:Shared):Bool:=xlAt qvw [] s&&recOk (RowW.records (OpenRow.toRowW (OpenLaw.row PySem.Challenge.rw_sealpress_k76_whole_just_where_all_ways))) s
noncomputable def zeJ (w:World)(r:Flow×SharedT×Code×Pos):=(r.1,r.2.2.1,(staticsOk mods (boot_heap w.params) r.2.1.abs.heap&&namesBound pw r.2.1.abs.heap&&gensDone r.2.1.abs&&laidKept (boot_heap w.params) r.2.1.abs.heap),obs0 r.2.1.abs)
noncomputable def Qc (r:Flow×SharedT×Code×Pos):=openSeen qvw loose0 mods Xt0 true r.2.1.abs
noncomputable def t0_2 (P:Params):BT:=(.node x327 .nil .nil)
noncomputable def t0_3 (P:Params):BT:=(.node x364 .nil .nil)
noncomputable def t0_1 (P:Params):BT:=(.node x38 (.node x79 (.node x166 (t0_2 P) .nil) (.node (x253 P) .nil .nil)) (.node x123 (.node x3 (t0_3 P) .nil) (.node x5 .nil .nil)))
noncomputable def t0_5 (P:Params):BT:=(.node x6 .nil .nil)
noncomputable def t0_6 (P:Params):BT:=(.node x382 .nil .nil)
noncomputable def t0_4 (P:Params):BT:=(.node x59 (.node x102 (.node x5 (t0_5 P) .nil) (.node x273 .nil .nil)) (.node x14 (.node x232 (t0_6 P) .nil) (.node x5 .nil .nil)))
noncomputable def t0_8 (P:Params):BT:=(.node x337 .nil .nil)
noncomputable def t0_9 (P:Params):BT:=(.node x5 .nil .nil)
noncomputable def t0_7 (P:Params):BT:=(.node x48 (.node x6 (.node x5 (t0_8 P) .nil) (.node x263 .nil .nil)) (.node x5 (.node x222 (t0_9 P) .nil) (.node x300 .nil .nil)))
noncomputable def zhW (P:Params):BT:=(.node x5 .nil .nil)
noncomputable def zhX (P:Params):BT:=(.node x391 .nil .nil)
noncomputable def zhY (P:Params):BT:=(.node x69 (.node (x113 P) (.node x199 (zhW P) .nil) (.node x6 .nil .nil)) (.node x156 (.node x242 (zhX P) .nil) (.node x318 .nil .nil)))
noncomputable def zhZ (P:Params):BT:=(.node x332 .nil .nil)
noncomputable def zh0 (P:Params):BT:=(.node x369 .nil .nil)
noncomputable def zh1 (P:Params):BT:=(.node x43 (.node x14 (.node (x172 P) (zhZ P) .nil) (.node x258 .nil .nil)) (.node x128 (.node x215 (zh0 P) .nil) (.node x295 .nil .nil)))
noncomputable def zh2 (P:Params):BT:=(.node x350 .nil .nil)
noncomputable def zh3 (P:Params):BT:=(.node x5 .nil .nil)
noncomputable def zh4 (P:Params):BT:=(.node x64 (.node x107 (.node (x194 P) (zh2 P) .nil) (.node x5 .nil .nil)) (.node x6 (.node x5 (zh3 P) .nil) (.node x6 .nil .nil)))
noncomputable def zh5 (P:Params):BT:=(.node x5 .nil .nil)
noncomputable def zh6 (P:Params):BT:=(.node x6 .nil .nil)
noncomputable def zh7 (P:Params):BT:=(.node (x54 P) (.node x97 (.node x184 (zh5 P) .nil) (.node x268 .nil .nil)) (.node x138 (.node x227 (zh6 P) .nil) (.node x305 .nil .nil)))
noncomputable def zh8 (P:Params):BT:=(.node x359 .nil .nil)
noncomputable def zh9 (P:Params):BT:=(.node x5 (.node x118 (.node x204 (zh8 P) .nil) (.node x286 .nil .nil)) (.node x161 (.node x14 .nil .nil) (.node x5 .nil .nil)))
noncomputable def t0_0 (P:Params):BT:=(.node (boot_o_7 P) (.node x2 (.node x5 (t0_1 P) (t0_4 P)) (.node x14 (t0_7 P) (zhY P))) (.node (x9 P) (.node x20 (zh1 P) (zh4 P)) (.node x6 (zh7 P) (zh9 P))))
noncomputable def zia (P:Params):BT:=(.node x6 .nil .nil)
noncomputable def zib (P:Params):BT:=(.node x366 .nil .nil)
noncomputable def zic (P:Params):BT:=(.node x3 (.node (x83 P) (.node x170 (zia P) .nil) (.node x5 .nil .nil)) (.node x5 (.node x213 (zib P) .nil) (.node x5 .nil .nil)))
noncomputable def zid (P:Params):BT:=(.node x348 .nil .nil)
noncomputable def zie (P:Params):BT:=(.node x385 .nil .nil)
noncomputable def zif (P:Params):BT:=(.node (x61 P) (.node x104 (.node x190 (zid P) .nil) (.node x5 .nil .nil)) (.node x147 (.node x236 (zie P) .nil) (.node x311 .nil .nil)))
noncomputable def zig (P:Params):BT:=(.node x5 .nil .nil)
noncomputable def zih (P:Params):BT:=(.node x375 .nil .nil)
noncomputable def zii (P:Params):BT:=(.node x52 (.node x93 (.node x180 (zig P) .nil) (.node x6 .nil .nil)) (.node x5 (.node (x224 P) (zih P) .nil) (.node x302 .nil .nil)))
noncomputable def zij (P:Params):BT:=(.node x5 .nil .nil)
noncomputable def zik (P:Params):BT:=(.node x6 .nil .nil)
noncomputable def zil (P:Params):BT:=(.node x73 (.node x115 (.node x6 (zij P) .nil) (.node x284 .nil .nil)) (.node x3 (.node (x246 P) (zik P) .nil) (.node x321 .nil .nil)))
noncomputable def zim (P:Params):BT:=(.node x334 .nil .nil)
noncomputable def zin (P:Params):BT:=(.node x5 .nil .nil)
noncomputable def zio (P:Params):BT:=(.node x45 (.node x88 (.node x175 (zim P) .nil) (.node x6 .nil .nil)) (.node x132 (.node x218 (zin P) .nil) (.node x6 .nil .nil)))
noncomputable def ziq (P:Params):BT:=(.node x353 .nil .nil)
noncomputable def zir (P:Params):BT:=(.node x5 .nil .nil)
noncomputable def zis (P:Params):BT:=(.node x5 (.node x111 (.node x14 (ziq P) .nil) (.node x279 .nil .nil)) (.node x152 (.node x5 (zir P) .nil) (.node x316 .nil .nil)))
noncomputable def zit (P:Params):BT:=(.node x343 .nil .nil)
noncomputable def ziu (P:Params):BT:=(.node x380 .nil .nil)
noncomputable def ziv (P:Params):BT:=(.node x56 (.node x3 (.node x5 (zit P) .nil) (.node x270 .nil .nil)) (.node (x142 P) (.node x5 (ziu P) .nil) (.node x5 .nil .nil)))
noncomputable def ziw (P:Params):BT:=(.node x6 .nil .nil)
noncomputable def zix (P:Params):BT:=(.node x5 (.node (x120 P) (.node x208 (ziw P) .nil) (.node x289 .nil .nil)) (.node x163 (.node x6 .nil .nil) (.node x5 .nil .nil)))
noncomputable def ziy (P:Params):BT:=(.node (o11 P) (.node x6 (.node x5 (zic P) (zif P)) (.node x29 (zii P) (zil P))) (.node x13 (.node (x24 P) (zio P) (zis P)) (.node x34 (ziv P) (zix P))))
noncomputable def ziz (P:Params):BT:=(.node x329 .nil .nil)
noncomputable def ziA (P:Params):BT:=(.node x5 .nil .nil)
noncomputable def ziB (P:Params):BT:=(.node x40 (.node x81 (.node (x168 P) (ziz P) .nil) (.node x255 .nil .nil)) (.node x6 (.node x5 (ziA P) .nil) (.node x292 .nil .nil)))
noncomputable def ziC (P:Params):BT:=(.node x5 .nil .nil)
noncomputable def ziD (P:Params):BT:=(.node x383 .nil .nil)
noncomputable def ziE (P:Params):BT:=(.node x14 (.node x5 (.node x189 (ziC P) .nil) (.node x6 .nil .nil)) (.node (x146 P) (.node x234 (ziD P) .nil) (.node x310 .nil .nil)))
noncomputable def ziF (P:Params):BT:=(.node x6 .nil .nil)
noncomputable def ziG (P:Params):BT:=(.node x374 .nil .nil)
noncomputable def ziH (P:Params):BT:=(.node (x50 P) (.node x5 (.node x178 (ziF P) .nil) (.node x265 .nil .nil)) (.node x135 (.node x14 (ziG P) .nil) (.node x5 .nil .nil)))
noncomputable def ziI (P:Params):BT:=(.node x356 .nil .nil)
noncomputable def ziJ (P:Params):BT:=(.node x393 .nil .nil)
noncomputable def ziK (P:Params):BT:=(.node x71 (.node x6 (.node x201 (ziI P) .nil) (.node x5 .nil .nil)) (.node x158 (.node x244 (ziJ P) .nil) (.node x319 .nil .nil)))
noncomputable def ziL (P:Params):BT:=(.node x5 .nil .nil)
noncomputable def ziM (P:Params):BT:=(.node x6 .nil .nil)
noncomputable def ziN (P:Params):BT:=(.node x5 (.node (x87 P) (.node x173 (ziL P) .nil) (.node x260 .nil .nil)) (.node x130 (.node x216 (ziM P) .nil) (.node x297 .nil .nil)))
noncomputable def ziO (P:Params):BT:=(.node x351 .nil .nil)
noncomputable def ziP (P:Params):BT:=(.node x388 .nil .nil)
noncomputable def ziQ (P:Params):BT:=(.node x6 (.node (x109 P) (.node x196 (ziO P) .nil) (.node x278 .nil .nil)) (.node x5 (.node x239 (ziP P) .nil) (.node x5 .nil .nil)))
noncomputable def ziR (P:Params):BT:=(.node x342 .nil .nil)
noncomputable def ziS (P:Params):BT:=(.node x5 .nil .nil)
noncomputable def ziT (P:Params):BT:=(.node x6 (.node x99 (.node x3 (ziR P) .nil) (.node x5 .nil .nil)) (.node x140 (.node x6 (ziS P) .nil) (.node x6 .nil .nil)))
noncomputable def ziU (P:Params):BT:=(.node x361 .nil .nil)
noncomputable def ziV (P:Params):BT:=(.node x76 (.node x14 (.node x206 (ziU P) .nil) (.node x287 .nil .nil)) (.node x5 (.node (x250 P) .nil .nil) (.node x324 .nil .nil)))
noncomputable def ziW (P:Params):BT:=(.node (boot_o_9 P) (.node (x4 P) (.node x17 (ziB P) (ziE P)) (.node (x28 P) (ziH P) (ziK P))) (.node x11 (.node x22 (ziN P) (ziQ P)) (.node x5 (ziT P) (ziV P))))
noncomputable def ziX (P:Params):BT:=(.node x5 .nil .nil)
noncomputable def ziY (P:Params):BT:=(.node x367 .nil .nil)
noncomputable def ziZ (P:Params):BT:=(.node x5 (.node x85 (.node x14 (ziX P) .nil) (.node x257 .nil .nil)) (.node x126 (.node x5 (ziY P) .nil) (.node x294 .nil .nil)))
noncomputable def zi0 (P:Params):BT:=(.node x5 .nil .nil)
noncomputable def zi1 (P:Params):BT:=(.node x6 .nil .nil)
noncomputable def zi2 (P:Params):BT:=(.node x62 (.node x105 (.node x192 (zi0 P) .nil) (.node x276 .nil .nil)) (.node x149 (.node x3 (zi1 P) .nil) (.node x313 .nil .nil)))
noncomputable def zi3 (P:Params):BT:=(.node x340 .nil .nil)
noncomputable def zi4 (P:Params):BT:=(.node x377 .nil .nil)
noncomputable def zi5 (P:Params):BT:=(.node x14 (.node x95 (.node x182 (zi3 P) .nil) (.node x5 .nil .nil)) (.node x137 (.node x225 (zi4 P) .nil) (.node x303 .nil .nil)))
noncomputable def zi6 (P:Params):BT:=(.node x358 .nil .nil)
noncomputable def zi7 (P:Params):BT:=(.node x395 .nil .nil)
noncomputable def zi8 (P:Params):BT:=(.node x3 (.node (x116 P) (.node x5 (zi6 P) .nil) (.node x5 .nil .nil)) (.node x5 (.node x248 (zi7 P) .nil) (.node x6 .nil .nil)))
noncomputable def zi9 (P:Params):BT:=(.node x335 .nil .nil)
noncomputable def zja (P:Params):BT:=(.node x372 .nil .nil)
noncomputable def zjb (P:Params):BT:=(.node x46 (.node x90 (.node x6 (zi9 P) .nil) (.node x5 .nil .nil)) (.node x3 (.node (x220 P) (zja P) .nil) (.node x5 .nil .nil)))
noncomputable def zjc (P:Params):BT:=(.node x6 .nil .nil)
noncomputable def zjd (P:Params):BT:=(.node x390 .nil .nil)
noncomputable def zje (P:Params):BT:=(.node x67 (.node x14 (.node (x198 P) (zjc P) .nil) (.node x281 .nil .nil)) (.node x154 (.node x241 (zjd P) .nil) (.node x5 .nil .nil)))
noncomputable def zjf (P:Params):BT:=(.node x345 .nil .nil)
noncomputable def zjg (P:Params):BT:=(.node x5 .nil .nil)
noncomputable def zjh (P:Params):BT:=(.node (x57 P) (.node x5 (.node x187 (zjf P) .nil) (.node x271 .nil .nil)) (.node x144 (.node x230 (zjg P) .nil) (.node x308 .nil .nil)))
noncomputable def zji (P:Params):BT:=(.node x5 .nil .nil)
noncomputable def zjj (P:Params):BT:=(.node x78 (.node x121 (.node x210 (zji P) .nil) (.node x6 .nil .nil)) (.node x164 (.node x252 .nil .nil) (.node x326 .nil .nil)))
noncomputable def zjk (P:Params):BT:=(.node (o13 P) (.node x8 (.node x19 (ziZ P) (zi2 P)) (.node x31 (zi5 P) (zi8 P))) (.node x3 (.node x26 (zjb P) (zje P)) (.node x36 (zjh P) (zjj P))))
noncomputable def zjl (P:Params):BT:=(.node x328 .nil .nil)
noncomputable def zjm (P:Params):BT:=(.node x365 .nil .nil)
noncomputable def zjn (P:Params):BT:=(.node x39 (.node x80 (.node x167 (zjl P) .nil) (.node x254 .nil .nil)) (.node x5 (.node (x211 P) (zjm P) .nil) (.node x291 .nil .nil)))
noncomputable def ze5 (P:Params):BT:=(.node x346 .nil .nil)
noncomputable def ze6 (P:Params):BT:=(.node x5 .nil .nil)
noncomputable def ze7 (P:Params):BT:=(.node x60 (.node x103 (.node x6 (ze5 P) .nil) (.node x5 .nil .nil)) (.node x3 (.node (x233 P) (ze6 P) .nil) (.node x6 .nil .nil)))
noncomputable def ze8 (P:Params):BT:=(.node x5 .nil .nil)
noncomputable def ze9 (P:Params):BT:=(.node x6 .nil .nil)
noncomputable def zfa (P:Params):BT:=(.node x49 (.node x91 (.node x177 (ze8 P) .nil) (.node x264 .nil .nil)) (.node x134 (.node x223 (ze9 P) .nil) (.node x301 .nil .nil)))
noncomputable def zfb (P:Params):BT:=(.node x355 .nil .nil)
noncomputable def zfc (P:Params):BT:=(.node x392 .nil .nil)
noncomputable def zfd (P:Params):BT:=(.node (x70 P) (.node x5 (.node x200 (zfb P) .nil) (.node x282 .nil .nil)) (.node x157 (.node x243 (zfc P) .nil) (.node x5 .nil .nil)))
noncomputable def zfe (P:Params):BT:=(.node x333 .nil .nil)
noncomputable def zff (P:Params):BT:=(.node x5 .nil .nil)
noncomputable def zfg (P:Params):BT:=(.node x44 (.node x3 (.node x5 (zfe P) .nil) (.node x259 .nil .nil)) (.node (x129 P) (.node x5 (zff P) .nil) (.node x296 .nil .nil)))
noncomputable def zfh (P:Params):BT:=(.node x5 .nil .nil)
noncomputable def zfi (P:Params):BT:=(.node x387 .nil .nil)
noncomputable def zfj (P:Params):BT:=(.node x5 (.node x108 (.node x195 (zfh P) .nil) (.node x6 .nil .nil)) (.node x150 (.node x238 (zfi P) .nil) (.node x314 .nil .nil)))
noncomputable def zfk (P:Params):BT:=(.node x6 .nil .nil)
noncomputable def zfl (P:Params):BT:=(.node x378 .nil .nil)
noncomputable def zfm (P:Params):BT:=(.node x5 (.node x98 (.node x14 (zfk P) .nil) (.node x269 .nil .nil)) (.node x139 (.node x5 (zfl P) .nil) (.node x5 .nil .nil)))
noncomputable def zfn (P:Params):BT:=(.node x360 .nil .nil)
noncomputable def zfo (P:Params):BT:=(.node x75 (.node x119 (.node x205 (zfn P) .nil) (.node x5 .nil .nil)) (.node x162 (.node x3 .nil .nil) (.node x323 .nil .nil)))
noncomputable def zjo (P:Params):BT:=(.node (boot_o_8 P) (.node x3 (.node x16 (zjn P) (ze7 P)) (.node x3 (zfa P) (zfd P))) (.node x10 (.node x21 (zfg P) (zfj P)) (.node x32 (zfm P) (zfo P))))
noncomputable def zfp (P:Params):BT:=(.node x330 .nil .nil)
noncomputable def zfq (P:Params):BT:=(.node x5 .nil .nil)
noncomputable def zfr (P:Params):BT:=(.node (x41 P) (.node x84 (.node x171 (zfp P) .nil) (.node x6 .nil .nil)) (.node x125 (.node x214 (zfq P) .nil) (.node x6 .nil .nil)))
noncomputable def zfs (P:Params):BT:=(.node x349 .nil .nil)
noncomputable def zft (P:Params):BT:=(.node x5 .nil .nil)
noncomputable def zfu (P:Params):BT:=(.node x5 (.node x5 (.node x191 (zfs P) .nil) (.node x275 .nil .nil)) (.node x148 (.node x14 (zft P) .nil) (.node x312 .nil .nil)))
noncomputable def zfv (P:Params):BT:=(.node x339 .nil .nil)
noncomputable def zfw (P:Params):BT:=(.node x376 .nil .nil)
noncomputable def zfx (P:Params):BT:=(.node x53 (.node x94 (.node (x181 P) (zfv P) .nil) (.node x266 .nil .nil)) (.node x6 (.node x5 (zfw P) .nil) (.node x5 .nil .nil)))
noncomputable def zfy (P:Params):BT:=(.node x6 .nil .nil)
noncomputable def zfz (P:Params):BT:=(.node x394 .nil .nil)
noncomputable def zfA (P:Params):BT:=(.node x14 (.node x5 (.node x202 (zfy P) .nil) (.node x285 .nil .nil)) (.node (x159 P) (.node x247 (zfz P) .nil) (.node x5 .nil .nil)))
noncomputable def zfB (P:Params):BT:=(.node x5 .nil .nil)
noncomputable def zfC (P:Params):BT:=(.node x371 .nil .nil)
noncomputable def zfD (P:Params):BT:=(.node x5 (.node x89 (.node x5 (zfB P) .nil) (.node x261 .nil .nil)) (.node x14 (.node x219 (zfC P) .nil) (.node x298 .nil .nil)))
noncomputable def zfE (P:Params):BT:=(.node x5 .nil .nil)
noncomputable def zfF (P:Params):BT:=(.node x6 .nil .nil)
noncomputable def zfG (P:Params):BT:=(.node x66 (.node x112 (.node x3 (zfE P) .nil) (.node x280 .nil .nil)) (.node x153 (.node x6 (zfF P) .nil) (.node x317 .nil .nil)))
noncomputable def zfH (P:Params):BT:=(.node x344 .nil .nil)
noncomputable def zfI (P:Params):BT:=(.node x381 .nil .nil)
noncomputable def zfJ (P:Params):BT:=(.node x5 (.node (x100 P) (.node x186 (zfH P) .nil) (.node x5 .nil .nil)) (.node x143 (.node x229 (zfI P) .nil) (.node x307 .nil .nil)))
noncomputable def zfK (P:Params):BT:=(.node x362 .nil .nil)
noncomputable def zfL (P:Params):BT:=(.node x6 (.node x5 (.node x209 (zfK P) .nil) (.node x5 .nil .nil)) (.node x5 (.node x251 .nil .nil) (.node x6 .nil .nil)))
noncomputable def zfM (P:Params):BT:=(.node x1 (.node x7 (.node x6 (zfr P) (zfu P)) (.node x30 (zfx P) (zfA P))) (.node x14 (.node x25 (zfD P) (zfG P)) (.node x35 (zfJ P) (zfL P))))
noncomputable def zfN (P:Params):BT:=(.node x5 .nil .nil)
noncomputable def zfO (P:Params):BT:=(.node x6 .nil .nil)
noncomputable def zfP (P:Params):BT:=(.node x14 (.node x82 (.node x169 (zfN P) .nil) (.node x256 .nil .nil)) (.node x124 (.node x212 (zfO P) .nil) (.node x293 .nil .nil)))
noncomputable def zfQ (P:Params):BT:=(.node x347 .nil .nil)
noncomputable def zfR (P:Params):BT:=(.node x384 .nil .nil)
noncomputable def zfS (P:Params):BT:=(.node x3 (.node x6 (.node x5 (zfQ P) .nil) (.node x274 .nil .nil)) (.node x5 (.node x235 (zfR P) .nil) (.node x5 .nil .nil)))
noncomputable def zfT (P:Params):BT:=(.node x338 .nil .nil)
noncomputable def zfU (P:Params):BT:=(.node x5 .nil .nil)
noncomputable def zfV (P:Params):BT:=(.node x51 (.node x92 (.node x179 (zfT P) .nil) (.node x5 .nil .nil)) (.node x136 (.node x3 (zfU P) .nil) (.node x6 .nil .nil)))
noncomputable def zfW (P:Params):BT:=(.node x357 .nil .nil)
noncomputable def zfX (P:Params):BT:=(.node x5 .nil .nil)
noncomputable def zfY (P:Params):BT:=(.node x72 (.node x114 (.node x5 (zfW P) .nil) (.node x283 .nil .nil)) (.node x14 (.node x245 (zfX P) .nil) (.node x320 .nil .nil)))
noncomputable def zfZ (P:Params):BT:=(.node x6 .nil .nil)
noncomputable def zf0 (P:Params):BT:=(.node x370 .nil .nil)
noncomputable def zf1 (P:Params):BT:=(.node x6 (.node x5 (.node x174 (zfZ P) .nil) (.node x5 .nil .nil)) (.node x131 (.node x217 (zf0 P) .nil) (.node x5 .nil .nil)))
noncomputable def zf2 (P:Params):BT:=(.node x352 .nil .nil)
noncomputable def zf3 (P:Params):BT:=(.node x389 .nil .nil)
noncomputable def zf4 (P:Params):BT:=(.node x65 (.node x110 (.node x197 (zf2 P) .nil) (.node x5 .nil .nil)) (.node x151 (.node x240 (zf3 P) .nil) (.node x315 .nil .nil)))
noncomputable def zf5 (P:Params):BT:=(.node x5 .nil .nil)
noncomputable def zf6 (P:Params):BT:=(.node x379 .nil .nil)
noncomputable def zf7 (P:Params):BT:=(.node x55 (.node x14 (.node (x185 P) (zf5 P) .nil) (.node x6 .nil .nil)) (.node x141 (.node x228 (zf6 P) .nil) (.node x306 .nil .nil)))
noncomputable def zf8 (P:Params):BT:=(.node x5 .nil .nil)
noncomputable def zf9 (P:Params):BT:=(.node x77 (.node x3 (.node (x207 P) (zf8 P) .nil) (.node x288 .nil .nil)) (.node x6 (.node x5 .nil .nil) (.node x325 .nil .nil)))
noncomputable def zga (P:Params):BT:=(.node (boot_o_10 P) (.node x5 (.node x18 (zfP P) (zfS P)) (.node x5 (zfV P) (zfY P))) (.node x12 (.node x23 (zf1 P) (zf4 P)) (.node x33 (zf7 P) (zf9 P))))
noncomputable def zgb (P:Params):BT:=(.node x331 .nil .nil)
noncomputable def zgc (P:Params):BT:=(.node x368 .nil .nil)
noncomputable def zgd (P:Params):BT:=(.node x42 (.node x86 (.node x3 (zgb P) .nil) (.node x5 .nil .nil)) (.node x127 (.node x6 (zgc P) .nil) (.node x5 .nil .nil)))
noncomputable def zge (P:Params):BT:=(.node x6 .nil .nil)
noncomputable def zgf (P:Params):BT:=(.node x386 .nil .nil)
noncomputable def zgg (P:Params):BT:=(.node x63 (.node x106 (.node x193 (zge P) .nil) (.node x277 .nil .nil)) (.node x5 (.node (x237 P) (zgf P) .nil) (.node x5 .nil .nil)))
noncomputable def zgh (P:Params):BT:=(.node x341 .nil .nil)
noncomputable def zgi (P:Params):BT:=(.node x5 .nil .nil)
noncomputable def zgj (P:Params):BT:=(.node x3 (.node (x96 P) (.node x183 (zgh P) .nil) (.node x267 .nil .nil)) (.node x5 (.node x226 (zgi P) .nil) (.node x304 .nil .nil)))
noncomputable def zgk (P:Params):BT:=(.node x5 .nil .nil)
noncomputable def zgl (P:Params):BT:=(.node x396 .nil .nil)
noncomputable def zgm (P:Params):BT:=(.node (x74 P) (.node x117 (.node x203 (zgk P) .nil) (.node x6 .nil .nil)) (.node x160 (.node x249 (zgl P) .nil) (.node x322 .nil .nil)))
noncomputable def zgn (P:Params):BT:=(.node x336 .nil .nil)
noncomputable def zgo (P:Params):BT:=(.node x373 .nil .nil)
noncomputable def zgp (P:Params):BT:=(.node x47 (.node x5 (.node x176 (zgn P) .nil) (.node x262 .nil .nil)) (.node (x133 P) (.node x221 (zgo P) .nil) (.node x299 .nil .nil)))
noncomputable def zgq (P:Params):BT:=(.node x354 .nil .nil)
noncomputable def zgr (P:Params):BT:=(.node x5 .nil .nil)
noncomputable def zgs (P:Params):BT:=(.node x68 (.node x3 (.node x5 (zgq P) .nil) (.node x5 .nil .nil)) (.node (x155 P) (.node x5 (zgr P) .nil) (.node x6 .nil .nil)))
noncomputable def zgt (P:Params):BT:=(.node x5 .nil .nil)
noncomputable def zgu (P:Params):BT:=(.node x6 .nil .nil)
noncomputable def zgv (P:Params):BT:=(.node x58 (.node x101 (.node x188 (zgt P) .nil) (.node x272 .nil .nil)) (.node x145 (.node x231 (zgu P) .nil) (.node x309 .nil .nil)))
noncomputable def zgw (P:Params):BT:=(.node x363 .nil .nil)
noncomputable def zgx (P:Params):BT:=(.node x5 (.node x122 (.node x14 (zgw P) .nil) (.node x290 .nil .nil)) (.node x165 (.node x5 .nil .nil) (.node x5 .nil .nil)))
noncomputable def zgy (P:Params):BT:=(.node (o14 P) (.node x5 (.node x5 (zgd P) (zgg P)) (.node x5 (zgj P) (zgm P))) (.node (x15 P) (.node x27 (zgp P) (zgs P)) (.node (x37 P) (zgv P) (zgx P))))
noncomputable def tr0 (P:Params):BT:=(.node (boot_o_0 P) (.node (boot_o_1 P) (.node (x0 P) (t0_0 P) (ziy P)) (.node (boot_o_5 P) (ziW P) (zjk P))) (.node (boot_o_2 P) (.node (boot_o_4 P) (zjo P) (zfM P)) (.node (boot_o_6 P) (zga P) (zgy P))))
noncomputable def sC0 (w:World)(os:OsState):SharedT:=⟨tr0 w.params,631,{},#[],{},1035,os⟩
noncomputable def ck0:List Stmt:=Wd.take 69
noncomputable def ck1:List Stmt:=Wd.drop 69
noncomputable def pjA:=λ(r:Flow×SharedT×Code×Pos)=>(λx=>x.1) (Qc r)
noncomputable def Xy (w:World)(os:OsState):=(segRunT treeTable pw w 11 ann0 1 2085 (sC0 w os) (piecesOf ck1 env0 cE (⟨280,0,289,60⟩:Pos) B0)).map pjA
noncomputable def Xz (_:World)(_:OsState):=some ((λx=>x.1) (openGood qvw loose0))
theorem zde:@Xy = @Xy:=rfl
theorem zdf:@Xz = @Xz:=rfl
name_quick lhsGAQ for My.Xy by My.zde
name_quick rhsGAQ for My.Xz by My.zdf
theorem zjp (w:World):PySem.W.Fast.lhsGAQ (w.withFollow "special-get-raises" false)=PySem.W.Fast.rhsGAQ (w.withFollow "special-get-raises" false):=by kernel_rfl
theorem zjq (w:World):PySem.W.Fast.lhsGAQ (w.withFollow "special-get-raises" true)=PySem.W.Fast.rhsGAQ (w.withFollow "special-get-raises" true):=by kernel_rfl
theorem krGA (w:World):PySem.W.Fast.lhsGAQ w=PySem.W.Fast.rhsGAQ w:=byRow2 "special-get-raises" (P:=λw=>PySem.W.Fast.lhsGAQ w=PySem.W.Fast.rhsGAQ w) zjp zjq w
theorem zaC (w:World):Xy w=Xz w:=(congrFun PySem.W.Fast.lhsGAQ_eq w).trans ((krGA w).trans (congrFun PySem.W.Fast.rhsGAQ_eq w).symm)
noncomputable def pjB:=λ(r:Flow×SharedT×Code×Pos)=>(λx=>x.2.1) (Qc r)
noncomputable def XA (w:World)(os:OsState):=(segRunT treeTable pw w 11 ann0 1 2085 (sC0 w os) (piecesOf ck1 env0 cE (⟨280,0,289,60⟩:Pos) B0)).map pjB
noncomputable def XB (_:World)(_:OsState):=some ((λx=>x.2.1) (openGood qvw loose0))
theorem zdg:@XA = @XA:=rfl
theorem zdh:@XB = @XB:=rfl
name_quick lhsGBQ for My.XA by My.zdg
name_quick rhsGBQ for My.XB by My.zdh
theorem zjr (w:World):PySem.W.Fast.lhsGBQ (w.withFollow "special-get-raises" false)=PySem.W.Fast.rhsGBQ (w.withFollow "special-get-raises" false):=by kernel_rfl
theorem zjs (w:World):PySem.W.Fast.lhsGBQ (w.withFollow "special-get-raises" true)=PySem.W.Fast.rhsGBQ (w.withFollow "special-get-raises" true):=by kernel_rfl
theorem krGB (w:World):PySem.W.Fast.lhsGBQ w=PySem.W.Fast.rhsGBQ w:=byRow2 "special-get-raises" (P:=λw=>PySem.W.Fast.lhsGBQ w=PySem.W.Fast.rhsGBQ w) zjr zjs w
theorem zaD (w:World):XA w=XB w:=(congrFun PySem.W.Fast.lhsGBQ_eq w).trans ((krGB w).trans (congrFun PySem.W.Fast.rhsGBQ_eq w).symm)
noncomputable def pjC:=λ(r:Flow×SharedT×Code×Pos)=>(λx=>x.2.2.1) (Qc r)
noncomputable def XC (w:World)(os:OsState):=(segRunT treeTable pw w 11 ann0 1 2085 (sC0 w os) (piecesOf ck1 env0 cE (⟨280,0,289,60⟩:Pos) B0)).map pjC
noncomputable def XD (_:World)(_:OsState):=some ((λx=>x.2.2.1) (openGood qvw loose0))
theorem zdi:@XC = @XC:=rfl
theorem zdj:@XD = @XD:=rfl
name_quick lhsGCQ for My.XC by My.zdi
name_quick rhsGCQ for My.XD by My.zdj
theorem zjt (w:World):PySem.W.Fast.lhsGCQ (w.withFollow "special-get-raises" false)=PySem.W.Fast.rhsGCQ (w.withFollow "special-get-raises" false):=by kernel_rfl
theorem zju (w:World):PySem.W.Fast.lhsGCQ (w.withFollow "special-get-raises" true)=PySem.W.Fast.rhsGCQ (w.withFollow "special-get-raises" true):=by kernel_rfl
theorem krGC (w:World):PySem.W.Fast.lhsGCQ w=PySem.W.Fast.rhsGCQ w:=byRow2 "special-get-raises" (P:=λw=>PySem.W.Fast.lhsGCQ w=PySem.W.Fast.rhsGCQ w) zjt zju w
theorem zaE (w:World):XC w=XD w:=(congrFun PySem.W.Fast.lhsGCQ_eq w).trans ((krGC w).trans (congrFun PySem.W.Fast.rhsGCQ_eq w).symm)
noncomputable def pjD:=λ(r:Flow×SharedT×Code×Pos)=>(λx=>x.2.2.2.1) (Qc r)
noncomputable def XE (w:World)(os:OsState):=(segRunT treeTable pw w 11 ann0 1 2085 (sC0 w os) (piecesOf ck1 env0 cE (⟨280,0,289,60⟩:Pos) B0)).map pjD
noncomputable def XF (_:World)(_:OsState):=some ((λx=>x.2.2.2.1) (openGood qvw loose0))
theorem zdk:@XE = @XE:=rfl
theorem zdl:@XF = @XF:=rfl
name_quick lhsGDQ for My.XE by My.zdk
name_quick rhsGDQ for My.XF by My.zdl
theorem zjv (w:World):PySem.W.Fast.lhsGDQ (w.withFollow "special-get-raises" false)=PySem.W.Fast.rhsGDQ (w.withFollow "special-get-raises" false):=by kernel_rfl
theorem zjw (w:World):PySem.W.Fast.lhsGDQ (w.withFollow "special-get-raises" true)=PySem.W.Fast.rhsGDQ (w.withFollow "special-get-raises" true):=by kernel_rfl
theorem krGD (w:World):PySem.W.Fast.lhsGDQ w=PySem.W.Fast.rhsGDQ w:=byRow2 "special-get-raises" (P:=λw=>PySem.W.Fast.lhsGDQ w=PySem.W.Fast.rhsGDQ w) zjv zjw w
theorem zaF (w:World):XE w=XF w:=(congrFun PySem.W.Fast.lhsGDQ_eq w).trans ((krGD w).trans (congrFun PySem.W.Fast.rhsGDQ_eq w).symm)
noncomputable def pjE:=λ(r:Flow×SharedT×Code×Pos)=>(λx=>x.2.2.2.2.1) (Qc r)
noncomputable def XG (w:World)(os:OsState):=(segRunT treeTable pw w 11 ann0 1 2085 (sC0 w os) (piecesOf ck1 env0 cE (⟨280,0,289,60⟩:Pos) B0)).map pjE
noncomputable def XH (_:World)(_:OsState):=some ((λx=>x.2.2.2.2.1) (openGood qvw loose0))
theorem zdm:@XG = @XG:=rfl
theorem zdn:@XH = @XH:=rfl
name_quick lhsGEQ for My.XG by My.zdm
name_quick rhsGEQ for My.XH by My.zdn
theorem zjx (w:World):PySem.W.Fast.lhsGEQ (w.withFollow "special-get-raises" false)=PySem.W.Fast.rhsGEQ (w.withFollow "special-get-raises" false):=by kernel_rfl
theorem zjy (w:World):PySem.W.Fast.lhsGEQ (w.withFollow "special-get-raises" true)=PySem.W.Fast.rhsGEQ (w.withFollow "special-get-raises" true):=by kernel_rfl
theorem krGE (w:World):PySem.W.Fast.lhsGEQ w=PySem.W.Fast.rhsGEQ w:=byRow2 "special-get-raises" (P:=λw=>PySem.W.Fast.lhsGEQ w=PySem.W.Fast.rhsGEQ w) zjx zjy w
theorem zaG (w:World):XG w=XH w:=(congrFun PySem.W.Fast.lhsGEQ_eq w).trans ((krGE w).trans (congrFun PySem.W.Fast.rhsGEQ_eq w).symm)
noncomputable def pjF:=λ(r:Flow×SharedT×Code×Pos)=>(λx=>x.2.2.2.2.2.1) (Qc r)
noncomputable def XI (w:World)(os:OsState):=(segRunT treeTable pw w 11 ann0 1 2085 (sC0 w os) (piecesOf ck1 env0 cE (⟨280,0,289,60⟩:Pos) B0)).map pjF
noncomputable def XJ (_:World)(_:OsState):=some ((λx=>x.2.2.2.2.2.1) (openGood qvw loose0))
theorem zdo:@XI = @XI:=rfl
theorem zdp:@XJ = @XJ:=rfl
name_quick lhsGFQ for My.XI by My.zdo
name_quick rhsGFQ for My.XJ by My.zdp
theorem zjz (w:World):PySem.W.Fast.lhsGFQ (w.withFollow "special-get-raises" false)=PySem.W.Fast.rhsGFQ (w.withFollow "special-get-raises" false):=by kernel_rfl
theorem zjA (w:World):PySem.W.Fast.lhsGFQ (w.withFollow "special-get-raises" true)=PySem.W.Fast.rhsGFQ (w.withFollow "special-get-raises" true):=by kernel_rfl
theorem krGF (w:World):PySem.W.Fast.lhsGFQ w=PySem.W.Fast.rhsGFQ w:=byRow2 "special-get-raises" (P:=λw=>PySem.W.Fast.lhsGFQ w=PySem.W.Fast.rhsGFQ w) zjz zjA w
theorem zaH (w:World):XI w=XJ w:=(congrFun PySem.W.Fast.lhsGFQ_eq w).trans ((krGF w).trans (congrFun PySem.W.Fast.rhsGFQ_eq w).symm)
noncomputable def pjG:=λ(r:Flow×SharedT×Code×Pos)=>(λx=>x.2.2.2.2.2.2.1) (Qc r)
noncomputable def XM (w:World)(os:OsState):=(segRunT treeTable pw w 11 ann0 1 2085 (sC0 w os) (piecesOf ck1 env0 cE (⟨280,0,289,60⟩:Pos) B0)).map pjG
noncomputable def XN (_:World)(_:OsState):=some ((λx=>x.2.2.2.2.2.2.1) (openGood qvw loose0))
theorem zdq:@XM = @XM:=rfl
theorem zdr:@XN = @XN:=rfl
name_quick lhsGGQ for My.XM by My.zdq
name_quick rhsGGQ for My.XN by My.zdr
theorem zjB (w:World):PySem.W.Fast.lhsGGQ (w.withFollow "special-get-raises" false)=PySem.W.Fast.rhsGGQ (w.withFollow "special-get-raises" false):=by kernel_rfl
theorem zjC (w:World):PySem.W.Fast.lhsGGQ (w.withFollow "special-get-raises" true)=PySem.W.Fast.rhsGGQ (w.withFollow "special-get-raises" true):=by kernel_rfl
theorem krGG (w:World):PySem.W.Fast.lhsGGQ w=PySem.W.Fast.rhsGGQ w:=byRow2 "special-get-raises" (P:=λw=>PySem.W.Fast.lhsGGQ w=PySem.W.Fast.rhsGGQ w) zjB zjC w
theorem zaI (w:World):XM w=XN w:=(congrFun PySem.W.Fast.lhsGGQ_eq w).trans ((krGG w).trans (congrFun PySem.W.Fast.rhsGGQ_eq w).symm)
noncomputable def pjH:=λ(r:Flow×SharedT×Code×Pos)=>(λx=>x.2.2.2.2.2.2.2) (Qc r)
noncomputable def XO (w:World)(os:OsState):=(segRunT treeTable pw w 11 ann0 1 2085 (sC0 w os) (piecesOf ck1 env0 cE (⟨280,0,289,60⟩:Pos) B0)).map pjH
noncomputable def XQ (_:World)(_:OsState):=some ((λx=>x.2.2.2.2.2.2.2) (openGood qvw loose0))
theorem zds:@XO = @XO:=rfl
theorem zdt:@XQ = @XQ:=rfl
name_quick lhsGHQ for My.XO by My.zds
name_quick rhsGHQ for My.XQ by My.zdt
theorem zjD (w:World):PySem.W.Fast.lhsGHQ (w.withFollow "special-get-raises" false)=PySem.W.Fast.rhsGHQ (w.withFollow "special-get-raises" false):=by kernel_rfl
theorem zjE (w:World):PySem.W.Fast.lhsGHQ (w.withFollow "special-get-raises" true)=PySem.W.Fast.rhsGHQ (w.withFollow "special-get-raises" true):=by kernel_rfl
theorem krGH (w:World):PySem.W.Fast.lhsGHQ w=PySem.W.Fast.rhsGHQ w:=byRow2 "special-get-raises" (P:=λw=>PySem.W.Fast.lhsGHQ w=PySem.W.Fast.rhsGHQ w) zjD zjE w
theorem zaJ (w:World):XO w=XQ w:=(congrFun PySem.W.Fast.lhsGHQ_eq w).trans ((krGH w).trans (congrFun PySem.W.Fast.rhsGHQ_eq w).symm)
noncomputable def KD (w:World)(os:OsState):=segRunT treeTable pw w 11 ann0 1 6210 (sB w os) (piecesOf ck0 env0 cE pos0 B0)
noncomputable def KG (w:World)(os:OsState):Option (Flow×SharedT×Code×Pos):=some (Flow.next,sC0 w os,cE,(⟨280,0,289,60⟩:Pos))
theorem zdu:@KD = @KD:=rfl
theorem zdv:@KG = @KG:=rfl
name_quick lhsC0Q for My.KD by My.zdu
name_quick rhsC0Q for My.KG by My.zdv
theorem zjF (w:World):PySem.W.Fast.lhsC0Q (w.withFollow "special-get-raises" false)=PySem.W.Fast.rhsC0Q (w.withFollow "special-get-raises" false):=by kernel_rfl
theorem zjG (w:World):PySem.W.Fast.lhsC0Q (w.withFollow "special-get-raises" true)=PySem.W.Fast.rhsC0Q (w.withFollow "special-get-raises" true):=by kernel_rfl
theorem krC0 (w:World):PySem.W.Fast.lhsC0Q w=PySem.W.Fast.rhsC0Q w:=byRow2 "special-get-raises" (P:=λw=>PySem.W.Fast.lhsC0Q w=PySem.W.Fast.rhsC0Q w) zjF zjG w
theorem zaK (w:World):KD w=KG w:=(congrFun PySem.W.Fast.lhsC0Q_eq w).trans ((krC0 w).trans (congrFun PySem.W.Fast.rhsC0Q_eq w).symm)
noncomputable def lhs (w:World)(os:OsState):=(segRunT treeTable pw w 11 ann0 1 2085 (sC0 w os) (piecesOf ck1 env0 cE (⟨280,0,289,60⟩:Pos) B0)).map (zeJ w)
noncomputable def rhs (w:World)(_:OsState):=some (Flow.next,cE,true,val0 w)
theorem zjH:@lhs = @lhs:=rfl
theorem zjI:@rhs = @rhs:=rfl
name_quick lhsQ for My.lhs by My.zjH
name_quick rhsQ for My.rhs by My.zjI
theorem krf (w:World):PySem.W.Fast.lhsQ (w.withFollow "special-get-raises" false)=PySem.W.Fast.rhsQ (w.withFollow "special-get-raises" false):=by kernel_rfl
theorem krt (w:World):PySem.W.Fast.lhsQ (w.withFollow "special-get-raises" true)=PySem.W.Fast.rhsQ (w.withFollow "special-get-raises" true):=by kernel_rfl
theorem kr (w:World):PySem.W.Fast.lhsQ w=PySem.W.Fast.rhsQ w:=byRow2 "special-get-raises" (P:=λw=>PySem.W.Fast.lhsQ w=PySem.W.Fast.rhsQ w) krf krt w
theorem zdw (w:World):lhs w=rhs w:=(congrFun PySem.W.Fast.lhsQ_eq w).trans ((kr w).trans (congrFun PySem.W.Fast.rhsQ_eq w).symm)
noncomputable def lhs1 (w:World)(os:OsState):=topGo treeTable pw w 11 ann0 12 ⟨boot_heap w.params,#[],boot_drawn,boot_toks,os⟩ (topStub pw)
noncomputable def rhs1 (w:World)(os:OsState):Option (Shared×Thread):=some ((sB w os).abs,⟨denote treeTable cE,cE,pos0,B0⟩)
theorem zgz:@lhs1 = @lhs1:=rfl
theorem zgA:@rhs1 = @rhs1:=rfl
name_quick lhs1Q for My.lhs1 by My.zgz
name_quick rhs1Q for My.rhs1 by My.zgA
theorem kr1 (w:World):PySem.W.Fast.lhs1Q w=PySem.W.Fast.rhs1Q w:=by kernel_rfl
theorem zjJ (w:World):lhs1 w=rhs1 w:=(congrFun PySem.W.Fast.lhs1Q_eq w).trans ((kr1 w).trans (congrFun PySem.W.Fast.rhs1Q_eq w).symm)
noncomputable def lhs2 (w:World)(os:OsState):=segRun treeTable pw w 11 ann0 1 1 (sB w os).abs (blockOf Wd env0 cE pos0 B0)
noncomputable def rhs2 (w:World)(os:OsState):Option (Flow×Shared×Code×Pos):=some (.next,(sB w os).abs,cE,pos0)
theorem zgB:@lhs2 = @lhs2:=rfl
theorem zgC:@rhs2 = @rhs2:=rfl
name_quick lhs2Q for My.lhs2 by My.zgB
name_quick rhs2Q for My.rhs2 by My.zgC
theorem kr2 (w:World):PySem.W.Fast.lhs2Q w=PySem.W.Fast.rhs2Q w:=by kernel_rfl
theorem zjK (w:World):lhs2 w=rhs2 w:=(congrFun PySem.W.Fast.lhs2Q_eq w).trans ((kr2 w).trans (congrFun PySem.W.Fast.rhs2Q_eq w).symm)
noncomputable def lhs3 (w:World):Bool×Nat×Option Value:=((boot_heap w.params).isNs mainGlobals&&(#[]:Array GenState).size == 0,(boot_heap w.params).objs.size,(boot_heap w.params).nsMap mainGlobals "__annotations__")
theorem zgD:@lhs3 = @lhs3:=rfl
name_quick lhs3Q for My.lhs3 by My.zgD
theorem kr3 (w:World):PySem.W.Fast.lhs3Q w=(true,11,ann0):=by kernel_rfl
theorem zjL (w:World):lhs3 w=(true,11,ann0):=(congrFun PySem.W.Fast.lhs3Q_eq w).trans (kr3 w)
theorem fin0 (w:World)(s:Shared)(q:Pos):topRun treeTable pw w 11 ann0 2 s (restOf [] env0 cE q B0)=some s:=rfl
theorem zdx:Wd=ck0++(ck1++[]):=by rw [uz];unfold ck0 ck1;exact(List.take_append_drop _ _).symm
theorem zdy (w:World)(os:OsState):∃ s:Shared,topRun treeTable pw w 11 ann0 (12+(1+(6210+(2085+2)))) ⟨boot_heap w.params,#[],boot_drawn,boot_toks,os⟩ (topStub pw)=some s /\ (staticsOk mods (boot_heap w.params) s.heap&&namesBound pw s.heap&&gensDone s&&laidKept (boot_heap w.params) s.heap)=true/\openSeen qvw loose0 mods Xt0 true s=openGood qvw loose0/\obs0 s=val0 w:=by
 obtain⟨⟨f,s,c,q⟩,hr,hF⟩:=Option.map_eq_some_iff.mp (congrFun (zdw w) os);unfold zeJ at hF;simp only [Uu] at hF;obtain⟨rfl,rfl,h1,h3⟩:=hF;have h2:openSeen qvw loose0 mods Xt0 true s.abs=openGood qvw loose0:=by have hA:=congrFun (zaC w) os;unfold Xy Xz at hA;rw [hr,uR] at hA;have hA:=uB hA;have hB:=congrFun (zaD w) os;unfold XA XB at hB;rw [hr,uR] at hB;have hB:=uB hB;have hC:=congrFun (zaE w) os;unfold XC XD at hC;rw [hr,uR] at hC;have hC:=uB hC;have hD:=congrFun (zaF w) os;unfold XE XF at hD;rw [hr,uR] at hD;have hD:=uB hD;have hE:=congrFun (zaG w) os;unfold XG XH at hE;rw [hr,uR] at hE;have hE:=uB hE;have hF:=congrFun (zaH w) os;unfold XI XJ at hF;rw [hr,uR] at hF;have hF:=uB hF;have hG:=congrFun (zaI w) os;unfold XM XN at hG;rw [hr,uR] at hG;have hG:=uB hG;have hH:=congrFun (zaJ w) os;unfold XO XQ at hH;rw [hr,uR] at hH;have hH:=uB hH;exact gx hA (gx hB (gx hC (gx hD (gx hE (gx hF (gx hG hH))))))
 refine⟨s.abs,?_,h1,h2,h3⟩;refine go_top (congrFun (zjJ w) os) (piece_block (congrFun (zjK w) os) ?_);rw [show restOf Wd env0 cE pos0 [topFrame pos0]=restOf (ck0++(ck1++[])) env0 cE pos0 [topFrame pos0] from congrArg (λx=>restOf x env0 cE pos0 [topFrame pos0]) zdx];exact(piece_app (segRun_of (congrFun (zaK w) os)) (piece_app (segRun_of hr) (fin0 w s.abs q)))
theorem zjM (w:World):(fencedOpening treeTable pw w 8410).map (λs=>(s.heap,s.gens,s.drawn,s.toks))=some (boot_heap w.params,Array.mk [],boot_drawn,boot_toks):=boot_open (p:=pw) (N:=8410) (by kernel_rfl) (by kernel_rfl) (λ_=>rfl) w
theorem left:LeftO pw qvw loose0 Xt0 HK.obs HK.val 8410:=L2.left_run (M:=12+(1+(6210+(2085+2)))) (m0:=11) (ann:=ann0) zjM zjL zdy (by decide)
end My
set_option maxHeartbeats 1000000
namespace L2
open PySem PySem.Spec PyProof.Rows
noncomputable abbrev Key:=Sum Int Str
noncomputable def QX:Key->Value->Bool
 | .inl k,v=>Value.isInt k v
 | .inr x,v=>Value.isStrOf x v
noncomputable def keyH (w:World):Key->Int
 | .inl k=>hashInt k
 | .inr x=>hashStr w x
theorem qw:∀ {k:Key} {v:Value},QX k v=true->(∃ i t,k=Sum.inl i/\v=Value.int i t)\/(∃ x t,k=Sum.inr x/\v=Value.str x t)
 | .inl i,v,h=>by obtain⟨t,e⟩:=Value.isInt_shape (k:=i) (v:=v) h;exact .inl ⟨i,t,rfl,e⟩
 | .inr x,v,h=>by obtain⟨t,e⟩:=Value.isStrOf_shape (x:=x) (v:=v) h;exact .inr ⟨x,t,rfl,e⟩
theorem zaL (i:Int)(t:Tok):QX (.inl i) (.int i t)=true:=by simp [QX,Value.isInt]
theorem zaM (x:Str)(t:Tok):QX (.inr x) (.str x t)=true:=by simp [QX,Value.isStrOf]
theorem zgE (a b:Int):decide ((Sum.inl a:Key)=Sum.inl b)=(a == b):=by
 by_cases e:a=b
 ·subst e;simp
 ·have h:¬ (Sum.inl a:Key)=Sum.inl b:=λq=>e (Sum.inl.inj q);rw [uK h];exact(uT.mpr e).symm
theorem zgF (a b:Str):decide ((Sum.inr a:Key)=Sum.inr b)=decide (a=b):=by
 by_cases e:a=b
 ·subst e;simp
 ·have h:¬ (Sum.inr a:Key)=Sum.inr b:=λq=>e (Sum.inr.inj q);rw [uK h,uK e]
theorem zgG (a:Int)(b:Str):decide ((Sum.inl a:Key)=Sum.inr b)=false:=uK (λq=>nomatch q)
theorem zgH (a:Str)(b:Int):decide ((Sum.inr a:Key)=Sum.inl b)=false:=uK (λq=>nomatch q)
noncomputable def jQ (prog:Program)(w:World):PySem.KeyKind prog w Key where
 is:=QX
 hash:=keyH w
 inj:=λv a b ha hb=>by
  rcases qw ha with⟨i,t,rfl,rfl⟩ | ⟨x,t,rfl,rfl⟩
  ·rcases qw hb with⟨j,u,rfl,e⟩ | ⟨y,u,rfl,e⟩
   ·injection e with e1 _;rw [e1]
   ·exact nomatch e
  ·rcases qw hb with⟨j,u,rfl,e⟩ | ⟨y,u,rfl,e⟩
   ·exact nomatch e
   ·injection e with e1 _;rw [e1]
 byValue:=λk v h=>by
  rcases qw h with⟨i,t,rfl,rfl⟩ | ⟨x,t,rfl,rfl⟩<;>rfl
 pyHash:=λhv h=>by
  rcases qw hv with⟨i,t,rfl,rfl⟩ | ⟨x,t,rfl,rfl⟩
  ·exact wpAny_pyHash_int h
  ·exact wpAny_pyHash_str h
 eqBool:=λhu hv h=>by
  rcases qw hu with⟨i,t,rfl,rfl⟩ | ⟨x,t,rfl,rfl⟩
  ·rcases qw hv with⟨j,u,rfl,rfl⟩ | ⟨y,u,rfl,rfl⟩
   ·rw [zgE] at h;exact wpAny_eqBool_int h
   ·rw [zgG] at h;exact SeqAt.EqAt.int_str i t y u _ _ _ _ h
  ·rcases qw hv with⟨j,u,rfl,rfl⟩ | ⟨y,u,rfl,rfl⟩
   ·rw [zgH] at h;exact SeqAt.EqAt.str_int x t j u _ _ _ _ h
   ·rw [zgF] at h;exact wpAny_eqBool_str h
 «strs»:=λk x t v h=>by
  rcases qw h with⟨i,u,rfl,e⟩ | ⟨y,u,rfl,e⟩
  ·exact nomatch e
  ·injection e with e1 _
   subst e1
   cases v<;>rfl
theorem XR (prog:Program)(w:World)(i:Int)(t:Tok):(jQ prog w).is (.inl i) (.int i t)=true:=zaL i t
theorem XT (prog:Program)(w:World)(x:Str)(t:Tok):(jQ prog w).is (.inr x) (.str x t)=true:=zaM x t
inductive V where
 | non | bl (b:Bool) | int (i:Int) | str (x:Str) | byt (b:Array UInt8) | flt (b:UInt64) | ref (a:Addr) | ty (n:String)
 deriving DecidableEq
noncomputable def RelV:V->Value->Prop
 | .non,u=>u=Value.none
 | .bl b,u=>u=Value.bool b
 | .int i,u=>∃ t,u=Value.int i t
 | .str x,u=>∃ t,u=Value.str x t
 | .byt b,u=>∃ t,u=Value.bytes b t
 | .flt b,u=>∃ t,u=Value.float b t
 | .ref a,u=>u=Value.ref a
 | .ty n,u=>u=Value.type n
noncomputable abbrev Vals:List V->Lf->Prop:=Paired RelV
theorem Vals.length {xs:List V}{us:Lf}(r:Vals xs us):xs.length=us.length:=Paired.length r
theorem Vals.get:∀ {xs:List V} {us:Lf} {i:Nat} {x:V},Vals xs us->xs[i]? = some x->∃ u,us[i]? = some u/\RelV x u
 | _,_,_,_,.nil,e=>by simp at e
 | _,_,0,_,.cons r _,e=>by simp at e;subst e;exact⟨_,rfl,r⟩
 | _,_,i+1,x,.cons _ t,e=>by obtain⟨u,h1,h2⟩:=Vals.get (i:=i) (x:=x) t (by simpa using e);exact⟨u,by simpa using h1,h2⟩
theorem Vals.set {x:V}{u:Value}(r:RelV x u):∀ {xs:List V} {us:Lf} (i:Nat),Vals xs us->Vals (xs.set i x) (us.set i u)
 | _,_,_,.nil=>.nil
 | _,_,0,.cons _ t=>.cons r t
 | _,_,i+1,.cons q t=>.cons q (Vals.set r i t)
theorem Vals.append:∀ {xs ys:List V} {us ws:Lf},Vals xs us->Vals ys ws->Vals (xs++ys) (us++ws)
 | _,_,_,_,.nil,s=>s
 | _,_,_,_,.cons r t,s=>.cons r (Vals.append t s)
theorem Vals.take:∀ {xs:List V} {us:Lf} (n:Nat),Vals xs us->Vals (xs.take n) (us.take n)
 | _,_,0,_=>.nil
 | _,_,_+1,.nil=>.nil
 | _,_,n+1,.cons r t=>.cons r (Vals.take n t)
theorem Vals.drop:∀ {xs:List V} {us:Lf} (n:Nat),Vals xs us->Vals (xs.drop n) (us.drop n)
 | _,_,0,r=>r
 | _,_,_+1,.nil=>.nil
 | _,_,n+1,.cons _ t=>Vals.drop n t
theorem Vals.none_of:∀ {xs:List V} {us:Lf} {i:Nat},Vals xs us->xs[i]? = none->us[i]? = none:=λ{xs us i} r e=>by have h1:=r.length;have h2:xs.length<=i:=Ur.mp e;exact Ur.mpr (by lia)
noncomputable def RelO:Option V->Option Value->Prop
 | some v,some u=>RelV v u
 | none,none=>True
 | _,_=>False
noncomputable def KV {κ:Type}:List (κ×V)->List (κ×Value)->Prop:=Paired λ(p:κ×V) (q:κ×Value)=>p.1=q.1/\RelV p.2 q.2
noncomputable def kV:Key->V
 | .inl i=>.int i
 | .inr x=>.str x
inductive HO where
 | lst (xs:List V)
 | tup (xs:List V)
 | dK (kvs:List (Key×V)) | dT (kvs:List (List Key×V))
 | set (S:Int->Bool) (n:Nat)
 | ins (C dx:Addr) (fs:List (Str×V))
 | own (x:Addr)
 | xd (fs:List (Str×V))
 | met (f x:Addr)
 | rng (lo hi:Int)
 | frz (o:Obj) (u:HO)
 | tbl (ps:Array Value)
 | ext (φ:Heap->Prop)
noncomputable abbrev Hp:=Addr->Option HO
noncomputable def upd (H:Hp)(a:Addr)(o:HO):Hp:=λb=>if b=a then some o else H b
theorem zd {H:Hp}{a:Addr}{o:HO}:upd H a o a=some o:=by unfold upd;rw [uf rfl]
theorem zr {H:Hp}{a b:Addr}{o:HO}(h:b≠a):upd H a o b=H b:=by unfold upd;rw [ub h]
theorem Zb {H:Hp}{a:Addr}{o u:HO}:upd (upd H a o) a u=upd H a u:=by funext b;unfold upd;split<;>rfl
theorem KI {H:Hp}{a b:Addr}{o u:HO}(h:H a=some o)(h':H b=some u)(d:o≠u):a≠b:=by intro e;subst e;rw [h] at h';exact d (uB h')
theorem zE {H:Hp}{a b:Addr}{o:HO}(h:H a=some o)(h':H b=none):a≠b:=by intro e;subst e;rw [h] at h';cases h'
section
variable (P:Program) (w:World)
noncomputable def jr (H:Hp)(h:Heap)(a:Addr):HO->Prop
 | .lst xs=>xs.length<=sizeLine/\∃ (its:Lf) (n:Nat),Vals xs its/\h.get? a=some { cls:=.type "list",data:=.seq its.toArray n }
 | .tup xs=>xs.length<=sizeLine/\∃ its:Lf,Vals xs its/\IsTup h a its.toArray
 | .dK kvs=>kvs.length<=sizeLine/\(a == sysModules)=false/\∃ vs,KV kvs vs/\h.DictOf (jQ P w) a vs
 | .dT kvs=>kvs.length<=sizeLine/\(a == sysModules)=false/\∃ xs:List (List Key×Addr×Value),
   Paired (λ(p:List Key×V) (q:List Key×Addr×Value)=>p.1=q.1/\H q.2.1=some (.tup (p.1.map kV))/\RelV p.2 q.2.2) kvs xs /\
   ∃ o es ep,h.get? a=some o/\o.ExactDict/\o.data=.dict es ep/\es.toList=xs.map (entryOfKey (tupleKind (jQ P w)))/\(xs.map (·.1)).Nodup
 | .set S n=>h.SetOf (intKind P w) a S n
 | .ins C dx fs=>H dx=some (.own a)/\fs.length<=1000/\dx≠a/\h.get? a=some (PySem.W.instObj C dx) /\
   ∃ mA,h.Ns1 dx mA/\(∀ f,RelO (fs.lookup f) (mA f))/\PySem.Within mA (fs.map (·.1))
 | .own _=>∃ o,h.get? a=some o
 | .xd fs=>∃ mA,h.Ns1 a mA/\∀ f,RelO (fs.lookup f) (mA f)
 | .rng lo hi=>∃ t u v,h.get? a=some { cls:=.type "range",data:=.fields #[.int lo t,.int hi u,.int 1 v] }
 | .frz o u=>h.get? a=some o/\jr H h a u
 | .tbl ps=>h.get? a=some { cls:=.none,data:=.fields ps }
 | .met f x=>h.get? a=some (PySem.W.methodObj (.ref f) (.ref x))
 | .ext φ=>φ h/\(∃ o,h.get? a=some o)/\∀ h1 h2:Heap,φ h1->(∀ o,h1.get? a=some o->h2.get? a=some o)->φ h2
def HOk (H:Hp)(h:Heap):Prop:=∀ a o,H a=some o->jr P w H h a o
end
section
variable {P:Program} {w:World} {H H':Hp} {h h':Heap} {a:Addr} {o:HO}
theorem jr.lt (x:jr P w H h a o):a<h.objs.size:=by
 cases o with
 | lst xs=>obtain⟨_,_,_,_,e⟩:=x;exact ue e
 | tup xs=>obtain⟨_,_,_,p⟩:=x;exact p.lt
 | dK kvs=>obtain⟨_,_,_,_,o,_,_,e,_⟩:=x;exact ue e
 | dT kvs=>obtain⟨_,_,_,_,o,_,_,e,_⟩:=x;exact ue e
 | set S n=>obtain⟨o,_,_,_,e,_⟩:=x;exact ue e
 | ins C dx fs=>obtain⟨_,_,_,e,_⟩:=x;exact ue e
 | own y=>obtain⟨_,e⟩:=x;exact ue e
 | xd fs=>obtain⟨_,⟨_,_,_,e,_⟩,_⟩:=x;exact ue e
 | rng lo hi=>obtain⟨_,_,_,e⟩:=x;exact ue e
 | frz ob u=>obtain⟨e,_⟩:=x;exact ue e
 | tbl ps=>exact ue (show h.get? a=some _ from x)
 | met f y=>exact ue (show h.get? a=some _ from x)
 | ext φ=>obtain⟨_,⟨_,e⟩,_⟩:=x;exact ue e
theorem Paired.mapP {α β:Type}{F G:α->β->Prop}:∀ {l₁:List α} {l₂:List β},Paired F l₁ l₂->(∀ a b,F a b->G a b)->Paired G l₁ l₂
 | _,_,.nil,_=>.nil
 | _,_,.cons r t,f=>.cons (f _ _ r) (Paired.mapP t f)
theorem jr.stay (x:jr P w H h a o)(k:∀ b u,(b=a\/H b=some (.own a))->h.get? b=some u->h'.get? b=some u) (ho:∀ b,H b=some (.own a)->H' b=some (.own a)) (ht:∀ b xs,H b=some (.tup xs)->H' b=some (.tup xs)):jr P w H' h' a o:=by
 induction o with
 | lst xs=>obtain⟨z,its,n,r,e⟩:=x;exact⟨z,its,n,r,k _ _ (.inl rfl) e⟩
 | tup xs=>obtain⟨z,its,r,ob,e,c⟩:=x;exact⟨z,its,r,ob,k _ _ (.inl rfl) e,c⟩
 | dK kvs=>obtain⟨z,y,vs,r,ob,es,ep,e,c⟩:=x;exact⟨z,y,vs,r,ob,es,ep,k _ _ (.inl rfl) e,c⟩
 | dT kvs=>obtain⟨z,y,xs,r,ob,es,ep,e,c⟩:=x;exact⟨z,y,xs,Paired.mapP r λp q z=>⟨z.1,ht _ _ z.2.1,z.2.2⟩,ob,es,ep,k _ _ (.inl rfl) e,c⟩
 | set S n=>obtain⟨ob,es,ep,t,e,c⟩:=x;exact⟨ob,es,ep,t,k _ _ (.inl rfl) e,c⟩
 | ins C dx fs=>obtain⟨d,z,ne,e,mA,⟨od,es,ep,e2,c⟩,r⟩:=x;exact⟨ho _ d,z,ne,k _ _ (.inl rfl) e,mA,⟨od,es,ep,k _ _ (.inr d) e2,c⟩,r⟩
 | own y=>obtain⟨ob,e⟩:=x;exact⟨ob,k _ _ (.inl rfl) e⟩
 | xd fs=>obtain⟨mA,⟨od,es,ep,e,c⟩,r⟩:=x;exact⟨mA,⟨od,es,ep,k _ _ (.inl rfl) e,c⟩,r⟩
 | rng lo hi=>obtain⟨t,u,v,e⟩:=x;exact⟨t,u,v,k _ _ (.inl rfl) e⟩
 | frz ob u ih=>obtain⟨e,q⟩:=x;exact⟨k _ _ (.inl rfl) e,ih q⟩
 | tbl ps=>have e:h.get? a=some { cls:=.none,data:=.fields ps }:=x;show h'.get? a=some { cls:=.none,data:=.fields ps };exact k a _ (.inl rfl) e
 | met f y=>have e:h.get? a=some (PySem.W.methodObj (.ref f) (.ref y)):=x;show h'.get? a=some (PySem.W.methodObj (.ref f) (.ref y));exact k a _ (.inl rfl) e
 | ext φ=>obtain⟨p,⟨o,e⟩,st⟩:=x;exact⟨st _ _ p λo q=>k _ _ (.inl rfl) q,⟨o,k _ _ (.inl rfl) e⟩,st⟩
theorem HOk.lt (x:HOk P w H h)(e:H a=some o):a<h.objs.size:=(x a o e).lt
theorem HOk.fresh (x:HOk P w H h)(e:h.objs.size<=a):H a=none:=by
 cases q:H a with
 | none=>rfl
 | some u=>exact absurd (uq (x.lt q) e) (uM _)
theorem HOk.kept (x:HOk P w H h)(k:∀ b u,h.get? b=some u->h'.get? b=some u):HOk P w H h':=λa o e=>
 (x a o e).stay (λb u _ q=>k b u q) (λ_ q=>q) λ_ _ q=>q
theorem HOk.laid (x:HOk P w H h)(k:∀ b u,h.get? b=some u->h'.get? b=some u)(hp:h.objs.size<=a)(new:jr P w (upd H a o) h' a o):HOk P w (upd H a o) h':=λb u e=>by
 have hn:=x.fresh hp;by_cases hb:b=a
 ·subst hb;rw [zd] at e;cases e;exact new
 ·rw [zr hb] at e;exact(x b u e).stay (λc v _ q=>k c v q) (λc q=>by rw [zr (zE q hn)];exact q) λc xs q=>by rw [zr (zE q hn)];exact q
end
def Rd (H:Hp)(a:Addr)(u:HO):Prop:=H a=some u\/∃ o,H a=some (.frz o u)
theorem Rd.of {H:Hp}{a:Addr}{u:HO}(h:H a=some u):Rd H a u:=.inl h
theorem Rd.ok {P:Program}{w:World}{H:Hp}{h:Heap}{a:Addr}{u:HO}(r:Rd H a u)(x:HOk P w H h):jr P w H h a u:=by
 rcases r with r | ⟨o,r⟩
 ·exact x a u r
 ·obtain⟨_,q⟩:=x a _ r;exact q
noncomputable def Mut:Option HO->Prop
 | some (.lst _)=>True
 | some (.dK _)=>True
 | some (.dT _)=>True
 | some (.set _ _)=>True
 | some (.ins _ _ _)=>True
 | some (.ext _)=>True
 | _=>False
section
variable {P:Program} {w:World} {H:Hp} {h h':Heap} {x e:Addr} {o':HO}
theorem HOk.write (ok:HOk P w H h)(mu:Mut (H x))(he:e=x\/H e=some (.own x))(k:∀ b u,b≠e->h.get? b=some u->h'.get? b=some u)(heo:∃ u,h'.get? e=some u)
  (new:jr P w (upd H x o') h' x o'):HOk P w (upd H x o') h':=λb u q=>by
 have nown:∀ c y,H c=some (.own y)->c≠x:=λc y r z=>by subst z;rw [r] at mu;exact mu
 have ntup:∀ c xs,H c=some (.tup xs)->c≠x:=λc xs r z=>by subst z;rw [r] at mu;exact mu
 by_cases hb:b=x
 ·subst hb;rw [zd] at q;cases q;exact new
 ·rw [zr hb] at q
  by_cases hbe:b=e
  ·have q':H b=some (.own x):=by
    rcases he with z | z
    ·exact absurd (hbe.trans z) hb
    ·rw [hbe];exact z
   rw [q] at q';cases q'
   obtain⟨v,hv⟩:=heo
   exact⟨v,by rw [hbe];exact hv⟩
  ·refine(ok b u q).stay (λc v hc r=>k c v ?_ r) (λc r=>by rw [zr (nown c b r)];exact r) λc xs r=>by rw [zr (ntup c xs r)];exact r
   rcases hc with rfl | hc
   ·exact hbe
   ·rintro rfl
    rcases he with z | z
    ·exact nown c b hc z
    ·rw [hc] at z;cases z;exact hb rfl
end
structure Un (fs ex:Ld)(H H':Hp)(h h':Heap):Prop where
 keep:∀ b o,h.get? b=some o->H b=none->b∉fs->b∉ex->h'.get? b=some o
 slot:∀ b o,h.get? b=some o->H b=none->b∈fs->b∉ex->∃ sl,h'.get? b=some { o with slots:=sl }
 free:∀ b o,h.get? b=some o->H b=none->b∉ex->H' b=none
 there:∀ b o,h.get? b=some o->b∉ex->∃ o',h'.get? b=some o'
 tups:∀ b xs,H b=some (.tup xs)->H' b=some (.tup xs)
 frzs:∀ b o u,H b=some (.frz o u)->H' b=some (.frz o u)
 tbls:∀ b ps,H b=some (.tbl ps)->∃ more,H' b=some (.tbl (ps++more))
section
variable {fs fs' ex ex':Ld} {H H1 H2:Hp} {h h1 h2 h':Heap} {a x e:Addr} {o:HO}
theorem Un.any (u:Un fs ex H H1 h h1){b:Addr}{ob:Obj}(q:h.get? b=some ob)(n:H b=none)(hx:b∉ex):∃ sl,h1.get? b=some { ob with slots:=sl }:=by
 by_cases hb:b∈fs
 ·exact u.slot b ob q n hb hx
 ·exact⟨ob.slots,u.keep b ob q n hb hx⟩
theorem Un.trans (a:Un fs ex H H1 h h1)(b:Un fs ex H1 H2 h1 h2):Un fs ex H H2 h h2 where
 keep:=λc ob q n hc hx=>b.keep c ob (a.keep c ob q n hc hx) (a.free c ob q n hx) hc hx
 slot:=λc ob q n hc hx=>by
  obtain⟨sl,e1⟩:=a.slot c ob q n hc hx
  obtain⟨sl',e2⟩:=b.slot c _ e1 (a.free c ob q n hx) hc hx
  exact⟨sl',e2⟩
 free:=λc ob q n hx=>by
  obtain⟨o',e1⟩:=a.there c ob q hx
  exact b.free c o' e1 (a.free c ob q n hx) hx
 there:=λc ob q hx=>by
  obtain⟨o',e1⟩:=a.there c ob q hx
  exact b.there c o' e1 hx
 tups:=λc xs q=>b.tups c xs (a.tups c xs q)
 frzs:=λc ob xs q=>b.frzs c ob xs (a.frzs c ob xs q)
 tbls:=λc ps q=>by
  obtain⟨m1,e1⟩:=a.tbls c ps q
  obtain⟨m2,e2⟩:=b.tbls c _ e1
  exact⟨m1++m2,by rw [e2,Array.append_assoc]⟩
theorem Un.kept (k:∀ b u,h.get? b=some u->h'.get? b=some u):Un fs ex H H h h':=
 ⟨λb ob q _ _ _=>k b ob q,λb ob q _ _ _=>⟨ob.slots,k b ob q⟩,λ_ _ _ n _=>n,λb ob q _=>⟨ob,k b ob q⟩,λ_ _ q=>q,λ_ _ _ q=>q,λ_ ps q=>⟨#[],by rw [q];simp⟩⟩
theorem Un.refl:Un fs ex H H h h:=Un.kept λ_ _ q=>q
theorem Un.laid (k:∀ b u,h.get? b=some u->h'.get? b=some u)(hp:h.objs.size<=a)(hn:H a=none):Un fs ex H (upd H a o) h h' where
 keep:=λb u q _ _ _=>k b u q
 slot:=λb u q _ _ _=>⟨u.slots,k b u q⟩
 free:=λb u q n _=>by rw [zr (Uc (uq (ue q) hp))];exact n
 there:=λb u q _=>⟨u,k b u q⟩
 tups:=λb xs q=>by rw [zr (zE q hn)];exact q
 frzs:=λb u xs q=>by rw [zr (zE q hn)];exact q
 tbls:=λb ps q=>⟨#[],by rw [zr (zE q hn),q];simp⟩
theorem Un.write (mu:Mut (H x))(he:e=x\/H e=some (.own x))(k:∀ b u,b≠e->h.get? b=some u->h'.get? b=some u)(heo:∃ u,h'.get? e=some u):Un fs ex H (upd H x o) h h':=by
 have hx:∀ b,H b=none->b≠x:=λb n z=>by subst z;rw [n] at mu;exact mu
 have hb:∀ b,H b=none->b≠e:=λb n z=>by
  subst z;rcases he with r | r
  ·exact hx b n r
  ·rw [n] at r;cases r
 have hm:∀ b u,H b=some u->¬ Mut (some u)->b≠x:=λb u q nm z=>by subst z;rw [q] at mu;exact nm mu
 refine⟨λb u q n _ _=>k b u (hb b n) q,λb u q n _ _=>⟨u.slots,k b u (hb b n) q⟩,λb u q n _=>by rw [zr (hx b n)];exact n,λb u q _=>?_,
  λb xs q=>by rw [zr (hm b _ q λz=>z)];exact q,λb u xs q=>by rw [zr (hm b _ q λz=>z)];exact q,λb ps q=>⟨#[],by rw [zr (hm b _ q λz=>z),q];simp⟩⟩
 by_cases hbe:b=e
 ·subst hbe;exact heo
 ·exact⟨u,k b u hbe q⟩
theorem Un.mono (u:Un fs ex H H1 h h1)(hs:∀ b∈fs,b∈fs')(hx:∀ b∈ex,b∈ex'):Un fs' ex' H H1 h h1:= ⟨λb ob q n hb he=>u.keep b ob q n (λz=>hb (hs b z)) λz=>he (hx b z),λ_ _ q n _ he=>u.any q n λz=>he (hx _ z),λb ob q n he=>u.free b ob q n λz=>he (hx b z),λb ob q he=>u.there b ob q λz=>he (hx b z),u.tups,u.frzs,u.tbls⟩
end
noncomputable def trk (h:Heap)(H:Hp):Ld:=(List.range h.objs.size).filter λa=>(H a).isSome
noncomputable def hidT (h:Heap)(H:Hp):Heap:=PySem.W.hideAll h (trk h H)
theorem zaN (h:Heap)(H:Hp):(hidT h H).objs.size=h.objs.size:=PySem.W.hideAll_size _ _
theorem zbt {h:Heap}{H:Hp}{b:Addr}{o:Obj}(e:h.get? b=some o)(n:H b=none):(hidT h H).get? b=some o:=
 PySem.W.hideAll_get _ e λhm=>by
  have q:(H b).isSome=true:=(List.mem_filter.mp hm).2
  rw [n] at q;simp at q
theorem zdz {h:Heap}{H:Hp}{b:Addr}{o:Obj}(e:(hidT h H).get? b=some o):h.get? b=some o/\H b=none:=by
 have e':h.get? b=some o:=PySem.W.of_hideAll (trk h H) e;refine⟨e',?_⟩;cases q:H b with
 | none=>rfl
 | some x=>have hm:b∈trk h H:=List.mem_filter.mpr ⟨List.mem_range.mpr (ue e'),by simp [q]⟩;have z:(hidT h H).get? b=none:=PySem.W.hideAll_none (trk h H) hm;rw [z] at e;cases e
noncomputable def zdA (g h:Heap)(L:Addr):List (Addr×Obj):=(List.range h.objs.size).filterMap λa=>if a=L\/(g.get? a).isSome=true then none else(h.get? a).map λo=>(a,o)
noncomputable def rest (g h:Heap)(L d:Addr):List (Addr×Obj):=(zdA g h L).filter λp=>decide (p.1≠d)
structure Mod (K:Le)(mg:La)(base:Heap):Prop where
 kin:K.In base
 glob:base.Ns mainGlobals mg
 blt:∃ mb,base.Ns builtinsNs mb/\∀ x:Str,x≠"__name__"->mb x=bootBuiltins x
 nolimit:base.NoLimit
structure Cx where
 prog:Program
 w:World
 K:Le
 mg:Str->Option Value
 base:Heap
 A:Around
 N:Lh
 s₀:Shared
 H₀:Hp
 env:Env
 outer:List Env
 stack:List Env
 ex:Ld
 fn:Str->Bool
 calm:Bool
 pn:List (Addr×Obj)
 xe:Value->Shared->Prop
noncomputable def frs (l:List Env):Ld:=l.filterMap (·.frame)
noncomputable abbrev Cx.fs (X:Cx):Ld:=frs X.outer
def Vis (sc:Scope)(x:Str):Prop:=sc.names.lookup x=some .local\/sc.names.lookup x=some .cell\/sc.names.lookup x=some .free
def Loc (sc:Scope)(x:Str):Prop:=sc.names.lookup x=some .local\/sc.names.lookup x=some .cell
def Look (env:Env)(h:Heap)(m:La)(x:Str)(u:Value):Prop:= (env.kindOf x=some .local/\m x=some u)\/((env.kindOf x=some .cell\/env.kindOf x=some .free)/\∃ c,env.cells.lookup x=some c/\h.IsCell c (some u))
structure Cx.Ok (X:Cx):Prop where
 mod:Mod X.K X.mg X.base
 kind:X.env.scope.kind=.function
 glob:X.env.globals=mainGlobals
 blt:X.env.builtins=builtinsNs
 above:X.s₀.heap.objs.size<=X.env.locals
 inj:∀ x y c,X.env.cells.lookup x=some c->X.env.cells.lookup y=some c->x=y
 has:∀ x,(X.env.kindOf x=some .cell\/X.env.kindOf x=some .free)->∃ c,X.env.cells.lookup x=some c
 cab:∀ x c,X.fn x=true->X.env.cells.lookup x=some c->X.s₀.heap.objs.size<=c
 hd:X.calm=true->X.A.handled=none
 frames:X.A.frames=some X.stack
 stk:X.stack=X.outer\/(X.stack=X.env::X.outer/\X.env.frame=some X.env.locals)
 exf:∀ b∈X.ex,b≠X.env.locals/\∀ x c,X.env.cells.lookup x=some c->c≠b
 bs:∀ b o,X.base.get? b=some o->X.s₀.heap.get? b=some o/\X.H₀ b=none
 bsz:X.base.objs.size<=X.s₀.heap.objs.size
 noex:∀ b o,X.base.get? b=some o->b∉X.ex
 exfs:∀ b∈X.ex,b∉X.fs
 funs:X.s₀.heap.FunFrames X.base X.outer
 frf:∀ b∈X.fs,X.H₀ b=none
structure Inv (X:Cx)(pins:List (Addr×Obj))(σ:List (Option V))(H:Hp)(s:Shared):Prop where
 ok:X.Ok
 os:s.os=X.s₀.os
 bare:AllBare s.gens
 base:Un X.fs X.ex X.H₀ H X.s₀.heap s.heap
 loc:∃ m,s.heap.Ns X.env.locals m/\∀ (i:Nat) (x:Str) (v:V),X.N[i]? = some x->σ[i]? = some (some v)->Vis X.env.scope x->∃ u,RelV v u/\Look X.env s.heap m x u
 cell:∀ x c,X.env.cells.lookup x=some c->∃ v,s.heap.IsCell c v
 free:H X.env.locals=none
 freeC:∀ x c,X.env.cells.lookup x=some c->H c=none
 pin:∀ p∈X.pn++pins,s.heap.get? p.1=some p.2/\H p.1=none/\p.1≠X.env.locals/\p.1∉X.fs/\∀ v,p.2.data≠.cell v
 hok:HOk X.prog X.w H s.heap
 len:σ.length=X.N.length
section
variable {X:Cx} {pins:List (Addr×Obj)} {σ:List (Option V)} {H H':Hp} {s:Shared} {h':Heap}
theorem Cx.Ok.nofr (ok:X.Ok){b:Addr}{o:Obj}(e:X.base.get? b=some o):b∉X.fs:=λhb=>by have:=(ok.funs.mem hb).1;rw [e] at this;cases this
theorem Inv.bs (I:Inv X pins σ H s):∀ b o,X.base.get? b=some o->s.heap.get? b=some o/\H b=none:=λb o e=>
 ⟨I.base.keep b o (I.ok.bs b o e).1 (I.ok.bs b o e).2 (I.ok.nofr e) (I.ok.noex b o e),I.base.free b o (I.ok.bs b o e).1 (I.ok.bs b o e).2 (I.ok.noex b o e)⟩
theorem Inv.bk (I:Inv X pins σ H s):∀ b o,X.base.get? b=some o->s.heap.get? b=some o:=λb o e=>(I.bs b o e).1
theorem Inv.mod (I:Inv X pins σ H s):Mod X.K X.mg X.base:=I.ok.mod
theorem Inv.kIn (I:Inv X pins σ H s):X.K.In s.heap:=I.ok.mod.kin.keeps I.bk
theorem Inv.nolimit (I:Inv X pins σ H s):s.heap.NoLimit:=I.ok.mod.nolimit.keeps I.bk
theorem Inv.lt (I:Inv X pins σ H s):X.env.locals<s.heap.objs.size:=let ⟨_,hn,_⟩:=I.loc;hn.lt
theorem Inv.sz (I:Inv X pins σ H s):X.s₀.heap.objs.size<=s.heap.objs.size:=ux I.ok.above (gc I.lt)
theorem Inv.nofs (I:Inv X pins σ H s){a:Addr}(h:s.heap.objs.size<=a):a∉X.fs:=λhb=>by obtain⟨_,o,ho,_⟩:=I.ok.funs.mem hb;exact absurd (uq (ue ho) (ux I.sz h)) (uM _)
theorem Inv.cne (I:Inv X pins σ H s):∀ x c,X.env.cells.lookup x=some c->c≠X.env.locals:=λx c e z=>by obtain⟨v,o,ho,hd⟩:=I.cell x c e;obtain⟨m,⟨o',es,ep,ho',hd',_⟩,_⟩:=I.loc;rw [z,ho'] at ho;cases ho;rw [hd'] at hd;cases hd
theorem Inv.funs (I:Inv X pins σ H s):s.heap.FunFrames X.base X.outer:=by
 have all:∀ (l:List Env),(∀ b∈frs l,b∈X.fs)->X.s₀.heap.FunFrames X.base l->s.heap.FunFrames X.base l:=by
  intro l
  induction l with
  | nil=>intro _ _;trivial
  | cons env r ih=>intro hs hl;obtain⟨hk,⟨L,o,hf,hn,ho,hd⟩,hr⟩:=hl;have hL:L∈X.fs:=hs L (by unfold frs;rw [gb,hf];exact Ux);obtain⟨sl,e⟩:=I.base.slot L o ho (I.ok.frf L hL) hL λz=>I.ok.exfs L z hL;exact⟨hk,⟨L,_,hf,hn,e,hd⟩,ih (λb hb=>hs b (by unfold frs;rw [gb,hf];exact uP _ hb)) hr⟩
 exact all X.outer (λ_ hb=>hb) I.ok.funs
theorem Inv.stack (I:Inv X pins σ H s):s.heap.FunFrames X.base X.stack:=by
 rcases I.ok.stk with e | ⟨e,hf⟩
 ·rw [e];exact I.funs
 ·rw [e];obtain⟨m,hn,_⟩:=I.loc;refine .cons (by rw [I.ok.kind];decide) hf hn ?_ I.funs;exact gi (ux I.ok.bsz I.ok.above)
theorem Inv.stkSub (I:Inv X pins σ H s):∀ b∈frs X.stack,b∈X.env.locals::X.fs:=λb hb=>by
 rcases I.ok.stk with e | ⟨e,hf⟩
 ·rw [e] at hb;exact uP _ hb
 ·rw [e] at hb;unfold frs at hb;rw [gb,hf] at hb;exact hb
theorem Inv.stkFree (I:Inv X pins σ H s):∀ b∈frs X.stack,H b=none:=λb hb=>by
 rcases uy.mp (I.stkSub b hb) with e | hb
 ·rw [e];exact I.free
 ·obtain⟨_,o,ho,_⟩:=I.ok.funs.mem hb;exact I.base.free b o ho (I.ok.frf b hb) λz=>I.ok.exfs b z hb
theorem Inv.step {g':Array GenState}{t':Nat}{d':Drawn}{ch:Ld}(I:Inv X pins σ H s) (hch:∀ b∈ch,(b∈X.ex\/X.s₀.heap.objs.size<=b)/\b≠X.env.locals/\(∀ x c,X.env.cells.lookup x=some c->c≠b)/\∀ p∈X.pn++pins,p.1≠b) (keep:∀ b o,b≠X.env.locals->b∉X.fs->b∉ch->s.heap.get? b=some o->H b=none->h'.get? b=some o) (slot:∀ b o,b≠X.env.locals->b∈X.fs->b∉ch->s.heap.get? b=some o->H b=none->∃ sl,h'.get? b=some { o with slots:=sl }) (free:∀ b o,b∉ch->s.heap.get? b=some o->H b=none->H' b=none) (there:∀ b o,b∉ch->s.heap.get? b=some o->∃ o',h'.get? b=some o') (tups:∀ b xs,H b=some (.tup xs)->H' b=some (.tup xs)) (frzs:∀ b o u,H b=some (.frz o u)->H' b=some (.frz o u)) (tbls:∀ b ps,H b=some (.tbl ps)->∃ more,H' b=some (.tbl (ps++more))) (ns:∀ m,s.heap.Ns X.env.locals m->h'.Ns X.env.locals m) (hok:HOk X.prog X.w H' h') (hg:AllBare g') : Inv X pins σ H' { s with heap:=h',gens:=g',drawn:=d',toks:=t' }:=by
 have neL:∀ b o,X.s₀.heap.get? b=some o->b≠X.env.locals:=λb o e=>Uc (uq (ue e) I.ok.above)
 have neC:∀ b o,X.s₀.heap.get? b=some o->b∉X.ex->b∉ch:=λb o e hx hb=>by
  rcases(hch b hb).1 with z | z
  ·exact hx z
  ·exact absurd (uq (ue e) z) (uM _)
 have cellK:∀ x c,X.env.cells.lookup x=some c->∀ v,s.heap.IsCell c v->h'.IsCell c v:=λx c e v ⟨o,ho,hd⟩=>by
  have nch:c∉ch:=λz=>(hch c z).2.2.1 x c e rfl;by_cases hc:c∈X.fs
  ·obtain⟨sl,q⟩:=slot c o (I.cne x c e) hc nch ho (I.freeC x c e);exact⟨_,q,hd⟩
  ·exact⟨o,keep c o (I.cne x c e) hc nch ho (I.freeC x c e),hd⟩
 refine⟨I.ok,I.os,hg,⟨λb o e n hb hx=>?_,λb o e n hb hx=>?_,λb o e n hx=>?_,λb o e hx=>?_,λb xs e=>tups b xs (I.base.tups b xs e),λb o xs e=>frzs b o xs (I.base.frzs b o xs e),λb ps e=>?_⟩,?_,λx c e=>?_,?_,λx c e=>?_,λp hp=>?_,hok,I.len⟩
 ·exact keep b o (neL b o e) hb (neC b o e hx) (I.base.keep b o e n hb hx) (I.base.free b o e n hx)
 ·obtain⟨sl,e1⟩:=I.base.slot b o e n hb hx;obtain⟨sl',e2⟩:=slot b _ (neL b o e) hb (neC b o e hx) e1 (I.base.free b o e n hx);exact⟨sl',e2⟩
 ·obtain⟨o',e1⟩:=I.base.there b o e hx;exact free b o' (neC b o e hx) e1 (I.base.free b o e n hx)
 ·obtain⟨o',e1⟩:=I.base.there b o e hx;exact there b o' (neC b o e hx) e1
 ·obtain⟨m1,e1⟩:=I.base.tbls b ps e;obtain⟨m2,e2⟩:=tbls b _ e1;exact⟨m1++m2,by rw [e2,Array.append_assoc]⟩
 ·obtain⟨m,hn,hl⟩:=I.loc;refine⟨m,ns m hn,λi x v e1 e2 e3=>?_⟩;obtain⟨u,r,l⟩:=hl i x v e1 e2 e3;refine⟨u,r,?_⟩;rcases l with l | ⟨k,c,e,z⟩
  ·exact .inl l
  ·exact .inr ⟨k,c,e,cellK x c e _ z⟩
 ·obtain⟨v,z⟩:=I.cell x c e;exact⟨v,cellK x c e v z⟩
 ·obtain⟨m,⟨o,_,_,ho,_⟩,_⟩:=I.loc;exact free _ o (λz=>(hch _ z).2.1 rfl) ho I.free
 ·obtain⟨v,o,ho,hd⟩:=I.cell x c e;exact free c o (λz=>(hch c z).2.2.1 x c e rfl) ho (I.freeC x c e)
 ·obtain⟨e,n,ne,nf,d⟩:=I.pin p hp;have nch:p.1∉ch:=λz=>(hch p.1 z).2.2.2 p hp rfl;exact⟨keep p.1 p.2 ne nf nch e n,free p.1 p.2 nch e n,ne,nf,d⟩
theorem Inv.un {t':Nat}(I:Inv X pins σ H s)(u:Un X.fs [] H H' s.heap h')(hok:HOk X.prog X.w H' h'):Inv X pins σ H' { s with heap:=h',toks:=t' }:=by
 obtain⟨m,⟨o,es,ep,ho,r⟩,_⟩:=id I.loc;obtain⟨sl,hL⟩:=u.any ho I.free (by simp)
 exact I.step (g':=s.gens) (d':=s.drawn) (ch:=[]) (λ_ z=>nomatch z) (λb o _ hb _ e n=>u.keep b o e n hb (by simp)) (λb o _ hb _ e n=>u.slot b o e n hb (by simp)) (λb o _ e n=>u.free b o e n (by simp)) (λb o _ e=>u.there b o e (by simp)) u.tups u.frzs u.tbls (λm' hm=>by
  obtain⟨o',es',ep',ho',r'⟩:=hm
  rw [ho] at ho';cases ho'
  exact⟨_,es',ep',hL,r'⟩) hok I.bare
theorem Inv.call {g':Array GenState}{t':Nat}{d':Drawn}{ch:Ld}(I:Inv X pins σ H s)(u:Un (frs X.stack) ch H H' s.heap h')(hok:HOk X.prog X.w H' h')(hg:AllBare g') (hch:∀ b∈ch,(b∈X.ex\/X.s₀.heap.objs.size<=b)/\b≠X.env.locals/\(∀ x c,X.env.cells.lookup x=some c->c≠b)/\∀ p∈X.pn++pins,p.1≠b) : Inv X pins σ H' { s with heap:=h',gens:=g',drawn:=d',toks:=t' }:=by
 obtain⟨m,⟨o,es,ep,ho,r⟩,_⟩:=id I.loc;obtain⟨sl,hL⟩:=u.any ho I.free λz=>(hch _ z).2.1 rfl
 exact I.step (ch:=ch) hch (λb o hL hb hc e n=>u.keep b o e n (λz=>(uy.mp (I.stkSub b z)).elim hL hb) hc) (λb o _ _ hc e n=>u.any e n hc) (λb o hc e n=>u.free b o e n hc) (λb o hc e=>u.there b o e hc) u.tups u.frzs u.tbls (λm' hm=>by
  obtain⟨o',es',ep',ho',r'⟩:=hm
  rw [ho] at ho';cases ho'
  exact⟨_,es',ep',hL,r'⟩) hok hg
theorem Inv.turned {t':Nat}{it:Addr}(I:Inv X pins σ H s)(k:∀ b o,b≠it->s.heap.get? b=some o->h'.get? b=some o)(hn:H it=none)(hL:it≠X.env.locals) (h1:it∈X.ex\/X.s₀.heap.objs.size<=it) (h2:∀ x c,X.env.cells.lookup x=some c->c≠it) (h3:∀ p∈X.pn++pins,p.1≠it):Inv X pins σ H { s with heap:=h',toks:=t' }:=by
 have nit:∀ b u,H b=some u->b≠it:=λb u e z=>by rw [z,hn] at e;cases e
 refine I.step (g':=s.gens) (d':=s.drawn) (ch:=[it]) (λb hb=>?_) (λb o _ _ hc e _=>k b o (λz=>hc (by simp [z])) e) (λb o _ _ hc e _=>⟨o.slots,k b o (λz=>hc (by simp [z])) e⟩) (λ_ _ _ _ n=>n)
  (λb o hc e=>⟨o,k b o (λz=>hc (by simp [z])) e⟩) (λ_ _ e=>e) (λ_ _ _ e=>e) (λb ps e=>⟨#[],by rw [e];simp⟩) (λm hm=>?_) (λb u e=>?_) I.bare
 ·have e:b=it:=by simpa using hb
  subst e;exact⟨h1,hL,h2,h3⟩
 ·obtain⟨o,es,ep,ho,r⟩:=hm;exact⟨o,es,ep,k _ o (Ne.symm hL) ho,r⟩
 ·refine(I.hok b u e).stay (λc v hc q=>k c v ?_ q) (λ_ q=>q) λ_ _ q=>q;rcases hc with z | z
  ·rw [z];exact nit b u e
  ·exact nit c _ z
theorem Inv.tok (I:Inv X pins σ H s)(t:Nat):Inv X pins σ H { s with toks:=t }:=I.un (h':=s.heap) (t':=t) Un.refl I.hok
theorem Inv.kept {t':Nat}(I:Inv X pins σ H s)(k:∀ b u,s.heap.get? b=some u->h'.get? b=some u):Inv X pins σ H { s with heap:=h',toks:=t' }:=I.un (Un.kept k) (I.hok.kept k)
theorem Inv.laid {a:Addr}{o:HO}{t':Nat}(I:Inv X pins σ H s)(k:∀ b u,s.heap.get? b=some u->h'.get? b=some u)(hp:s.heap.objs.size<=a)(new:jr X.prog X.w (upd H a o) h' a o) :
  Inv X pins σ (upd H a o) { s with heap:=h',toks:=t' }:=I.un (Un.laid k hp (I.hok.fresh hp)) (I.hok.laid k hp new)
theorem Inv.write {x e:Addr}{o:HO}{t':Nat}(I:Inv X pins σ H s)(mu:Mut (H x))(he:e=x\/H e=some (.own x))(k:∀ b u,b≠e->s.heap.get? b=some u->h'.get? b=some u)(heo:∃ u,h'.get? e=some u)
  (new:jr X.prog X.w (upd H x o) h' x o):Inv X pins σ (upd H x o) { s with heap:=h',toks:=t' }:=I.un (Un.write mu he k heo) (I.hok.write mu he k heo new)
theorem Inv.pins_of {pins':List (Addr×Obj)}(I:Inv X pins σ H s)(h:∀ p∈pins',s.heap.get? p.1=some p.2/\H p.1=none/\p.1≠X.env.locals/\p.1∉X.fs/\∀ v,p.2.data≠.cell v):Inv X pins' σ H s:= ⟨I.ok,I.os,I.bare,I.base,I.loc,I.cell,I.free,I.freeC,λp hp=>(UA.mp hp).elim (λz=>I.pin p (uW _ z)) (h p),I.hok,I.len⟩
theorem XU {N:Lh}(hN:N.Nodup){i j:Nat}{x:Str}(a:N[i]? = some x)(b:N[j]? = some x):i=j:=by obtain⟨h1,e1⟩:=uF.mp a;obtain⟨h2,e2⟩:=uF.mp b;exact(List.getElem_inj hN).mp (e1.trans e2.symm)
theorem We {M:Model}{A:Around}{E:Value->Shared->Prop}{i:Nat}{x:Str}{v:V}{u:Value}{Q:Unit->Shared->Prop}(I:Inv X pins σ H s)(hN:X.N.Nodup)(hi:X.N[i]? = some x)(hx:Loc X.env.scope x)(r:RelV v u) (h:∀ s',Inv X pins (σ.set i (some v)) H s'->(∃ a,Heap.SameBut a s.heap s'.heap/\(a=X.env.locals\/X.env.cells.lookup x=some a))->Q () s') (hf:X.fn x=true\/X.env.scope.names.lookup x=some .local:=by first | exact .inl rfl | exact .inr rfl | assumption):wpAny M A (storeName X.env x u) Q E s:=by
 obtain⟨m,hn,hl⟩:=id I.loc;have hcls:(X.env.scope.kind == .class||(X.env.scope.kind == .module&&X.env.locals != X.env.globals))=false:=by rw [I.ok.kind];rfl
 have hiσ:i<σ.length:=by rw [I.len];exact(uF.mp hi).1
 have cne:=I.cne
 have tracked:∀ {a:Addr} {h':Heap},(∃ o,s.heap.get? a=some o/\H a=none)->Heap.SameBut a s.heap h'->HOk X.prog X.w H h':=λ{a h'} ha hs b ob e=>by
  obtain⟨_,_,hfree⟩:=ha;refine(I.hok b ob e).stay (λc w' hc q=>(hs.2 c ?_).trans q) (λ_ q=>q) λ_ _ q=>q;rintro rfl;rcases hc with rfl | hc
  ·rw [hfree] at e;cases e
  ·rw [hfree] at hc;cases hc
 rcases hx with hk | hk
 ·refine wpAny_storeName_local hk hn (λh' hn' hs=>?_) hcls;obtain⟨oL,_,_,hoL,_⟩:=id hn;refine h _ ⟨I.ok,I.os,I.bare,⟨λb o e n hb hx=>?_,λb o e n hb hx=>?_,I.base.free,λb o e hx=>?_,I.base.tups,I.base.frzs,I.base.tbls⟩,⟨_,hn',λj y v' e1 e2 e3=>?_⟩,λy c e=>?_,I.free,I.freeC,λp hp=>?_,tracked ⟨oL,hoL,I.free⟩ hs,by simpa using I.len⟩ ⟨_,hs,.inl rfl⟩
  ·exact(hs.2 b (Uc (uq (ue e) I.ok.above))).trans (I.base.keep b o e n hb hx)
  ·obtain⟨sl,e1⟩:=I.base.slot b o e n hb hx;exact⟨sl,(hs.2 b (Uc (uq (ue e) I.ok.above))).trans e1⟩
  ·obtain⟨o',e1⟩:=I.base.there b o e hx;exact⟨o',(hs.2 b (Uc (uq (ue e) I.ok.above))).trans e1⟩
  ·by_cases hj:j=i
   ·subst hj;rw [hi] at e1;cases e1;rw [List.getElem?_set_self hiσ] at e2;cases e2;exact⟨u,r,.inl ⟨hk,by simp⟩⟩
   ·rw [List.getElem?_set_ne (Ne.symm hj)] at e2;obtain⟨u',r',q⟩:=hl j y v' e1 e2 e3;refine⟨u',r',?_⟩;rcases q with⟨k,e⟩ | ⟨k,c,e,z⟩
    ·refine .inl ⟨k,?_⟩;have:y≠x:=λe=>hj (XU hN e1 (e ▸ hi));simp [this,e]
    ·exact .inr ⟨k,c,e,z.sameBut hs (cne y c e)⟩
  ·obtain⟨w',z⟩:=I.cell y c e;exact⟨w',z.sameBut hs (cne y c e)⟩
  ·obtain⟨e,n,ne,nf,d⟩:=I.pin p hp;exact⟨(hs.2 p.1 ne).trans e,n,ne,nf,d⟩
 ·have hfn:X.fn x=true:=by
   rcases hf with z | z
   ·exact z
   ·rw [z] at hk;cases hk
  obtain⟨c,hc⟩:=I.ok.has x (.inl hk)
  obtain⟨w',z⟩:=I.cell x c hc
  refine wpAny_storeName_cell I.ok.kind hk hc z (λh' hc' hs=>?_)
  obtain⟨oc,hoc,hocd⟩:=id z
  refine h { s with heap:=h' } ⟨I.ok,I.os,I.bare,⟨λb o e n hb hx=>?_,λb o e n hb hx=>?_,I.base.free,λb o e hx=>?_,I.base.tups,I.base.frzs,I.base.tbls⟩,⟨m,hn.sameBut hs (Ne.symm (cne x c hc)),λj y v' e1 e2 e3=>?_⟩,λy c' e=>?_,I.free,I.freeC,λp hp=>?_,tracked ⟨oc,hoc,I.freeC x c hc⟩ hs,by simpa using I.len⟩ ⟨c,hs,.inr hc⟩
  ·exact(hs.2 b (Uc (uq (ue e) (I.ok.cab x c hfn hc)))).trans (I.base.keep b o e n hb hx)
  ·obtain⟨sl,e1⟩:=I.base.slot b o e n hb hx
   exact⟨sl,(hs.2 b (Uc (uq (ue e) (I.ok.cab x c hfn hc)))).trans e1⟩
  ·obtain⟨o',e1⟩:=I.base.there b o e hx
   exact⟨o',(hs.2 b (Uc (uq (ue e) (I.ok.cab x c hfn hc)))).trans e1⟩
  ·by_cases hj:j=i
   ·subst hj
    rw [hi] at e1;cases e1
    rw [List.getElem?_set_self hiσ] at e2
    cases e2
    exact⟨u,r,.inr ⟨.inl hk,c,hc,hc'⟩⟩
   ·rw [List.getElem?_set_ne (Ne.symm hj)] at e2
    obtain⟨u',r',q⟩:=hl j y v' e1 e2 e3
    refine⟨u',r',?_⟩
    rcases q with q | ⟨k,c',e,z'⟩
    ·exact .inl q
    ·refine .inr ⟨k,c',e,z'.sameBut hs ?_⟩
     rintro rfl
     exact hj (XU hN e1 (I.ok.inj _ _ _ e hc ▸ hi))
  ·by_cases hcc:c' = c
   ·subst hcc;exact⟨_,hc'⟩
   ·obtain⟨w2,z2⟩:=I.cell y c' e
    exact⟨w2,z2.sameBut hs hcc⟩
  ·obtain⟨e,n,ne,nf,d⟩:=I.pin p hp
   refine⟨(hs.2 p.1 ?_).trans e,n,ne,nf,d⟩
   intro q
   rw [q,hoc] at e
   have q':oc=p.2:=uB e
   exact d w' (by rw [← q'];exact hocd)
theorem yh {M:Model}{A:Around}{E:Value->Shared->Prop}{i:Nat}{x:Str}{v:V}{u:Value}{Q:Unit->Shared->Prop}(I:Inv X pins σ H s)(hN:X.N.Nodup)(hi:X.N[i]? = some x)(hx:Loc X.env.scope x)(r:RelV v u)
  (h:∀ s',Inv X pins (σ.set i (some v)) H s'->Q () s') (hf:X.fn x=true\/X.env.scope.names.lookup x=some .local:=by first | exact .inl rfl | exact .inr rfl | assumption):wpAny M A (storeName X.env x u) Q E s:=
 We I hN hi hx r (λs' I' _=>h s' I') hf
theorem Inv.call' {s':Shared}{ch:Ld}(I:Inv X pins σ H s)(ho:s'.os=s.os)(u:Un (frs X.stack) ch H H' s.heap s'.heap)(hok:HOk X.prog X.w H' s'.heap)(hg:AllBare s'.gens) (hch:∀ b∈ch,(b∈X.ex\/X.s₀.heap.objs.size<=b)/\b≠X.env.locals/\(∀ x c,X.env.cells.lookup x=some c->c≠b)/\∀ p∈X.pn++pins,p.1≠b):Inv X pins σ H' s':=by obtain⟨h',g',d',t',o'⟩:=s';have e:o' = s.os:=ho;subst e;exact I.call (g':=g') (t':=t') (d':=d') u hok hg hch
end
noncomputable abbrev XK:=Value->Option Addr->Hp->Prop
noncomputable abbrev St:=List (Option V)
noncomputable abbrev VK:=V->Hp->Prop
noncomputable abbrev TE:=St->Hp->VK->Prop
noncomputable abbrev TT:=St->Hp->(Bool->Hp->Prop)->Prop
noncomputable abbrev TA:=St->Hp->(List V->Hp->Prop)->Prop
structure Ends where
 nx:St->Hp->Prop
 rt:VK
 bk:St->Hp->Prop:=λ_ _=>False
 ct:St->Hp->Prop:=λ_ _=>False
noncomputable abbrev TS:=Ends->St->Hp->Prop
def EP (X:Cx)(pins:List (Addr×Obj))(σ:St)(Q:VK)(u:Value)(s':Shared):Prop:=∃ v H',Inv X pins σ H' s'/\RelV v u/\Q v H'
def TP (X:Cx)(pins:List (Addr×Obj))(σ:St)(Q:Bool->Hp->Prop)(b:Bool)(s':Shared):Prop:=∃ H',Inv X pins σ H' s'/\Q b H'
def AP (X:Cx)(pins:List (Addr×Obj))(σ:St)(Q:List V->Hp->Prop)(us:Lf)(s':Shared):Prop:=∃ vs H',Inv X pins σ H' s'/\Vals vs us/\Q vs H'
def SP (X:Cx)(pins:List (Addr×Obj))(D:Ends)(f:Flow)(s':Shared):Prop:=
 match f with
 | .next=>∃ σ' H',Inv X pins σ' H' s'/\D.nx σ' H'
 | .brk=>∃ σ' H',Inv X pins σ' H' s'/\D.bk σ' H'
 | .cont=>∃ σ' H',Inv X pins σ' H' s'/\D.ct σ' H'
 | .ret u=>∃ v σ' H',Inv X pins σ' H' s'/\RelV v u/\D.rt v H'
def PE (X:Cx)(e:Expr)(t:TE):Prop:= ∀ (pins:List (Addr×Obj)) (s:Shared) (σ:St) (H:Hp) (Q:VK),Inv X pins σ H s->t σ H Q->wpAny (model X.prog X.w) X.A (eval e X.env) (EP X pins σ Q) X.xe s
def PT (X:Cx)(e:Expr)(t:TT):Prop:= ∀ (pins:List (Addr×Obj)) (s:Shared) (σ:St) (H:Hp) (Q:Bool->Hp->Prop),Inv X pins σ H s->t σ H Q->wpAny (model X.prog X.w) X.A (isTrue e X.env (eval e X.env)) (TP X pins σ Q) X.xe s
def PW (X:Cx)(e:Expr)(t:TT):Prop:= ∀ (whole:Sem Value) (pins:List (Addr×Obj)) (s:Shared) (σ:St) (H:Hp) (Q:Bool->Hp->Prop),Inv X pins σ H s->t σ H Q->wpAny (model X.prog X.w) X.A (isTrue e X.env whole) (TP X pins σ Q) X.xe s
theorem PW.pt {X:Cx}{e:Expr}{t:TT}(h:PW X e t):PT X e t:=h _
def PA (X:Cx)(es:Lg)(t:TA):Prop:= ∀ (pos:Pos) (pins:List (Addr×Obj)) (s:Shared) (σ:St) (H:Hp) (Q:List V->Hp->Prop),Inv X pins σ H s->t σ H Q->wpAny (model X.prog X.w) X.A (spliced (backTo pos (starEach es X.env))) (AP X pins σ Q) X.xe s
def PS (X:Cx)(st:Stmt)(t:TS):Prop:= ∀ (pins:List (Addr×Obj)) (s:Shared) (σ:St) (H:Hp) (D:Ends),Inv X pins σ H s->t D σ H->wpAny (model X.prog X.w) X.A (exec st X.env) (SP X pins D) X.xe s
def PSs (X:Cx)(st:List Stmt)(t:TS):Prop:= ∀ (pins:List (Addr×Obj)) (s:Shared) (σ:St) (H:Hp) (D:Ends),Inv X pins σ H s->t D σ H->wpAny (model X.prog X.w) X.A (execs st X.env) (SP X pins D) X.xe s
theorem thn {α:Type}{t:Sem α}{Q Q':α->Shared->Prop}{M:Model}{A:Around}{E:Value->Shared->Prop}{s:Shared}(h:wpAny M A t Q E s)(hQ:∀ a s,Q a s->Q' a s):wpAny M A t Q' E s:=uj h hQ λ_ _ x=>x
section
variable {X:Cx}
noncomputable def tVar (i:Nat):TE:=λσ H Q=>∃ v,σ[i]? = some (some v)/\Q v H
noncomputable def tC (v:V):TE:=λ_ H Q=>Q v H
theorem zgI {i:Nat}{x:Str}{pos:Pos}(hN:X.N[i]? = some x)(hv:Vis X.env.scope x)(hd:(x == ("__debug__":Str))=false:=by decide) (hcd:(x == ("__classdict__":Str))=false:=by decide):PE X (.Name x pos) (tVar i):=by
 intro pins s σ H Q I h;obtain⟨v,e,h⟩:=h;obtain⟨m,hn,hl⟩:=I.loc;obtain⟨u,r,l⟩:=hl i x v hN e hv;have fin:EP X pins σ Q u s:=⟨v,H,I,r,h⟩
 rcases l with⟨hk,hm⟩ | ⟨hk,c,hc,hcell⟩
 ·exact Gk (wpAny_loadName_local I.ok.kind hk hn hm fin) hd
 ·rcases hk with hk | hk
  ·exact Gk (wpAny_loadName_cell I.ok.kind hk hc hcell fin) hd
  ·exact Gk (wpAny_loadName_free I.ok.kind hk hc hcell fin hcd) hd
theorem zgJ {i j pos}:PE X (.Constant (.int i) j pos) (tC (.int i)):=λ_ _ _ H _ I h=>wpAny_Constant_int ⟨.int i,H,I.tok _,⟨_,rfl⟩,h⟩
theorem zjN {b j pos}:PE X (.Constant (.bool b) j pos) (tC (.bl b)):=λ_ _ _ H _ I h=>Constant_bool ⟨.bl b,H,I,rfl,h⟩
theorem zgK {j pos}:PE X (.Constant .none j pos) (tC .non):=λ_ _ _ H _ I h=>Constant_none ⟨.non,H,I,rfl,h⟩
theorem V7 {x j pos}:PE X (.Constant (.str x) j pos) (tC (.str x)):=λ_ _ _ H _ I h=>Calls.Constant_str ⟨.str x,H,I.tok _,⟨_,rfl⟩,h⟩
def Gl (X:Cx)(x:Str):Prop:=X.env.kindOf x=some .globalImplicit
theorem jR {E:Value->Shared->Prop}{pins:List (Addr×Obj)}{s:Shared}{σ:St}{H:Hp}{x:Str}{u:Value}{pos:Pos}{Q:Value->Shared->Prop}(I:Inv X pins σ H s)(hg:Gl X x)(hm:X.mg x=some u)(h:Q u s)
  (hd:(x == ("__debug__":Str))=false:=by decide):wpAny (model X.prog X.w) X.A (eval (.Name x pos) X.env) Q E s:=
 Calls.Name_function_global I.ok.kind hg (Calls.loadGlobal_global (by rw [I.ok.glob];exact I.mod.glob.keeps I.bk) hm h) hd
theorem QY {E:Value->Shared->Prop}{pins:List (Addr×Obj)}{s:Shared}{σ:St}{H:Hp}{x:Str}{u:Value}{pos:Pos}{Q:Value->Shared->Prop}(I:Inv X pins σ H s)(hg:Gl X x)(hm:X.mg x=none)(hv:bootBuiltins x=some u)(h:Q u s) (hn:x≠"__name__":=by decide) (hd:(x == ("__debug__":Str))=false:=by decide):wpAny (model X.prog X.w) X.A (eval (.Name x pos) X.env) Q E s:=by obtain⟨mb,h1,h2⟩:=I.mod.blt;exact Calls.Name_function_global I.ok.kind hg (Calls.loadGlobal_builtin (by rw [I.ok.glob];exact I.mod.glob.keeps I.bk) hm (by rw [I.ok.blt];exact h1.keeps I.bk) ((h2 x hn).trans hv) h) hd
theorem KJ {x:Str}{v:V}{u:Value}{pos:Pos}(hg:Gl X x)(hm:X.mg x=some u)(r:RelV v u)(hd:(x == ("__debug__":Str))=false:=by decide):PE X (.Name x pos) (tC v):=
 λ_ _ _ H _ I h=>jR I hg hm ⟨v,H,I,r,h⟩ hd
theorem zdB {x:Str}{v:V}{u:Value}{pos:Pos}(hg:Gl X x)(hm:X.mg x=none)(hv:bootBuiltins x=some u)(r:RelV v u)(hn:x≠"__name__":=by decide) (hd:(x == ("__debug__":Str))=false:=by decide):PE X (.Name x pos) (tC v):=
 λ_ _ _ H _ I h=>QY I hg hm hv ⟨v,H,I,r,h⟩ hn hd
variable {a b:Expr} {ta tb:TE} {pos:Pos}
noncomputable def tB (t:TE):TT:=λσ H Q=>t σ H λx H1=>∃ c,x=.bl c/\Q c H1
theorem zgL {e:Expr}{t:TE}(h:PE X e t)(he:∀ whole,isTrue e X.env whole=(do let v ← whole;standAt e.pos;holding [v] (truthy v)):=by intro _;rfl):PT X e (tB t):=by intro pins s σ H Q I hw;refine GK (thn (h pins s σ H _ I hw) λv s1 ⟨x,H1,I1,r1,q1⟩=>?_) (he _);obtain⟨d,rfl,q⟩:=q1;cases r1;exact Uv ⟨H1,I1,q⟩
variable {tA tB':TT} {rest:Lg}
noncomputable def tAnd (t u:TT):TT:=λσ H Q=>t σ H λc H1=>if c=true then u σ H1 Q else Q false H1
noncomputable def tOr (t u:TT):TT:=λσ H Q=>t σ H λc H1=>if c=true then Q true H1 else u σ H1 Q
noncomputable def tNot (t:TT):TT:=λσ H Q=>t σ H λc H1=>Q (!c) H1
theorem zdC (ha:PT X a tA):PW X (.BoolOp .And [a] pos) tA:=by
 intro wh pins s σ H Q I h;refine GQ (thn (ha pins s σ H Q I h) λc s1 e=>?_);cases c with
 | true=>exact isTrue_and_nil e
 | false=>exact e
theorem zgM (ha:PT X a tA):PW X (.BoolOp .Or [a] pos) tA:=by
 intro wh pins s σ H Q I h;refine isTrue_or (thn (ha pins s σ H Q I h) λc s1 e=>?_);cases c with
 | false=>exact isTrue_or_nil e
 | true=>exact e
theorem zgN (ha:PT X a tA)(hb:PW X (.BoolOp .And (b::rest) pos) tB'):PW X (.BoolOp .And (a::b::rest) pos) (tAnd tA tB'):=by
 intro wh pins s σ H Q I h;refine GQ (thn (ha pins s σ H _ I h) λc s1 ⟨H1,I1,q1⟩=>?_);cases c with
 | true=>exact hb wh pins s1 σ H1 Q I1 q1
 | false=>exact⟨H1,I1,q1⟩
theorem zjO (ha:PT X a tA)(hb:PW X (.BoolOp .Or (b::rest) pos) tB'):PW X (.BoolOp .Or (a::b::rest) pos) (tOr tA tB'):=by
 intro wh pins s σ H Q I h;refine isTrue_or (thn (ha pins s σ H _ I h) λc s1 ⟨H1,I1,q1⟩=>?_);cases c with
 | true=>exact⟨H1,I1,q1⟩
 | false=>exact hb wh pins s1 σ H1 Q I1 q1
theorem zgO (ha:PT X a tA):PT X (.UnaryOp .Not a pos) (tNot tA):=by intro pins s σ H Q I h;exact isTrue_not (ha pins s σ H (λc H1=>Q (!c) H1) I h)
noncomputable def zbu (ta tb:TE):TE:=λσ H Q=>ta σ H λx H1=>∃ c,x=.bl c/\if c=true then tb σ H1 Q else Q (.bl false) H1
noncomputable def tOrV (ta tb:TE):TE:=λσ H Q=>ta σ H λx H1=>∃ c,x=.bl c/\if c=true then Q (.bl true) H1 else tb σ H1 Q
noncomputable def zjP (ta:TE):TE:=λσ H Q=>ta σ H λx H1=>∃ c,x=.bl c/\Q (.bl (!c)) H1
theorem zgP {op}{t:TE}(h:PE X a t):PE X (.BoolOp op [a] pos) t:=λpins s σ H Q I hw=>BoolOp_one (h pins s σ H Q I hw)
theorem zgQ (ha:PE X a ta)(hb:PE X (.BoolOp .And (b::rest) pos) tb):PE X (.BoolOp .And (a::b::rest) pos) (zbu ta tb):=by
 intro pins s σ H Q I h;refine BoolOp_and (thn (ha pins s σ H _ I h) λv s1 ⟨x,H1,I1,r1,q1⟩=>?_);obtain⟨c,rfl,q1⟩:=q1;cases r1;refine Uv ?_;cases c with
 | true=>exact hb pins s1 σ H1 Q I1 q1
 | false=>exact⟨.bl false,H1,I1,rfl,q1⟩
theorem zjQ (ha:PE X a ta)(hb:PE X (.BoolOp .Or (b::rest) pos) tb):PE X (.BoolOp .Or (a::b::rest) pos) (tOrV ta tb):=by
 intro pins s σ H Q I h;refine BoolOp_or (thn (ha pins s σ H _ I h) λv s1 ⟨x,H1,I1,r1,q1⟩=>?_);obtain⟨c,rfl,q1⟩:=q1;cases r1;refine Uv ?_;cases c with
 | false=>exact hb pins s1 σ H1 Q I1 q1
 | true=>exact⟨.bl true,H1,I1,rfl,q1⟩
noncomputable def tIf (t:TT)(ta tb:TE):TE:=λσ H Q=>t σ H λc H1=>if c=true then ta σ H1 Q else tb σ H1 Q
theorem zbv {c:Expr}(hc:PT X c tA)(ha:PE X a ta)(hb:PE X b tb):PE X (.IfExp c a b pos) (tIf tA ta tb):=by
 intro pins s σ H Q I h;refine wpAny_IfExp (thn (hc pins s σ H _ I h) λd s1 ⟨H1,I1,q1⟩=>?_);cases d with
 | true=>exact ha pins s1 σ H1 Q I1 q1
 | false=>exact hb pins s1 σ H1 Q I1 q1
end
def SqL (K:Le)(H:Hp)(a:Addr)(xs:List V):Prop:= Rd H a (.lst xs) \/ ∃ (o:Obj) (its:Array Value) (n:Nat),K.lookup a=some o/\o.cls=.type "list"/\o.dict=none/\o.data=.seq its n/\its.size<=sizeLine/\Vals xs its.toList
def SqT (K:Le)(H:Hp)(a:Addr)(xs:List V):Prop:= Rd H a (.tup xs) \/ ∃ (o:Obj) (its:Array Value) (n:Nat),K.lookup a=some o/\o.cls=.type "tuple"/\o.data=.seq its n/\its.size<=sizeLine/\Vals xs its.toList
noncomputable def absV:Value->Option V
 | .none=>some .non
 | .bool b=>some (.bl b)
 | .int i _=>some (.int i)
 | .str x _=>some (.str x)
 | .bytes b _=>some (.byt b)
 | .float b _=>some (.flt b)
 | .ref a=>some (.ref a)
 | .type n=>some (.ty n)
 | _=>none
theorem RelV.abs {x:V}{u:Value}(r:RelV x u):absV u=some x:=by
 cases x with
 | non=>cases r;rfl
 | bl _=>cases r;rfl
 | int _=>obtain⟨t,rfl⟩:=r;rfl
 | str _=>obtain⟨t,rfl⟩:=r;rfl
 | byt _=>obtain⟨t,rfl⟩:=r;rfl
 | flt _=>obtain⟨t,rfl⟩:=r;rfl
 | ref _=>cases r;rfl
 | ty _=>cases r;rfl
theorem RelV.inj {x y:V}{u:Value}(r:RelV x u)(q:RelV y u):x=y:=uB (r.abs.symm.trans q.abs)
theorem Vals.inj:∀ {xs ys:List V} {us:Lf},Vals xs us->Vals ys us->xs=ys
 | _,_,_,.nil,.nil=>rfl
 | _,_,_,.cons r t,.cons r' t'=>by rw [r.inj r',Vals.inj t t']
section
variable {X:Cx} {pins:List (Addr×Obj)} {σ:St} {H:Hp} {s:Shared} {a:Addr} {xs ys:List V}
theorem SqL.of {K:Le}(h:H a=some (.lst xs)):SqL K H a xs:=.inl (.inl h)
theorem SqT.of {K:Le}(h:H a=some (.tup xs)):SqT K H a xs:=.inl (.inl h)
theorem Inv.list (I:Inv X pins σ H s)(h:SqL X.K H a xs):∃ its:Lf,Vals xs its/\PlainL s.heap a its.toArray/\xs.length<=sizeLine:=by
 rcases h with h | ⟨o,its,n,hk,hc,hd,hs,hz,r⟩
 ·obtain⟨z,its,n,r,e⟩:=h.ok I.hok;exact⟨its,r,⟨_,n,e,rfl,rfl,rfl⟩,z⟩
 ·refine⟨its.toList,r,⟨o,n,I.kIn a o hk,hc,hd,by simpa using hs⟩,?_⟩;have e:=r.length;simp only [gQ] at e;lia
theorem Inv.tuple (I:Inv X pins σ H s)(h:SqT X.K H a xs):∃ its:Lf,Vals xs its/\IsTup s.heap a its.toArray/\xs.length<=sizeLine:=by
 rcases h with h | ⟨o,its,n,hk,hc,hs,hz,r⟩
 ·obtain⟨z,its,r,p⟩:=h.ok I.hok;exact⟨its,r,p,z⟩
 ·refine⟨its.toList,r,⟨o,I.kIn a o hk,hc,n,by simpa using hs⟩,?_⟩;have e:=r.length;simp only [gQ] at e;lia
theorem Inv.list_inj (I:Inv X pins σ H s)(h:SqL X.K H a xs)(h':SqL X.K H a ys):xs=ys:=by
 obtain⟨its,r,⟨o,n,e,_,_,d⟩,_⟩:=I.list h;obtain⟨its',r',⟨o',n',e',_,_,d'⟩,_⟩:=I.list h';rw [e] at e';cases e';rw [d] at d';injection d' with d1 _;have:its=its':=by simpa using congrArg Array.toList d1
 subst this;exact r.inj r'
theorem Inv.tuple_inj (I:Inv X pins σ H s)(h:SqT X.K H a xs)(h':SqT X.K H a ys):xs=ys:=by
 obtain⟨its,r,⟨o,e,_,n,d⟩,_⟩:=I.tuple h;obtain⟨its',r',⟨o',e',_,n',d'⟩,_⟩:=I.tuple h';rw [e] at e';cases e';rw [d] at d';injection d' with d1 _;have:its=its':=by simpa using congrArg Array.toList d1
 subst this;exact r.inj r'
end
noncomputable abbrev Cx.wish (X:Cx)(E:Value->Shared->Prop):Cx:={ X with xe:=E }
noncomputable abbrev Cx.nox (X:Cx):Cx:=X.wish λ_ _=>False
theorem Cx.Ok.wish {X:Cx}(ok:X.Ok)(E:Value->Shared->Prop):(X.wish E).Ok:= ⟨ok.mod,ok.kind,ok.glob,ok.blt,ok.above,ok.inj,ok.has,ok.cab,ok.hd,ok.frames,ok.stk,ok.exf,ok.bs,ok.bsz,ok.noex,ok.exfs,ok.funs,ok.frf⟩
theorem Cx.Ok.unwish {X:Cx}{E:Value->Shared->Prop}(ok:(X.wish E).Ok):X.Ok:= ⟨ok.mod,ok.kind,ok.glob,ok.blt,ok.above,ok.inj,ok.has,ok.cab,ok.hd,ok.frames,ok.stk,ok.exf,ok.bs,ok.bsz,ok.noex,ok.exfs,ok.funs,ok.frf⟩
section
variable {X:Cx} {pins:List (Addr×Obj)} {σ:St} {H:Hp} {s:Shared} {E:Value->Shared->Prop}
theorem Inv.wish (I:Inv X pins σ H s)(E:Value->Shared->Prop):Inv (X.wish E) pins σ H s:=⟨I.ok.wish E,I.os,I.bare,I.base,I.loc,I.cell,I.free,I.freeC,I.pin,I.hok,I.len⟩
theorem Inv.unwish (I:Inv (X.wish E) pins σ H s):Inv X pins σ H s:=⟨I.ok.unwish,I.os,I.bare,I.base,I.loc,I.cell,I.free,I.freeC,I.pin,I.hok,I.len⟩
theorem SP.unwish {D:Ends}{f:Flow}{s':Shared}(h:SP (X.wish E) pins D f s'):SP X pins D f s':=by
 cases f with
 | next=>obtain⟨σ',H',I,q⟩:=h;exact⟨σ',H',I.unwish,q⟩
 | brk=>obtain⟨σ',H',I,q⟩:=h;exact⟨σ',H',I.unwish,q⟩
 | cont=>obtain⟨σ',H',I,q⟩:=h;exact⟨σ',H',I.unwish,q⟩
 | ret u=>obtain⟨v,σ',H',I,r,q⟩:=h;exact⟨v,σ',H',I.unwish,r,q⟩
theorem PE.nox {e:Expr}{t:TE}(h:PE X.nox e t):PE X e t:=λpins s σ H Q I hw=>
 uj (h pins s σ H Q (I.wish _) hw) (λ_ _ ⟨v,H',I',r,q⟩=>⟨v,H',I'.unwish,r,q⟩) λ_ _ z=>False.elim z
theorem PT.nox {e:Expr}{t:TT}(h:PT X.nox e t):PT X e t:=λpins s σ H Q I hw=>
 uj (h pins s σ H Q (I.wish _) hw) (λ_ _ ⟨H',I',q⟩=>⟨H',I'.unwish,q⟩) λ_ _ z=>False.elim z
theorem PSs.nox {st:List Stmt}{t:TS}(h:PSs X.nox st t):PSs X st t:=λpins s σ H D I hw=>
 uj (h pins s σ H D (I.wish _) hw) (λ_ _ q=>q.unwish) λ_ _ z=>False.elim z
end
section
variable {X:Cx} {st:Stmt} {rest:List Stmt} {t u:TS} {e:Expr} {te:TE} {pos:Pos}
noncomputable def XW:TS:=λD σ H=>D.nx σ H
noncomputable def tSeq (t u:TS):TS:=λD σ H=>t { D with nx:=u D } σ H
theorem zdD:PSs X [] XW:=λ_ _ σ H _ I h=>U4 ⟨σ,H,I,h⟩
theorem ju (h1:PS X st t)(h2:PSs X rest u):PSs X (st::rest) (tSeq t u):=by
 intro pins s σ H D I h;refine wpAny_execs_cons (thn (h1 pins s σ H { D with nx:=u D } I h) λf s1 q=>?_);cases f with
 | next=>obtain⟨σ',H',I',q⟩:=q;exact h2 pins s1 σ' H' D I' q
 | ret v=>exact q
 | brk=>exact q
 | cont=>exact q
theorem yP (h1:PS X st t):PSs X [st] t:=by
 intro pins s σ H D I h;refine wpAny_execs_cons (thn (h1 pins s σ H D I h) λf s1 q=>?_);cases f with
 | next=>exact U4 q
 | ret v=>exact q
 | brk=>exact q
 | cont=>exact q
noncomputable def zgR:TS:=λD σ H=>D.bk σ H
theorem Inv.quiet {pins:List (Addr×Obj)}{σ:St}{H:Hp}{s:Shared}(I:Inv X pins σ H s):interactive X.env=false:=by simp [interactive,I.ok.kind]
noncomputable def QZ (te:TE):TS:=λD σ H=>te σ H λ_ H1=>D.nx σ H1
theorem yQ (he:PE X e te)(hs:swapsWith e none pos.line X.env=pure false:=by rfl):PS X (.Expr e pos) (QZ te):=by intro pins s σ H D I h;exact wpAny_Expr_any (thn (he pins s σ H _ I h) λv s1 ⟨x,H1,I1,r1,q1⟩=>⟨σ,H1,I1,q1⟩) I.quiet hs
noncomputable def tRet (te:TE):TS:=λD σ H=>te σ H D.rt
theorem zgS (he:PE X e te):PS X (.Return (some e) pos) (tRet te):=by intro pins s σ H D I h;exact wpAny_Return_some (thn (he pins s σ H _ I h) λv s1 ⟨x,H1,I1,r1,q1⟩=>⟨x,σ,H1,I1,r1,q1⟩)
noncomputable def zjR:TS:=λD _ H=>D.rt .non H
noncomputable def tIfS (c:TT)(t u:TS):TS:=λD σ H=>c σ H λb H1=>if b=true then t D σ H1 else u D σ H1
theorem zjS {c:Expr}{a b:List Stmt}{tc:TT}(hc:PT X c tc)(ha:PSs X a t)(hb:PSs X b u):PS X (.If c a b pos) (tIfS tc t u):=by
 intro pins s σ H D I h;refine wpAny_If (thn (hc pins s σ H _ I h) λd s1 ⟨H1,I1,q1⟩=>?_);cases d with
 | true=>exact ha pins s1 σ H1 D I1 q1
 | false=>exact hb pins s1 σ H1 D I1 q1
noncomputable def V8:TS:=λ_ _ _=>False
theorem zbw:PS X st V8:=λ_ _ _ _ _ _ h=>h.elim
end
noncomputable abbrev TG:=V->St->Hp->(St->Hp->Prop)->Prop
noncomputable abbrev TGs:=List V->St->Hp->(St->Hp->Prop)->Prop
def PG (X:Cx)(target:Expr)(t:TG):Prop:= ∀ (pins:List (Addr×Obj)) (s:Shared) (σ:St) (H:Hp) (v:V) (u:Value) (Q:St->Hp->Prop),Inv X pins σ H s->RelV v u->t v σ H Q -> wpAny (model X.prog X.w) X.A (assign target X.env u) (λ_ s'=>∃ σ' H',Inv X pins σ' H' s'/\Q σ' H') X.xe s
def PGs (X:Cx)(ts:Lg)(t:TGs):Prop:= ∀ (pins:List (Addr×Obj)) (s:Shared) (σ:St) (H:Hp) (vs:List V) (us:Lf) (Q:St->Hp->Prop),Inv X pins σ H s->Vals vs us->t vs σ H Q -> wpAny (model X.prog X.w) X.A (assignInOrder ((assignEach ts X.env).map (·.2)) us) (λ_ s'=>∃ σ' H',Inv X pins σ' H' s'/\Q σ' H') X.xe s
noncomputable abbrev TSet:=V->V->V->Hp->(Hp->Prop)->Prop
def PSet (X:Cx)(t:TSet):Prop:= ∀ (pins:List (Addr×Obj)) (s:Shared) (σ:St) (H:Hp) (o i v:V) (ov iv u:Value) (Q:Hp->Prop),Inv X pins σ H s->RelV o ov->RelV i iv->RelV v u->t o i v H Q -> wpAny (model X.prog X.w) X.A (setItem ov iv u) (λ_ s'=>∃ H',Inv X pins σ H' s'/\Q H') X.xe s
noncomputable abbrev TIp:=V->V->Hp->VK->Prop
section
variable {X:Cx} {pos:Pos}
noncomputable def Qd (i:Nat):TG:=λv σ H Q=>Q (σ.set i (some v)) H
theorem zdE {i:Nat}{x:Str}(hN:X.N.Nodup)(hi:X.N[i]? = some x)(hx:Loc X.env.scope x)(hf:X.fn x=true\/X.env.scope.names.lookup x=some .local:=by first | exact .inl rfl | exact .inr rfl | assumption):PG X (.Name x pos) (Qd i):=by intro pins s σ H v u Q I r h;exact UX (yh I hN hi hx r (λs' I'=>⟨_,H,I',h⟩) hf)
noncomputable def gNil:TGs:=λvs σ H Q=>vs=[]/\Q σ H
noncomputable def XX (t:TG)(u:TGs):TGs:=λvs σ H Q=>∃ v r,vs=v::r/\t v σ H λσ' H'=>u r σ' H' Q
theorem zdF:PGs X [] gNil:=by intro pins s σ H vs us Q I r h;obtain⟨e,h⟩:=h;subst e;cases r;exact assignInOrder_nil ⟨σ,H,I,h⟩
theorem zbx {e:Expr}{es:Lg}{t:TG}{u:TGs}(h1:PG X e t)(h2:PGs X es u) (hs:(assignEach (e::es) X.env).map (·.2)=assign e X.env::(assignEach es X.env).map (·.2):=by rfl):PGs X (e::es) (XX t u):=by
 intro pins s σ H vs us Q I r h;obtain⟨v,vr,e1,h⟩:=h;subst e1;cases r with
 | cons r rr=>rw [hs];refine assignInOrder_cons (thn (h1 pins s σ H _ _ _ I r h) λ_ s1 ⟨σ1,H1,I1,q1⟩=>?_);exact h2 pins s1 σ1 H1 _ _ Q I1 rr q1
noncomputable def gTup (K:Le)(n:Nat)(t:TGs):TG:=λv σ H Q=>∃ a xs,v=.ref a/\SqT K H a xs/\xs.length=n/\t xs σ H Q
theorem zgT {es:Lg}{k:Nat}{t:TGs}{n:Nat}(hc:X.calm=true)(h:PGs X es t) (hn:(assignEach es X.env).length=n:=by rfl) (hst:(assignEach es X.env).findIdx? (·.1)=none:=by rfl):PG X (.Tuple es k pos) (gTup X.K n t):=by intro pins s σ H v u Q I r hw;obtain⟨a,xs,e1,hq,hl,hw⟩:=hw;subst e1;cases r;obtain⟨its,rv,ht,hz⟩:=I.tuple hq;refine assign_Tuple_tuple (I.ok.hd hc) ht (by simp [hn,← hl,rv.length]) hst λh' hx=>?_;have I1:Inv X pins σ H { s with heap:=h' }:=I.kept (t':=s.toks) λb o e=>hx b o (Uc (ue e)) e;exact h pins _ σ H xs _ Q I1 (by simpa using rv) hw
noncomputable def gSub (to ti:TE)(t:TSet):TG:=λv σ H Q=>to σ H λo H1=>ti σ H1 λi H2=>t o i v H2 λH3=>Q σ H3
theorem zgU {o i:Expr}{to ti:TE}{t:TSet}(ho:PE X o to)(hi:PE X i ti)(hs:PSet X t)
  (ha:∀ v,assign (.Subscript o i pos) X.env v=(do
   let ov ← holding [v] (eval o X.env)
   let iv ← holding [v,ov] (eval i X.env)
   standAt pos
   holding [v,ov,iv] (setItem ov iv v)
   release [v,ov,iv] []):=by intro _;rfl):PG X (.Subscript o i pos) (gSub to ti t):=by
 intro pins s σ H v u Q I r h
 rw [ha]
 refine ua (uX (thn (ho pins s σ H _ I h) λov s1 ⟨x,H1,I1,r1,q1⟩=>?_))
 refine ua (uX (thn (hi pins s1 σ H1 _ I1 q1) λiv s2 ⟨y,H2,I2,r2,q2⟩=>?_))
 refine ua (u5 (ua (uX (thn (hs pins s2 σ H2 x y v ov iv u _ I2 r1 r2 r q2) λ_ s3 ⟨H3,I3,q3⟩=>?_))))
 exact wpAny_release ⟨σ,H3,I3,q3⟩
noncomputable def tAsg (te:TE)(g:TG):TS:=λD σ H=>te σ H λx H1=>g x σ H1 D.nx
theorem zgV {tg e:Expr}{te:TE}{g:TG}(he:PE X e te)(hg:PG X tg g)(hs:swapsWithSole [tg] e pos.line X.env=pure false:=by rfl) (hw:swappedStores [tg] e X.env=pure none:=by rfl) (h1:(assignEach [tg] X.env).map (·.2)=[assign tg X.env]:=by rfl):PS X (.Assign [tg] e pos) (tAsg te g):=by intro pins s σ H D I h;refine wpAny_Assign_stores (thn (he pins s σ H _ I h) λv s1 ⟨x,H1,I1,r1,q1⟩=>?_) hs hw;rw [h1];exact thn (hg pins s1 σ H1 x v _ I1 r1 q1) λ_ s2 q=>q
theorem zgW {i:Nat}{x:Str}{e:Expr}{te:TE}{pos':Pos}(hN:X.N.Nodup)(hi:X.N[i]? = some x)(hx:Loc X.env.scope x)(he:PE X e te)(hs:swapsWith e (some (.Name x pos')) pos.line X.env=pure false:=by rfl) (hf:X.fn x=true\/X.env.scope.names.lookup x=some .local:=by first | exact .inl rfl | exact .inr rfl | assumption) : PS X (.Assign [.Name x pos'] e pos) (tAsg te (Qd i)):=by intro pins s σ H D I h;refine wpAny_Assign_Name (thn (he pins s σ H _ I h) λv s1 ⟨y,H1,I1,r1,q1⟩=>?_) hs;exact yh I1 hN hi hx r1 (λs2 I2=>⟨_,H1,I2,q1⟩) hf
noncomputable def tAug (i:Nat)(te:TE)(ti:TIp):TS:=λD σ H=>∃ x,σ[i]? = some (some x)/\te σ H λy H1=>ti x y H1 λz H2=>D.nx (σ.set i (some z)) H2
noncomputable def ipI (f:Int->Int->Int):TIp:=λx y H Q=>∃ i j,x=.int i/\y=.int j/\Q (.int (f i j)) H
end
section
variable {X:Cx} {pos:Pos}
noncomputable def zgX (c:TT)(tb:TS):TS:=λD σ H=>∃ W:Nat->St->Hp->Prop,(∃ m,W m σ H)/\∀ m σ H,W m σ H ->
 c σ H λb H1=>if b=true then ∃ N:St->Hp->Prop,(∀ σ' H',N σ' H'->∃ m',m' < m/\W m' σ' H')/\tb { D with nx:=N,ct:=N,bk:=D.nx } σ H1 else D.nx σ H1
end
structure It where
 go:Nat->Hp->Prop
 yld:Nat->Hp->V->Hp->Prop
 stop:Nat->Hp->Prop
def FpOk (X:Cx)(pins:List (Addr×Obj))(H:Hp)(b:Addr):Prop:= H b=none/\b≠X.env.locals/\b∉X.fs/\(b∈X.ex\/X.s₀.heap.objs.size<=b)/\(∀ x c,X.env.cells.lookup x=some c->c≠b)/\∀ p∈X.pn++pins,p.1≠b
theorem Inv.fpOk {X:Cx}{pins:List (Addr×Obj)}{σ:St}{H H':Hp}{s:Shared}{b:Addr}(I:Inv X pins σ H s)(hb:s.heap.objs.size<=b)(hn:H' b=none):FpOk X pins H' b:=by
 refine⟨hn,Ge (uq I.lt hb),I.nofs hb,.inr (ux I.sz hb),λx c e z=>?_,λp hp z=>?_⟩
 ·obtain⟨v,q⟩:=I.cell x c e;exact absurd (uq q.lt (by rw [z];exact hb)) (uM _)
 ·exact absurd (uq (ue (I.pin p hp).1) (by rw [z];exact hb)) (uM _)
structure Turn (P:Program)(w:World)(K:Le)(tg:Expr)(J:It)(fp:Ld)(it:Addr)(tn:Nat->Heap->Prop):Prop where
 mem:it∈fp
 obj:∀ i h,tn i h->∀ b∈fp,∃ o,h.get? b=some o/\∀ v,o.data≠.cell v
 keep:∀ i h h',tn i h->(∀ b∈fp,∀ o,h.get? b=some o->h'.get? b=some o)->tn i h'
 item:∀ (X:Cx),X.prog=P->X.w=w->X.K=K->X.calm=true->∀ (i:Nat) (pins:List (Addr×Obj)) (s:Shared) (σ:St) (H:Hp) (E:Value->Shared->Prop),Inv X pins σ H s->(∀ b∈fp,FpOk X pins H b)->tn i s.heap->J.go i H ->
  wpAny (model P w) X.A (pyNext (.ref it)) (λr s1=>∃ u,r=some u /\
   wpAny (model P w) X.A (letOwnedTupleGo tg (.ref it) u) (λ_ s2=>∃ x H',Inv X pins σ H' s2/\RelV x u/\J.yld i H x H'/\tn (i+1) s2.heap/\∀ b∈fp,H' b=none) E s1) E s
 done:∀ (X:Cx),X.prog=P->X.w=w->X.K=K->X.calm=true->∀ (i:Nat) (pins:List (Addr×Obj)) (s:Shared) (σ:St) (H:Hp) (E:Value->Shared->Prop),Inv X pins σ H s->(∀ b∈fp,FpOk X pins H b)->tn i s.heap->J.stop i H ->
  wpAny (model P w) X.A (pyNext (.ref it)) (λr s1=>r=none/\Inv X pins σ H s1) E s
 self:∀ (A:Around) (i:Nat) (s:Shared) (Q:Value->Shared->Prop) (E:Value->Shared->Prop),tn i s.heap->Q (.ref it) s->wpAny (model P w) A (pyIter (.ref it)) Q E s
noncomputable abbrev TI:=St->Hp->(It->Hp->Prop)->Prop
def PIE (X:Cx)(pins:List (Addr×Obj))(σ:St)(tg:Expr)(R:It->Hp->Prop)(itv:Value)(s2:Shared):Prop:= ∃ (it:Addr) (fp:Ld) (tn:Nat->Heap->Prop) (J:It) (H':Hp),itv=.ref it/\Inv X pins σ H' s2/\Turn X.prog X.w X.K tg J fp it tn/\tn 0 s2.heap/\(∀ b∈fp,FpOk X pins H' b)/\R J H'
def PI (X:Cx)(tg iter:Expr)(wi:TI):Prop:= ∀ (pins:List (Addr×Obj)) (s:Shared) (σ:St) (H:Hp) (R:It->Hp->Prop),Inv X pins σ H s->wi σ H R -> wpAny (model X.prog X.w) X.A (eval iter X.env) (λv s1=>wpAny (model X.prog X.w) X.A (pyIter v) (PIE X pins σ tg R) X.xe s1) X.xe s
theorem KL {M:Model}{A:Around}{E:Value->Shared->Prop}{s:Shared}{tg:Expr}{it:Addr}{u:Value}{o:Obj}{n:String}{vs:Array Value}{Q:Unit->Shared->Prop}(ho:s.heap.get? it=some o)(hc:o.cls=.type n)(hd:o.data=.fields vs) (hn:["enumerate","zip","dict_itemiterator","dict_reverseitemiterator","odict_iterator","itertools.zip_longest","itertools.pairwise"].contains n=false) (hQ:Q () s):wpAny M A (letOwnedTupleGo tg (.ref it) u) Q E s:=by
  unfold letOwnedTupleGo
  cases tg<;>first
    | exact ud hQ
    | (cases u<;>first
        | exact ud hQ
        | (refine ua (wpAny_load ho ?_)
           rw [hc,hd]
           show wpAny M A (if (["enumerate","zip","dict_itemiterator","dict_reverseitemiterator","odict_iterator","itertools.zip_longest","itertools.pairwise"].contains n&&vs[0]? == some (rawInt _))=true then _ else _) Q E s
           rw [ub (by intro h;rw [hn,UY] at h;cases h)]
           exact ud hQ))
noncomputable def Itl (K:Le)(a:Addr):It:= ⟨λi H=>∃ xs x,SqL K H a xs/\xs[i]? = some x,λi H x H'=>H' = H/\∀ xs,SqL K H a xs->xs[i]? = some x,λi H=>∃ xs,SqL K H a xs/\xs.length<=i⟩
noncomputable def Itt (K:Le)(a:Addr):It:= ⟨λi H=>∃ xs x,SqT K H a xs/\xs[i]? = some x,λi H x H'=>H' = H/\∀ xs,SqT K H a xs->xs[i]? = some x,λi H=>∃ xs,SqT K H a xs/\xs.length<=i⟩
noncomputable def Itr (lo:Int)(n:Nat):It:=⟨λi _=>i<n,λi H x H'=>H' = H/\x=.int (lo+i),λi _=>n<=i⟩
theorem zaO {P:Program}{w:World}{K:Le}{tg:Expr}(a it:Addr):Turn P w K tg (Itl K a) [it] it (λi h=>h.IsListIter it a i) where
 mem:=by simp
 obj:=λi h st b hb=>by
  have e:b=it:=by simpa using hb
  subst e
  obtain⟨o,e,c,d⟩:=st
  exact⟨o,e,λv z=>by rw [d] at z;cases z⟩
 keep:=λi h h' st k=>st.at λo e=>k it (by simp) o e
 item:=by
  intro X hP hw hK hc i pins s σ H E I hf st hg
  subst hP hw hK
  obtain⟨xs,x,hq,hx⟩:=hg
  obtain⟨its,rv,p,hz⟩:=I.list hq
  obtain⟨u,hu,ru⟩:=rv.get hx
  obtain⟨f0,f1,f2,f3,f4,f5⟩:=hf it (by simp)
  refine wpAny_pyNext_list_item st p.isList (x:=u) (by simpa using hu) λh' st' sb=>?_
  have I1:Inv X pins σ H { s with heap:=h' }:=I.turned (t':=s.toks) (λb o hb e=>(sb.2 b hb).trans e) f0 f1 f3 f4 f5
  obtain⟨o,e,c,d⟩:=id st'
  exact⟨u,rfl,KL (s:={ s with heap:=h' }) e c d (by decide) ⟨x,H,I1,ru,⟨rfl,λys hy=>by rw [I.list_inj hy hq];exact hx⟩,st',λb hb=>(hf b hb).1⟩⟩
 done:=by
  intro X hP hw hK hc i pins s σ H E I hf st hg
  subst hP hw hK
  obtain⟨xs,hq,hx⟩:=hg
  obtain⟨its,rv,p,hz⟩:=I.list hq
  obtain⟨f0,f1,f2,f3,f4,f5⟩:=hf it (by simp)
  have hl:=rv.length
  exact wpAny_pyNext_list_end (I.ok.hd hc) st p.isList (by simp;lia) λh' eb=>⟨rfl,I.turned (t':=s.toks) (λb o hb e=>eb b o hb e) f0 f1 f3 f4 f5⟩
 self:=λ_ _ _ _ _ st h=>wpAny_pyIter_listiter st h
theorem V9 {P:Program}{w:World}{K:Le}{tg:Expr}(a it:Addr):Turn P w K tg (Itt K a) [it] it (λi h=>h.IsTupleIter it a i) where
 mem:=by simp
 obj:=λi h st b hb=>by
  have e:b=it:=by simpa using hb
  subst e
  obtain⟨o,e,c,d⟩:=st
  exact⟨o,e,λv z=>by rw [d] at z;cases z⟩
 keep:=λi h h' st k=>st.at λo e=>k it (by simp) o e
 item:=by
  intro X hP hw hK hc i pins s σ H E I hf st hg
  subst hP hw hK
  obtain⟨xs,x,hq,hx⟩:=hg
  obtain⟨its,rv,p,hz⟩:=I.tuple hq
  obtain⟨u,hu,ru⟩:=rv.get hx
  obtain⟨f0,f1,f2,f3,f4,f5⟩:=hf it (by simp)
  refine wpAny_pyNext_tuple_item st (show s.heap.IsTuple a its.toArray from p) (x:=u) (by simpa using hu) λh' st' sb=>?_
  have I1:Inv X pins σ H { s with heap:=h' }:=I.turned (t':=s.toks) (λb o hb e=>(sb.2 b hb).trans e) f0 f1 f3 f4 f5
  obtain⟨o,e,c,d⟩:=id st'
  exact⟨u,rfl,KL (s:={ s with heap:=h' }) e c d (by decide) ⟨x,H,I1,ru,⟨rfl,λys hy=>by rw [I.tuple_inj hy hq];exact hx⟩,st',λb hb=>(hf b hb).1⟩⟩
 done:=by
  intro X hP hw hK hc i pins s σ H E I hf st hg
  subst hP hw hK
  obtain⟨xs,hq,hx⟩:=hg
  obtain⟨its,rv,p,hz⟩:=I.tuple hq
  obtain⟨f0,f1,f2,f3,f4,f5⟩:=hf it (by simp)
  have hl:=rv.length
  exact wpAny_pyNext_tuple_end (I.ok.hd hc) st (show s.heap.IsTuple a its.toArray from p) (by simp;lia) λh' eb=>⟨rfl,I.turned (t':=s.toks) (λb o hb e=>eb b o hb e) f0 f1 f3 f4 f5⟩
 self:=λ_ _ _ _ _ st h=>wpAny_pyIter_tupleiter st h
theorem Yb {P:Program}{w:World}{K:Le}{tg:Expr}(it:Addr)(lo:Int)(n:Nat):Turn P w K tg (Itr lo n) [it] it (λi h=>IsRangeIter h it (lo+(i:Nat) * 1) ((n:Int) - (i:Nat)) 1) where
 mem:=by simp
 obj:=λi h st b hb=>by
  have e:b=it:=by simpa using hb
  subst e
  exact⟨_,st,λv z=>by
   have z':Data.fields _=Data.cell v:=z
   cases z'⟩
 keep:=λi h h' st k=>k it (by simp) _ st
 item:=by
  intro X hP hw hK hc i pins s σ H E I hf st hg
  subst hP hw hK
  obtain⟨f0,f1,f2,f3,f4,f5⟩:=hf it (by simp)
  have W:=Walks.range (prog:=X.prog) (w:=X.w) (I.ok.hd hc) it lo 1 n
  refine W.item i s _ _ hg st λv h' tk hv st' kk=>?_
  obtain⟨t,rfl⟩:=hv
  have I1:Inv X pins σ H { s with heap:=h',toks:=tk }:=I.turned (λb o hb e=>kk b o (by simpa using hb) e) f0 f1 f3 f4 f5
  refine⟨_,rfl,KL (s:={ s with heap:=h',toks:=tk }) (n:="range_iterator") st' rfl rfl (by decide) ⟨.int (lo+i),H,I1,⟨t,?_⟩,⟨rfl,rfl⟩,st',λb hb=>(hf b hb).1⟩⟩
  rw [Int.mul_one]
 done:=by
  intro X hP hw hK hc i pins s σ H E I hf st hg
  subst hP hw hK
  obtain⟨f0,f1,f2,f3,f4,f5⟩:=hf it (by simp)
  exact wpAny_pyNext_range_end (I.ok.hd hc) st (by have:n<=i:=hg;lia) λh' eb=>⟨rfl,I.turned (t':=s.toks) (λb o hb e=>eb b o hb e) f0 f1 f3 f4 f5⟩
 self:=λ_ _ _ _ _ st h=>wpAny_pyIter_rangeiter st h
section
variable {X:Cx} {tg:Expr}
noncomputable def KN (K:Le)(tl:TE):TI:=λσ H R=>tl σ H λx H1=>∃ a,x=.ref a/\(∃ xs,SqL K H1 a xs)/\R (Itl K a) H1
noncomputable def iTup (K:Le)(tl:TE):TI:=λσ H R=>tl σ H λx H1=>∃ a,x=.ref a/\(∃ xs,SqT K H1 a xs)/\R (Itt K a) H1
theorem zdG {l:Expr}{tl:TE}(hl:PE X l tl):PI X tg l (KN X.K tl):=by
 intro pins s σ H R I h;refine thn (hl pins s σ H _ I h) λv s1 ⟨x,H1,I1,r1,q1⟩=>?_;obtain⟨a,e,⟨xs,hq⟩,q⟩:=q1;subst e;cases r1;obtain⟨its,rv,p,hz⟩:=I1.list hq;refine wpAny_pyIter_list p.isList ?_;refine⟨s1.heap.objs.size,[s1.heap.objs.size],_,_,H1,rfl,I1.kept (t':=s1.toks) λb o e=>uc _ e,zaO a _,⟨_,um _ rfl,rfl,rfl⟩,λb hb=>?_,q⟩;have e:b=s1.heap.objs.size:=by simpa using hb
 subst e;exact I1.fpOk (uk _) (I1.hok.fresh (uk _))
theorem zgY {l:Expr}{tl:TE}(hl:PE X l tl):PI X tg l (iTup X.K tl):=by
 intro pins s σ H R I h;refine thn (hl pins s σ H _ I h) λv s1 ⟨x,H1,I1,r1,q1⟩=>?_;obtain⟨a,e,⟨xs,hq⟩,q⟩:=q1;subst e;cases r1;obtain⟨its,rv,p,hz⟩:=I1.tuple hq;refine wpAny_pyIter_tuple (show s1.heap.IsTuple a its.toArray from p) ?_;refine⟨s1.heap.objs.size,[s1.heap.objs.size],_,_,H1,rfl,I1.kept (t':=s1.toks) λb o e=>uc _ e,V9 a _,⟨_,um _ rfl,rfl,rfl⟩,λb hb=>?_,q⟩;have e:b=s1.heap.objs.size:=by simpa using hb
 subst e;exact I1.fpOk (uk _) (I1.hok.fresh (uk _))
theorem zby {pins:List (Addr×Obj)}{σ:St}{H:Hp}{s:Shared}{R:It->Hp->Prop}{E:Value->Shared->Prop}{lo hi:Int}{t u v:Tok}{tk:Nat}(I:Inv X pins σ H s)(h1:-(2 ^ 62)<=lo)(h2:lo<2 ^ 62)(h3:-(2 ^ 62)<=hi)(h4:hi<2 ^ 62) (q:R (Itr lo (hi - lo).toNat) H):wpAny (model X.prog X.w) X.A (pyIter (.ref s.heap.objs.size)) (PIE X pins σ tg R) E { s with heap:=s.heap.push { cls:=.type "range",data:=.fields #[.int lo t,.int hi u,.int 1 v] },toks:=tk }:=by
 refine wpAny_pyIter_range (IsRange.new ..) (small_one h1 h2 h3 h4) ?_;have I1:Inv X pins σ H { s with heap:=s.heap.push { cls:=.type "range",data:=.fields #[.int lo t,.int hi u,.int 1 v] },toks:=tk }:=I.kept λb o e=>uc _ e
 refine⟨(s.heap.push { cls:=.type "range",data:=.fields #[.int lo t,.int hi u,.int 1 v] }).objs.size,[(s.heap.push { cls:=.type "range",data:=.fields #[.int lo t,.int hi u,.int 1 v] }).objs.size],_,_,H,rfl,
  I1.kept (t':=tk) λb o e=>uc _ e,Yb _ lo (hi - lo).toNat,?_,λb hb=>?_,q⟩
 ·have e1:lo+((0:Nat):Int) * 1=lo:=by simp
  have e2:(((hi - lo).toNat:Nat):Int) - ((0:Nat):Int)=Builtin.Range.rangeSize lo hi 1:=by rw [rangeSize_one];split<;>lia
  show IsRangeIter _ _ (lo+((0:Nat):Int) * 1) ((((hi - lo).toNat:Nat):Int) - ((0:Nat):Int)) 1;rw [e1,e2];exact um _ rfl
 ·have e:b=(s.heap.push { cls:=.type "range",data:=.fields #[.int lo t,.int hi u,.int 1 v] }).objs.size:=by simpa using hb
  subst e;exact I1.fpOk (uk _) (I1.hok.fresh (uk _))
noncomputable def zbz (ta:TA):TI:=λσ H R=>ta σ H λvs H1=>∃ j:Int,vs=[.int j]/\-(2 ^ 62)<=j/\j<2 ^ 62/\R (Itr 0 j.toNat) H1
noncomputable def zjT (ta:TA):TI:=λσ H R=>ta σ H λvs H1=>∃ i j:Int,vs=[.int i,.int j]/\(-(2 ^ 62)<=i/\i<2 ^ 62/\-(2 ^ 62)<=j/\j<2 ^ 62)/\R (Itr i (j - i).toNat) H1
theorem zaP {a:Expr}{ta:TA}{p pos:Pos}(hg:Gl X "range")(hm:X.mg "range" = none)(ha:PA X [a] ta)(hs:starEach [a] X.env=[(false,eval a X.env)]:=by rfl):PI X tg (.Call (.Name "range" p) [a] [] pos) (zbz ta):=by
 intro pins s σ H R I h;refine Call_ (QY I hg hm boot_range (PyProof.Rows.callWith_type1 (thn (ha pos pins s σ H _ I h) λus s1 ⟨vs,H1,I1,r1,q1⟩=>?_) hs rfl));obtain⟨j,e,q1,q2,q⟩:=q1;subst e;cases r1 with
 | cons r rr=>cases rr;obtain⟨t,rfl⟩:=r;exact call_range_1 (zby I1 (by omega) (by omega) q1 q2 (by simpa using q))
noncomputable def tFor (wi:TI)(g:TG)(tb:TS):TS:=λD σ H=>wi σ H λJ H1=>∃ W:Nat->Nat->St->Hp->Prop,(∃ m,W 0 m σ H1)/\∀ i m σ H,W i m σ H ->
 (J.stop i H/\D.nx σ H)\/(J.go i H/\∃ N:St->Hp->Prop,(∀ σ' H',N σ' H'->∃ m',m' < m/\W (i+1) m' σ' H')/\∀ x H',J.yld i H x H'->g x σ H' λσ2 H2=>tb { D with nx:=N,ct:=N,bk:=D.nx } σ2 H2)
noncomputable def vj (fp:Ld)(h:Heap):List (Addr×Obj):=fp.filterMap λb=>(h.get? b).map λo=>(b,o)
theorem wb {fp:Ld}{h:Heap}{b:Addr}{o:Obj}(hb:b∈fp)(e:h.get? b=some o):(b,o)∈vj fp h:=List.mem_filterMap.mpr ⟨b,hb,by rw [e];rfl⟩
theorem zaQ {fp:Ld}{h:Heap}{p:Addr×Obj}(hp:p∈vj fp h):p.1∈fp/\h.get? p.1=some p.2:=by
 obtain⟨b,hb,e⟩:=List.mem_filterMap.mp hp;cases q:h.get? b with
 | none=>rw [q] at e;cases e
 | some o=>rw [q] at e;have e':(b,o)=p:=uB e;subst e';exact⟨hb,q⟩
theorem Inv.pinned {pins:List (Addr×Obj)}{σ:St}{H:Hp}{s:Shared}{fp:Ld}(I:Inv X pins σ H s)(hf:∀ b∈fp,FpOk X pins H b)(ho:∀ b∈fp,∃ o,s.heap.get? b=some o/\∀ v,o.data≠.cell v):Inv X (pins++vj fp s.heap) σ H s:=
 I.pins_of λp hp=>(UA.mp hp).elim (λz=>I.pin p (uE _ z)) λz=>by
  obtain⟨hb,e⟩:=zaQ z
  obtain⟨f0,f1,f2,_⟩:=hf p.1 hb
  obtain⟨o,e',d⟩:=ho p.1 hb
  rw [e] at e';cases e'
  exact⟨e,f0,f1,f2,d⟩
theorem Inv.unpinned {pins pl:List (Addr×Obj)}{σ:St}{H:Hp}{s:Shared}(I:Inv X (pins++pl) σ H s):Inv X pins σ H s:=I.pins_of λp hp=>I.pin p (uE _ (uW _ hp))
theorem zgZ {iter:Expr}{body:List Stmt}{wi:TI}{g:TG}{tb:TS}{pos:Pos}(hp:PassesOwn (model X.prog X.w) X.A X.env X.xe)(hc:X.calm=true)(hi:PI X tg iter wi)(hg:PG X tg g)(hb:PSs X body tb) (hs:∀ x,foldedSetIterable iter X.env x=pure x:=by intro _;rfl):PS X (.For tg iter body [] pos) (tFor wi g tb):=by
 intro pins s σ H D I h;refine wpAny_For (thn (hi pins s σ H _ I h) λv s1 h1=>thn h1 λitv s2 h2=>?_) hs;obtain⟨it,fp,tn,J,H2,e,I2,T,st2,f2,W,⟨m0,w0⟩,turn⟩:=h2;subst e;have stat:∀ {H':Hp},(∀ b∈fp,H' b=none)->∀ b∈fp,FpOk X pins H' b:=λhn b hb=>⟨hn b hb,(f2 b hb).2⟩
 refine codeAny_forLoop_any (λn s'=>∃ i σ' H',Inv X pins σ' H' s'/\tn i s'.heap/\(∀ b∈fp,H' b=none)/\W i n σ' H') ?_ m0 ⟨0,σ,H2,I2,st2,λb hb=>(f2 b hb).1,w0⟩;rintro n s3 ⟨i,σ3,H3,I3,st3,fr3,w3⟩;rcases turn i n σ3 H3 w3 with⟨stop,qn⟩ | ⟨go,N,hN,step⟩
 ·refine UE hp (thn (T.done X rfl rfl rfl hc i pins s3 σ3 H3 X.xe I3 (stat fr3) st3 stop) λr s4 ⟨hr,I4⟩=>?_);subst hr;exact U4 ⟨σ3,H3,I4,qn⟩
 ·refine UE hp (thn (T.item X rfl rfl rfl hc i pins s3 σ3 H3 X.xe I3 (stat fr3) st3 go) λr s4 ⟨u,hr,h4⟩=>?_);subst hr;refine UE hp (thn h4 λ_ s5 ⟨x,H5,I5,r5,y5,st5,fr5⟩=>?_);have I5':=I5.pinned (stat fr5) (T.obj _ _ st5);refine UE hp (thn (hg _ s5 σ3 H5 x u _ I5' r5 (step x H5 y5)) λ_ s6 ⟨σ6,H6,I6,q6⟩=>?_);refine UE hp (thn (hb _ s6 σ6 H6 _ I6 q6) λf s7 q7=>?_);have again:∀ {σ7:St} {H7:Hp},Inv X (pins++vj fp s5.heap) σ7 H7 s7->N σ7 H7->∃ m,m<n/\∃ i σ' H',Inv X pins σ' H' s7/\tn i s7.heap/\(∀ b∈fp,H' b=none)/\W i m σ' H':=λ{σ7 H7} I7 n7=>by obtain⟨m',hm,w7⟩:=hN σ7 H7 n7;refine⟨m',hm,i+1,σ7,H7,I7.unpinned,T.keep _ _ _ st5 λb hb o e=>(I7.pin (b,o) (uE _ (uE _ (wb hb e)))).1,λb hb=>?_,w7⟩;obtain⟨o,e,d⟩:=T.obj _ _ st5 b hb;exact(I7.pin (b,o) (uE _ (uE _ (wb hb e)))).2.1
  cases f with
  | next=>obtain⟨σ7,H7,I7,n7⟩:=q7;exact again I7 n7
  | cont=>obtain⟨σ7,H7,I7,n7⟩:=q7;exact again I7 n7
  | brk=>obtain⟨σ7,H7,I7,q7⟩:=q7;exact⟨σ7,H7,I7.unpinned,q7⟩
  | ret v=>obtain⟨x7,σ7,H7,I7,r7,q7⟩:=q7;exact⟨x7,σ7,H7,I7.unpinned,r7,q7⟩
end
theorem zbA {K:Le}{a:Addr}{xs:List V}{g:TG}{tb:TS}{D:Ends}{σ:St}{H:Hp}(Pv:Nat->St->Hp->Prop)(h0:Pv 0 σ H)(hl:∀ i σ H,i<=xs.length->Pv i σ H->SqL K H a xs) (hs:∀ i x σ H,xs[i]? = some x->Pv i σ H->g x σ H λσ2 H2=>tb { D with nx:=Pv (i+1),ct:=Pv (i+1),bk:=D.nx } σ2 H2) (hd:∀ σ H,Pv xs.length σ H->D.nx σ H) : ∃ W:Nat->Nat->St->Hp->Prop,(∃ m,W 0 m σ H)/\∀ i m σ H,W i m σ H -> ((Itl K a).stop i H/\D.nx σ H)\/((Itl K a).go i H/\∃ N:St->Hp->Prop,(∀ σ' H',N σ' H'->∃ m',m' < m/\W (i+1) m' σ' H')/\∀ x H',(Itl K a).yld i H x H'->g x σ H' λσ2 H2=>tb { D with nx:=N,ct:=N,bk:=D.nx } σ2 H2):=by
 refine⟨λi m σ H=>m=xs.length - i/\i<=xs.length/\Pv i σ H,⟨xs.length,by simp,Uo _,h0⟩,?_⟩;rintro i m σ H ⟨rfl,hi,p⟩;have q:=hl i σ H hi p;by_cases hlt:i<xs.length
 ·refine .inr ⟨⟨xs,xs[i],q,by simp [hlt]⟩,Pv (i+1),λσ' H' p'=>⟨xs.length - (i+1),by lia,rfl,hlt,p'⟩,λx H' y=>?_⟩;obtain⟨e,y⟩:=y;subst e;exact hs i x σ _ (y xs q) p
 ·have e:i=xs.length:=by lia
  subst e;exact .inl ⟨⟨xs,q,uk _⟩,hd σ H p⟩
theorem zdH {K:Le}{a:Addr}{xs:List V}{g:TG}{tb:TS}{D:Ends}{σ:St}{H:Hp}(Pv:Nat->St->Hp->Prop)(h0:Pv 0 σ H)(hl:∀ i σ H,i<=xs.length->Pv i σ H->SqT K H a xs) (hs:∀ i x σ H,xs[i]? = some x->Pv i σ H->g x σ H λσ2 H2=>tb { D with nx:=Pv (i+1),ct:=Pv (i+1),bk:=D.nx } σ2 H2) (hd:∀ σ H,Pv xs.length σ H->D.nx σ H) : ∃ W:Nat->Nat->St->Hp->Prop,(∃ m,W 0 m σ H)/\∀ i m σ H,W i m σ H -> ((Itt K a).stop i H/\D.nx σ H)\/((Itt K a).go i H/\∃ N:St->Hp->Prop,(∀ σ' H',N σ' H'->∃ m',m' < m/\W (i+1) m' σ' H')/\∀ x H',(Itt K a).yld i H x H'->g x σ H' λσ2 H2=>tb { D with nx:=N,ct:=N,bk:=D.nx } σ2 H2):=by
 refine⟨λi m σ H=>m=xs.length - i/\i<=xs.length/\Pv i σ H,⟨xs.length,by simp,Uo _,h0⟩,?_⟩;rintro i m σ H ⟨rfl,hi,p⟩;have q:=hl i σ H hi p;by_cases hlt:i<xs.length
 ·refine .inr ⟨⟨xs,xs[i],q,by simp [hlt]⟩,Pv (i+1),λσ' H' p'=>⟨xs.length - (i+1),by lia,rfl,hlt,p'⟩,λx H' y=>?_⟩;obtain⟨e,y⟩:=y;subst e;exact hs i x σ _ (y xs q) p
 ·have e:i=xs.length:=by lia
  subst e;exact .inl ⟨⟨xs,q,uk _⟩,hd σ H p⟩
noncomputable abbrev R2:=V->V->Hp->VK->Prop
def OpR (X:Cx)(f:Value->Value->Sem Value)(r:R2):Prop:= ∀ (pins:List (Addr×Obj)) (s:Shared) (σ:St) (H:Hp) (x y:V) (v u:Value) (Q:VK),Inv X pins σ H s->RelV x v->RelV y u->r x y H Q -> wpAny (model X.prog X.w) X.A (f v u) (EP X pins σ Q) X.xe s
def UnR (X:Cx)(f:Value->Sem Value)(r:V->Hp->VK->Prop):Prop:= ∀ (pins:List (Addr×Obj)) (s:Shared) (σ:St) (H:Hp) (x:V) (v:Value) (Q:VK),Inv X pins σ H s->RelV x v->r x H Q -> wpAny (model X.prog X.w) X.A (f v) (EP X pins σ Q) X.xe s
def qV (X:Cx)(f:Value)(r:List V->Hp->VK->Prop):Prop:= ∀ (pins:List (Addr×Obj)) (s:Shared) (σ:St) (H:Hp) (xs:List V) (us:Lf) (Q:VK),Inv X pins σ H s->Vals xs us->r xs H Q -> wpAny (model X.prog X.w) X.A (call f us) (EP X pins σ Q) X.xe s
def TruR (X:Cx)(r:V->Hp->(Bool->Hp->Prop)->Prop):Prop:= ∀ (pins:List (Addr×Obj)) (s:Shared) (σ:St) (H:Hp) (x:V) (v:Value) (Q:Bool->Hp->Prop),Inv X pins σ H s->RelV x v->r x H Q -> wpAny (model X.prog X.w) X.A (truthy v) (TP X pins σ Q) X.xe s
noncomputable def tOp (r:R2)(ta tb:TE):TE:=λσ H Q=>ta σ H λx H1=>tb σ H1 λy H2=>r x y H2 Q
noncomputable def tUn (r:V->Hp->VK->Prop)(ta:TE):TE:=λσ H Q=>ta σ H λx H1=>r x H1 Q
noncomputable def rI (C:Int->Int->Prop)(g:Int->Int->V):R2:=λx y H Q=>∃ i j,x=.int i/\y=.int j/\C i j/\Q (g i j) H
noncomputable def rI0 (g:Int->Int->V):R2:=λx y H Q=>∃ i j,x=.int i/\y=.int j/\Q (g i j) H
noncomputable def rU (g:Int->V):V->Hp->VK->Prop:=λx H Q=>∃ i,x=.int i/\Q (g i) H
section
variable {X:Cx} {a b c:Expr} {ta tb tc:TE} {pos:Pos}
theorem binT (ha:PE X a ta)(hb:PE X b tb){pins:List (Addr×Obj)}{s:Shared}{σ:St}{H:Hp}{R:V->V->Hp->Prop}(I:Inv X pins σ H s) (h:ta σ H λx H1=>tb σ H1 λy H2=>R x y H2) {Q:Value->Shared->Prop} {f:Value->Value->Sem Value} (hf:∀ v u s2 x y H2,Inv X pins σ H2 s2->RelV x v->RelV y u->R x y H2->wpAny (model X.prog X.w) X.A (f v u) Q X.xe s2) : wpAny (model X.prog X.w) X.A (eval a X.env) (λv s₁=>wpAny (model X.prog X.w) X.A (eval b X.env) (λu s₂=>wpAny (model X.prog X.w) X.A (f v u) Q X.xe s₂) X.xe s₁) X.xe s:=by refine thn (ha pins s σ H _ I h) λv s1 ⟨x,H1,I1,r1,q1⟩=>?_;refine thn (hb pins s1 σ H1 _ I1 q1) λu s2 ⟨y,H2,I2,r2,q2⟩=>?_;exact hf v u s2 x y H2 I2 r1 r2 q2
theorem zjU {op:Operator}{r:R2}(ho:OpR X (binaryOp op) r)(ha:PE X a ta)(hb:PE X b tb):PE X (.BinOp a op b pos) (tOp r ta tb):=by intro pins s σ H Q I h;exact wpAny_BinOp (binT ha hb I h λv u s2 x y H2 I2 rx ry q=>ho pins s2 σ H2 x y v u Q I2 rx ry q)
theorem zjV {op:UnaryOp}{r:V->Hp->VK->Prop}(ho:UnR X (unaryOp op) r)(ha:PE X a ta):PE X (.UnaryOp op a pos) (tUn r ta):=by intro pins s σ H Q I h;exact UnaryOp_ (thn (ha pins s σ H _ I h) λv s1 ⟨x,H1,I1,r1,q1⟩=>ho pins s1 σ H1 x v Q I1 r1 q1)
theorem opI {f:Value->Value->Sem Value}{C:Int->Int->Prop}{g:Int->Int->Int} (rule:∀ (i j:Int) (t u:Tok) (s:Shared) (Q:Value->Shared->Prop) (E:Value->Shared->Prop),C i j->Q (.int (g i j) s.toks) { s with toks:=s.toks+1 }->wpAny (model X.prog X.w) X.A (f (.int i t) (.int j u)) Q E s) : OpR X f (rI C λi j=>.int (g i j)):=by intro pins s σ H x y v u Q I rx ry h;obtain⟨i,j,rfl,rfl,hc,q⟩:=h;obtain⟨t,rfl⟩:=rx;obtain⟨t',rfl⟩:=ry;exact rule i j t t' s _ _ hc ⟨.int (g i j),H,I.tok _,⟨_,rfl⟩,q⟩
theorem opI0 {f:Value->Value->Sem Value}{g:Int->Int->Int} (rule:∀ (i j:Int) (t u:Tok) (s:Shared) (Q:Value->Shared->Prop) (E:Value->Shared->Prop),Q (.int (g i j) s.toks) { s with toks:=s.toks+1 }->wpAny (model X.prog X.w) X.A (f (.int i t) (.int j u)) Q E s) : OpR X f (rI0 λi j=>.int (g i j)):=by intro pins s σ H x y v u Q I rx ry h;obtain⟨i,j,rfl,rfl,q⟩:=h;obtain⟨t,rfl⟩:=rx;obtain⟨t',rfl⟩:=ry;exact rule i j t t' s _ _ ⟨.int (g i j),H,I.tok _,⟨_,rfl⟩,q⟩
theorem opB0 {f:Value->Value->Sem Value}{g:Int->Int->Bool} (rule:∀ (i j:Int) (t u:Tok) (s:Shared) (Q:Value->Shared->Prop) (E:Value->Shared->Prop),Q (.bool (g i j)) s->wpAny (model X.prog X.w) X.A (f (.int i t) (.int j u)) Q E s) : OpR X f (rI0 λi j=>.bl (g i j)):=by intro pins s σ H x y v u Q I rx ry h;obtain⟨i,j,rfl,rfl,q⟩:=h;obtain⟨t,rfl⟩:=rx;obtain⟨t',rfl⟩:=ry;exact rule i j t t' s _ _ ⟨.bl (g i j),H,I,rfl,q⟩
def CDiv (i j:Int):Prop:=0<j/\j<1073741824
def CPow (i j:Int):Prop:=0<=j/\j<=1000000/\i.natAbs<2 ^ 64
def CMul (i j:Int):Prop:=(-(2 ^ 64)<i/\i<2 ^ 64)\/(-(2 ^ 64)<j/\j<2 ^ 64)
theorem CMul.ok {i j:Int}(h:CMul i j):IntMulOk i j:=by
 rcases h with⟨h1,h2⟩ | ⟨h1,h2⟩
 ·exact .of_left (intBits_le_64 h1 h2)
 ·exact .of_right (intBits_le_64 h1 h2)
theorem Yc (k:Nat):(0:Int)<=2 ^ k:=by rw [two_pow_cast];exact Int.natCast_nonneg _
theorem vk:OpR X (binaryOp .Add) (rI0 λi j=>.int (i+j)):=opI0 λ_ _ _ _ _ _ _ q=>add_int q
theorem Yd:OpR X (binaryOp .Sub) (rI0 λi j=>.int (i - j)):=opI0 λ_ _ _ _ _ _ _ q=>sub_int q
theorem zdI:OpR X (binaryOp .FloorDiv) (rI CDiv λi j=>.int (i / j)):=opI λi j _ _ _ _ _ hc q=>by have h1:(0:Int)<j:=hc.1;have h2:j<1073741824:=hc.2;exact floordiv_int (by lia) (by rw [GD i (by lia)];exact q) (.inl (PyProof.noPylong_small (by lia)))
theorem jS:OpR X (binaryOp .Mod) (rI (λ_ j=>0<j) λi j=>.int (i % j)):=opI λi j _ _ _ _ _ hc q=>by have h1:(0:Int)<j:=hc;exact mod_int' (by lia) (by rw [Int.fmod_eq_emod_of_nonneg i (by lia)];exact q)
theorem Q0:OpR X (binaryOp .Pow) (rI CPow λi j=>.int (i ^ j.toNat)):=opI λ_ _ _ _ _ _ _ hc q=>pow_int_small hc.1 hc.2.1 hc.2.2 q
theorem zbB:OpR X (binaryOp .RShift) (rI (λ_ j=>0<=j) λi j=>.int (i / 2 ^ j.toNat)):=opI λi j _ _ _ _ _ hc q=>
 rshift_int hc (by rw [GD i (Yc _)];exact q)
theorem unI {f:Value->Sem Value}{g:Int->Int} (rule:∀ (i:Int) (t:Tok) (s:Shared) (Q:Value->Shared->Prop) (E:Value->Shared->Prop),Q (.int (g i) s.toks) { s with toks:=s.toks+1 }->wpAny (model X.prog X.w) X.A (f (.int i t)) Q E s) : UnR X f (rU λi=>.int (g i)):=by intro pins s σ H x v Q I rx h;obtain⟨i,rfl,q⟩:=h;obtain⟨t,rfl⟩:=rx;exact rule i t s _ _ ⟨.int (g i),H,I.tok _,⟨_,rfl⟩,q⟩
theorem Ye:UnR X (unaryOp .USub) (rU λi=>.int (-i)):=unI λ_ _ _ _ _ q=>neg_int q
end
noncomputable def scal:V->V->Bool
 | .non,.non=>true | .non,.int _=>true | .int _,.non=>true | .non,.bl _=>true | .bl _,.non=>true | .non,.str _=>true | .str _,.non=>true
 | .int _,.int _=>true | .bl _,.bl _=>true | .str _,.str _=>true | .byt _,.byt _=>true
 | .int _,.str _=>true | .str _,.int _=>true | .bl _,.str _=>true | .str _,.bl _=>true
 | _,_=>false
noncomputable def rEq:R2:=λx y H Q=>scal x y=true/\Q (.bl (decide (x=y))) H
noncomputable def rNe:R2:=λx y H Q=>scal x y=true/\Q (.bl (!decide (x=y))) H
theorem KO {i j:Int}:decide (V.int i=V.int j)=(i == j):=by rw [UB];simp
theorem zbC {i j:Bool}:decide (V.bl i=V.bl j)=(i == j):=by rw [UB];simp
theorem KP {i j:Str}:decide (V.str i=V.str j)=(i == j):=by rw [UB];simp
theorem KQ {i j:Array UInt8}:decide (V.byt i=V.byt j)=(i.toList == j.toList):=by rw [UB];cases i;cases j;simp
section
variable {X:Cx} {a b c:Expr} {ta tb tc:TE} {pos:Pos}
theorem zL {pins:List (Addr×Obj)}{σ:St}{H:Hp}{s:Shared}{Q:VK}{k k':Bool}(I:Inv X pins σ H s)(q:Q (.bl k) H)(e:k=k'):EP X pins σ Q (.bool k') s:=by subst e;exact⟨.bl k,H,I,rfl,q⟩
theorem zD:OpR X (compareOp .Eq) rEq:=by
 intro pins s σ H x y v u Q I rx ry h;obtain⟨hs,q⟩:=h;cases x with
 | non=>
  cases rx;cases y with
  | non=>cases ry;exact PySem.EqNone.eq_none_none (zL I q (by simp))
  | bl j=>cases ry;exact PySem.EqNone.eq_none_bool (zL I q (by simp))
  | int j=>obtain⟨t',rfl⟩:=ry;exact PySem.EqNone.eq_none_int (zL I q (by simp))
  | str j=>obtain⟨t',rfl⟩:=ry;exact PySem.EqNone.eq_none_str (zL I q (by simp))
  | _=>exact absurd (show false=true from hs) uA
 | bl i=>
  cases rx;cases y with
  | non=>cases ry;exact PySem.EqNone.eq_bool_none (zL I q (by simp))
  | bl j=>cases ry;exact eq_bool (zL I q zbC)
  | str j=>obtain⟨t',rfl⟩:=ry;exact PySem.EqMixed.eq_bool_str (zL I q (by simp))
  | _=>exact absurd (show false=true from hs) uA
 | int i=>
  obtain⟨t,rfl⟩:=rx;cases y with
  | non=>cases ry;exact PySem.EqNone.eq_int_none (zL I q (by simp))
  | int j=>obtain⟨t',rfl⟩:=ry;exact eq_int (zL I q KO)
  | str j=>obtain⟨t',rfl⟩:=ry;exact PySem.EqMixed.eq_int_str (zL I q (by simp))
  | _=>exact absurd (show false=true from hs) uA
 | str i=>
  obtain⟨t,rfl⟩:=rx;cases y with
  | non=>cases ry;exact PySem.EqNone.eq_str_none (zL I q (by simp))
  | bl j=>cases ry;exact PySem.EqMixed.eq_str_bool (zL I q (by simp))
  | int j=>obtain⟨t',rfl⟩:=ry;exact PySem.EqMixed.eq_str_int (zL I q (by simp))
  | str j=>obtain⟨t',rfl⟩:=ry;exact eq_str (zL I q KP)
  | _=>exact absurd (show false=true from hs) uA
 | byt i=>
  obtain⟨t,rfl⟩:=rx;cases y with
  | byt j=>obtain⟨t',rfl⟩:=ry;exact PySem.W.eq_bytes (zL I q KQ)
  | _=>exact absurd (show false=true from hs) uA
 | _=>cases y<;>exact absurd (show false=true from hs) uA
theorem zbD:OpR X (compareOp .NotEq) rNe:=by
 intro pins s σ H x y v u Q I rx ry h;obtain⟨hs,q⟩:=h;cases x with
 | non=>
  cases rx;cases y with
  | non=>cases ry;exact PySem.EqNone.ne_none_none (zL I q (by simp))
  | bl j=>cases ry;exact PySem.EqNone.ne_none_bool (zL I q (by simp))
  | int j=>obtain⟨t',rfl⟩:=ry;exact PySem.EqNone.ne_none_int (zL I q (by simp))
  | str j=>obtain⟨t',rfl⟩:=ry;exact PySem.EqNone.ne_none_str (zL I q (by simp))
  | _=>exact absurd (show false=true from hs) uA
 | bl i=>
  cases rx;cases y with
  | non=>cases ry;exact PySem.EqNone.ne_bool_none (zL I q (by simp))
  | bl j=>cases ry;exact ne_bool (zL I q (congrArg not zbC))
  | str j=>obtain⟨t',rfl⟩:=ry;exact PySem.EqMixed.ne_bool_str (zL I q (by simp))
  | _=>exact absurd (show false=true from hs) uA
 | int i=>
  obtain⟨t,rfl⟩:=rx;cases y with
  | non=>cases ry;exact PySem.EqNone.ne_int_none (zL I q (by simp))
  | int j=>obtain⟨t',rfl⟩:=ry;exact ne_int (zL I q (congrArg not KO))
  | str j=>obtain⟨t',rfl⟩:=ry;exact PySem.EqMixed.ne_int_str (zL I q (by simp))
  | _=>exact absurd (show false=true from hs) uA
 | str i=>
  obtain⟨t,rfl⟩:=rx;cases y with
  | non=>cases ry;exact PySem.EqNone.ne_str_none (zL I q (by simp))
  | bl j=>cases ry;exact PySem.EqMixed.ne_str_bool (zL I q (by simp))
  | int j=>obtain⟨t',rfl⟩:=ry;exact PySem.EqMixed.ne_str_int (zL I q (by simp))
  | str j=>obtain⟨t',rfl⟩:=ry;exact ne_str (zL I q (congrArg not KP))
  | _=>exact absurd (show false=true from hs) uA
 | byt i=>
  obtain⟨t,rfl⟩:=rx;cases y with
  | byt j=>obtain⟨t',rfl⟩:=ry;exact PySem.W.ne_bytes (zL I q (congrArg not KQ))
  | _=>exact absurd (show false=true from hs) uA
 | _=>cases y<;>exact absurd (show false=true from hs) uA
theorem XY:OpR X (compareOp .Lt) (rI0 λi j=>.bl (decide (i<j))):=opB0 λ_ _ _ _ _ _ _ q=>lt_int q
theorem Wf:OpR X (compareOp .Gt) (rI0 λi j=>.bl (decide (j<i))):=opB0 λ_ _ _ _ _ _ _ q=>gt_int q
theorem zaR:OpR X (compareOp .In) (λx y H Q=>∃ i j,x=.str i/\y=.str j/\Q (.bl (!(Builtin.Str.occurrences j i 0 j.length 1).isEmpty)) H):=by intro pins s σ H x y v u Q I rx ry h;obtain⟨i,j,rfl,rfl,q⟩:=h;obtain⟨t,rfl⟩:=rx;obtain⟨t',rfl⟩:=ry;exact in_str (zL I q rfl)
theorem vm:OpR X (compareOp .Is) (λx y H Q=>y=.non/\Q (.bl (decide (x=.non))) H):=by
 intro pins s σ H x y v u Q I rx ry h;obtain⟨rfl,q⟩:=h;cases ry;refine is_none_gen (zL I q ?_)
 cases x<;>first
  | (cases rx;rfl)
  | (obtain⟨t,rfl⟩:=rx;rfl)
theorem QH:OpR X (compareOp .IsNot) (λx y H Q=>y=.non/\Q (.bl (!decide (x=.non))) H):=by
 intro pins s σ H x y v u Q I rx ry h;obtain⟨rfl,q⟩:=h;cases ry;refine isnot_none_gen (zL I q ?_)
 cases x<;>first
  | (cases rx;rfl)
  | (obtain⟨t,rfl⟩:=rx;rfl)
theorem WN:OpR X (compareOp .NotIn) (λx y H Q=>∃ i j,x=.str i/\y=.str j/\Q (.bl (!(!(Builtin.Str.occurrences j i 0 j.length 1).isEmpty))) H):=by intro pins s σ H x y v u Q I rx ry h;obtain⟨i,j,rfl,rfl,q⟩:=h;obtain⟨t,rfl⟩:=rx;obtain⟨t',rfl⟩:=ry;exact notIn_str (zL I q rfl)
theorem OpR.or {f:Value->Value->Sem Value}{r r':R2}(h:OpR X f r)(h':OpR X f r'):OpR X f (λx y H Q=>r x y H Q\/r' x y H Q):=by
 intro pins s σ H x y v u Q I rx ry q;rcases q with q | q
 ·exact h pins s σ H x y v u Q I rx ry q
 ·exact h' pins s σ H x y v u Q I rx ry q
theorem zp (b:Expr){op:CmpOp}(h:op≠.In:=by decide) (h2:op≠.NotIn:=by decide):behindInMarks op b=false:=by
 have e1:(op == CmpOp.In)=false:=by cases op<;>first | rfl | exact absurd rfl h
 have e2:(op == CmpOp.NotIn)=false:=by cases op<;>first | rfl | exact absurd rfl h2
 cases b<;>simp [behindInMarks,e1,e2]
theorem zdJ {op:CmpOp}{r:R2}(ho:OpR X (compareOp op) r)(ha:PE X a ta)(hb:PE X b tb)(hm:behindInMarks op b=false):PE X (.Compare a [op] [b] pos) (tOp r ta tb):=by intro pins s σ H Q I h;exact wpAny_Compare1 (binT ha hb I h λv u s2 x y H2 I2 rx ry q=>ho pins s2 σ H2 x y v u Q I2 rx ry q) hm
noncomputable def zbE (t:TE):TT:=λσ H Q=>t σ H λx H'=>∃ k,x=.bl k/\Q k H'
theorem zdK {op:CmpOp}{r:R2}(ho:OpR X (compareOp op) r)(ha:PE X a ta)(hb:PE X b tb)(hm:behindInMarks op b=false):PT X (.Compare a [op] [b] pos) (zbE (tOp r ta tb)):=by
 intro pins s σ H Q I h
 refine wpAny_isTrue_Compare1 (thn (ha pins s σ H _ I h) λv s1 ⟨x,H1,I1,r1,q1⟩=>thn (hb pins s1 σ H1 _ I1 q1) λu s2 ⟨y,H2,I2,r2,q2⟩=>
  thn (ho pins s2 σ H2 x y v u _ I2 r1 r2 q2) λc s3 ⟨z,H3,I3,r3,k,e,q3⟩=>?_) hm
 subst e;cases r3;exact Uv ⟨H3,I3,q3⟩
noncomputable def zg0 (r r':R2)(ta tb tc:TE):TE:=λσ H Q=>ta σ H λx H1=>tb σ H1 λy H2=>r x y H2 λz H3=>∃ k,z=.bl k /\ (if k=true then tc σ H3 λw' H4=>r' y w' H4 Q else Q (.bl false) H3)
def TruV (K:Le)(x:V)(H:Hp)(k:Bool):Prop:=
 match x with
 | .non=>k=false
 | .bl b=>k=b
 | .int i=>k=(i != 0)
 | .str y=>y.length<=sizeLine/\k=((y.length:Int) != 0)
 | .byt y=>y.size<=sizeLine/\k=((y.size:Int) != 0)
 | .ref p=>(∃ xs,SqL K H p xs/\k = !xs.isEmpty)\/(∃ xs,SqT K H p xs/\k = !xs.isEmpty)\/∃ kvs,H p=some (.dK kvs)/\k = !kvs.isEmpty
 | _=>False
theorem Yg {κ:Type}{kvs:List (κ×V)}{vs:List (κ×Value)}(r:KV kvs vs):(!vs.isEmpty) = !kvs.isEmpty:=by cases r<;>rfl
theorem Q1 {xs:List V}{its:Lf}(r:Vals xs its):(!its.toArray.isEmpty) = !xs.isEmpty:=by cases r<;>simp
theorem kj:(sizeLine:Nat)<2 ^ 63:=by rw [uH];decide
theorem zg1:TruR X (λx H Q=>∃ k,TruV X.K x H k/\Q k H):=by
 intro pins s σ H x v Q I rx h;obtain⟨k,e,q⟩:=h;have hl:=kj;have hs:sizeLine=16777216:=uH;cases x with
 | non=>cases rx;have e':k=false:=e;subst e';exact truthy_none ⟨H,I,q⟩
 | bl b=>cases rx;have e':k=b:=e;subst e';exact Uv ⟨H,I,q⟩
 | int i=>obtain⟨t,rfl⟩:=rx;have e':k=(i != 0):=e;subst e';exact PySem.P.truthy_int ⟨H,I,q⟩
 | str y=>obtain⟨t,rfl⟩:=rx;obtain⟨hy,e'⟩:y.length<=sizeLine/\k=((y.length:Int) != 0):=e;subst e';exact PySem.P.truthy_str (by omega) ⟨H,I.tok _,q⟩
 | byt y=>obtain⟨t,rfl⟩:=rx;obtain⟨hy,e'⟩:y.size<=sizeLine/\k=((y.size:Int) != 0):=e;subst e';exact PySem.W.truthy_bytes (by omega) ⟨H,I.tok _,q⟩
 | ref p=>
  cases rx;have e':(∃ xs,SqL X.K H p xs/\k = !xs.isEmpty)\/(∃ xs,SqT X.K H p xs/\k = !xs.isEmpty)\/∃ kvs,H p=some (.dK kvs)/\k = !kvs.isEmpty:=e;rcases e' with⟨xs,hx,e'⟩ | ⟨xs,hx,e'⟩ | ⟨kvs,hx,e'⟩
  ·subst e';obtain⟨its,r,pl,hz⟩:=I.list hx;have hlen:=r.length;exact wpAny_truthy_list pl.isList (by simp only [uh];lia) ⟨H,I.tok _,by rw [Q1 r];exact q⟩
  ·subst e';obtain⟨its,r,pl,hz⟩:=I.tuple hx;have hlen:=r.length;exact truthy_tuple pl (by simp only [uh];lia) ⟨H,I.tok _,by rw [Q1 r];exact q⟩
  ·subst e';obtain⟨hz,hS,vs,r,m⟩:kvs.length<=sizeLine/\(p == sysModules)=false/\∃ vs,KV kvs vs/\s.heap.DictOf (jQ X.prog X.w) p vs:=I.hok p _ hx;have hlen:kvs.length=vs.length:=Paired.length r;exact wpAny_truthy_dict hS m (by lia) ⟨H,I.tok _,by rw [Yg r];exact q⟩
 | _=>exact(show False from e).elim
theorem zbF (ha:PE X a ta)(he:∀ whole,isTrue a X.env whole=(do let v ← whole;standAt a.pos;holding [v] (truthy v))) :
  PT X a (λσ H Q=>ta σ H λx H'=>∃ k,TruV X.K x H' k/\Q k H'):=by
 intro pins s σ H Q I h
 exact GK (thn (ha pins s σ H _ I h) λv s1 ⟨x,H1,I1,r1,q1⟩=>zg1 pins s1 σ H1 x v Q I1 r1 q1) (he _)
theorem Yh:OpR X (binaryOp .Add) (λx y H Q=>∃ i j,x=.str i/\y=.str j/\i.length+j.length<=sizeLine/\Q (.str (i++j)) H):=by intro pins s σ H x y v u Q I rx ry h;obtain⟨i,j,rfl,rfl,hz,q⟩:=h;obtain⟨t,rfl⟩:=rx;obtain⟨t',rfl⟩:=ry;exact add_str (λt' tk=>⟨.str (i++j),H,I.tok _,⟨_,rfl⟩,q⟩) hz
theorem vals1 {x:V}{us:Lf}(r:Vals [x] us):∃ u,us=[u]/\RelV x u:=by
 cases r with
 | cons r1 r2=>cases r2;exact⟨_,rfl,r1⟩
theorem vals2 {x y:V}{us:Lf}(r:Vals [x,y] us):∃ u w',us=[u,w']/\RelV x u/\RelV y w':=by
 cases r with
 | cons r1 r2=>
  cases r2 with
  | cons r3 r4=>cases r4;exact⟨_,_,rfl,r1,r3⟩
theorem zaS (hc:X.calm=true):qV X (.builtin "max") (λxs H Q=>∃ i j,xs=[.int i,.int j]/\Q (.int (if j > i then j else i)) H):=by
 intro pins s σ H xs us Q I r h;obtain⟨i,j,rfl,q⟩:=h;obtain⟨u,w',rfl,⟨t,rfl⟩,⟨t',rfl⟩⟩:=vals2 r;refine max_two_ints (I.ok.hd hc) λh' tk k=>⟨_,H,I.kept k,?_,q⟩
 by_cases hj:j > i
 ·rw [uf hj,uf hj];exact⟨_,rfl⟩
 ·rw [ub hj,ub hj];exact⟨_,rfl⟩
theorem zaT (hc:X.calm=true):qV X (.builtin "min") (λxs H Q=>∃ i j,xs=[.int i,.int j]/\Q (.int (if j<i then j else i)) H):=by
 intro pins s σ H xs us Q I r h;obtain⟨i,j,rfl,q⟩:=h;obtain⟨u,w',rfl,⟨t,rfl⟩,⟨t',rfl⟩⟩:=vals2 r;refine min_two_ints (I.ok.hd hc) λh' tk k=>⟨_,H,I.kept k,?_,q⟩
 by_cases hj:j<i
 ·rw [uf hj,uf hj];exact⟨_,rfl⟩
 ·rw [ub hj,ub hj];exact⟨_,rfl⟩
theorem zaU:qV X (.type "int") (λxs H Q=>(∃ i,xs=[.int i]/\Q (.int i) H)\/∃ k,xs=[.bl k]/\Q (.int (if k then 1 else 0)) H):=by
 intro pins s σ H xs us Q I r h;rcases h with⟨i,rfl,q⟩ | ⟨k,rfl,q⟩
 ·obtain⟨u,rfl,t,rfl⟩:=vals1 r;exact call_int_int ⟨.int i,H,I,⟨_,rfl⟩,q⟩
 ·obtain⟨u,rfl,r1⟩:=vals1 r;cases r1;exact call_int_bool ⟨.int (if k then 1 else 0),H,I.tok _,⟨_,rfl⟩,q⟩
end
structure ObjM (h:Heap)(x dx C:Addr)(mA:La):Prop where
 obj:h.get? x=some (PySem.W.instObj C dx)
 ns:h.Ns1 dx mA
 ne:dx≠x
theorem Wg {h:Heap}{dx:Addr}{mA:La}(n:h.Ns1 dx mA):∃ od,h.get? dx=some od/\∀ name,PySem.W.lookIn name od=some (mA name):=by
 obtain⟨o,es,ep,ho,hd,hk,_,hm⟩:=n;refine⟨o,ho,λname=>?_⟩;have e:=hm name;unfold nsFind findBy at e;rw [← Array.find?_toList] at e;unfold PySem.W.lookIn;rw [hd];dsimp only;split
 ·rename_i y q;rw [q] at e;exact congrArg some e
 ·rename_i q;rw [q] at e;have a:es.toList.any (·.refKey)=false:=by rw [List.any_eq_false];intro y hy;obtain⟨z,t,hkey⟩:=hk y (Array.mem_toList_iff.mp hy);simp [DictEntry.refKey,hkey]
  have a':¬ es.toList.any (·.refKey)=true:=by rw [a];exact uA
  rw [ub a'];exact congrArg some e
theorem ObjM.look {h:Heap}{x dx C:Addr}{mA:La}(I:ObjM h x dx C mA):∃ od,PySem.W.InstAt h x (PySem.W.instObj C dx) C (some od)/\∀ name,PySem.W.lookIn name od=some (mA name):=
 let ⟨od,ho,hl⟩:=Wg I.ns
 ⟨od,⟨I.obj,rfl,rfl,ho⟩,hl⟩
section
variable {prog:Program} {w:World} {A:Around} {E:Value->Shared->Prop} {s:Shared} {K:Le} {x dx C f:Addr} {mA:La} {name:Str} {v:Value}
theorem get_map {expr:Bool}{Q:Value->Shared->Prop}(X:K.In s.heap)(I:ObjM s.heap x dx C mA)(hg:PySem.W.plainGet K C name=true)(hh:PySem.W.hasDictIn K C=true) (ha:PySem.W.findIn K (.ref C) name=some none) (hv:mA name=some v) (hv':PySem.W.handedIn v=true) (h:Q v { s with toks:=s.toks+1 }) : wpAny (model prog w) A (getAttr (.ref x) name expr) Q E s:=by obtain⟨od,J,hl⟩:=I.look;exact PySem.W.get_value X J (gR hg).1 (PySem.W.findObj_own hh ha rfl (by rw [hl,hv])) hv' h
theorem zbG {pl:Sem Bool}{Q:Value×Lf->Shared->Prop}(X:K.In s.heap)(I:ObjM s.heap x dx C mA)(hg:PySem.W.plainGet K C name=true) (hf:PySem.W.findIn K (.ref C) name=some (some (.ref f))) (ht:PySem.W.isFn K (.ref f)=true) (hv:mA name=none) (h:Q (.ref f,[.ref x]) s) : wpAny (model prog w) A (getMethod (.ref x) name pl) Q E s:=by obtain⟨od,J,hl⟩:=I.look;exact PySem.W.method_fn X J (gR hg).1 (gR hg).2 hf (Uk.mp ht) (by show(PySem.W.lookIn name od).map (·.isSome)=some false;rw [hl,hv];rfl) h
theorem zdL {ns:Lh}{Q:Unit->Shared->Prop}(X:K.In s.heap)(I:ObjM s.heap x dx C mA) (hs:PySem.W.findIn K (.ref C) "__setattr__" = some (some (.builtin "object.__setattr__"))) (hp:PySem.W.plainOver K C=true) (ht:PySem.W.takerIn K C name=some none) (hh:PySem.W.hasDictIn K C=true) (hw:PySem.Within mA ns) (hsz:ns.length<=sizeLine) (h:∀ h',ObjM h' x dx C (λy=>if y=name then some v else mA y)->Heap.SameBut dx s.heap h'->Q () { s with heap:=h',toks:=s.toks+2 }) : wpAny (model prog w) A (setAttr (.ref x) name v) Q E s:=by obtain⟨od,J,hl⟩:=I.look;refine Gf X J hs (PySem.W.osa_open (s:={ s with toks:=s.toks+1 }) (r:=none) X J hp ht λb=>?_);obtain⟨cd,hc,hd'⟩:=gy hh;have hx:s.heap.get? x=some ⟨.ref C,some dx,.plain,#[]⟩:=I.obj;refine ua (ud (ua (ua (wpAny_loadPart hx (ua (PySem.W.Looks.here (s:={ s with toks:=s.toks+1 }) (PySem.W.looks_clsIn X hc) ?_))))));rw [hd'];refine ud (a:=some dx) (ua (ud (ua ?_)));refine wpAny_nsSet1 (s:={ s with toks:=s.toks+1 }) I.ns λh' hn2 hs2=>?_;obtain⟨oD,esD,epD,hoD,hdD,hcD⟩:=hn2.count (PySem.Within.cons name v hw);refine ua (wpAny_lookBehind hoD (by rw [hdD];exact pastItsLine_dict (ux hcD (by rw [uu];lia))) ?_);exact ud (h _ ⟨(hs2.2 _ (Ne.symm I.ne)).trans I.obj,hn2,I.ne⟩ hs2)
theorem zbH {R:Result->Shared->Prop}{vs:Lf}{kw:List (Str×Value)}(X:K.In s.heap)(hm:PySem.W.makesIn K C=true) (hi:PySem.W.findIn K (.ref C) "__init__" = some (some (.ref f))) (hf:PySem.W.typeIn K (.ref f)=some (.type "function")) (h:codeAny (model prog w) (A.under (.builtin "type.__call__" ⟨.ref C::vs,kw⟩)) (.call (.ref f) ⟨.ref (s.heap.objs.size+1)::vs,kw⟩) (PySem.W.InitBack (s.heap.objs.size+1) R) { s with heap:=(s.heap.push PySem.W.emptyDict).push (PySem.W.instObj C s.heap.objs.size) }) : codeAny (model prog w) A (.call (.ref C) ⟨vs,kw⟩) R s:=by obtain⟨hh,g,d,t,os⟩:=s;exact PySem.W.make_core (PySem.W.makes_of X hm) (gL X hi) (λself=>PySem.W.bind_fn X self hf) (.inl rfl) h
end
noncomputable def putF (f:Str)(v:V):List (Str×V)->List (Str×V)
 | []=>[(f,v)]
 | (g,x)::r=>if g=f then(g,v)::r else(g,x)::putF f v r
theorem Qe (f g:Str)(v:V):∀ fs:List (Str×V),(putF f v fs).lookup g=if g=f then some v else fs.lookup g
 | []=>by
  show List.lookup g [(f,v)]=_;by_cases h:g=f
  ·have hb:(g == f)=true:=Uk.mpr h;simp only [List.lookup,hb,uf h]
  ·have hb:(g == f)=false:=uT.mpr h;simp only [List.lookup,hb,ub h]
 | (k,x)::r=>by
  have ih:=Qe f g v r;rw [show putF f v ((k,x)::r)=(if k=f then(k,v)::r else(k,x)::putF f v r) from rfl];by_cases hk:k=f
  ·rw [uf hk];by_cases h:g=k
   ·have hb:(g == k)=true:=Uk.mpr h;simp only [List.lookup,hb,uf (h.trans hk)]
   ·have hb:(g == k)=false:=uT.mpr h;simp only [List.lookup,hb,ub (λe:g=f=>h (e.trans hk.symm))]
  ·rw [ub hk];by_cases h:g=k
   ·have hb:(g == k)=true:=Uk.mpr h;simp only [List.lookup,hb,ub (λe:g=f=>hk (h.symm.trans e))]
   ·have hb:(g == k)=false:=uT.mpr h;simp only [List.lookup,hb];exact ih
theorem ZA (f:Str)(v:V):∀ fs:List (Str×V),f∈(putF f v fs).map (·.1)/\∀ g,g∈fs.map (·.1)->g∈(putF f v fs).map (·.1)
 | []=>⟨by simp [putF],λg h=>by simp at h⟩
 | (k,x)::r=>by
  obtain⟨i1,i2⟩:=ZA f v r;rw [show putF f v ((k,x)::r)=(if k=f then(k,v)::r else(k,x)::putF f v r) from rfl];by_cases hk:k=f
  ·rw [uf hk];subst hk;exact⟨by simp,λg h=>by simpa using h⟩
  ·rw [ub hk];refine⟨?_,λg h=>?_⟩
   ·rw [uD];exact uP _ i1
   ·rw [uD] at h ⊢;rcases uy.mp h with e | e
    ·exact uy.mpr (.inl e)
    ·exact uP _ (i2 g e)
theorem Qf (f:Str)(v:V):∀ fs:List (Str×V),(putF f v fs).length<=fs.length+1
 | []=>by simp [putF]
 | (k,x)::r=>by
  have ih:=Qf f v r;rw [show putF f v ((k,x)::r)=(if k=f then(k,v)::r else(k,x)::putF f v r) from rfl];by_cases hk:k=f
  ·rw [uf hk,uu,uu];lia
  ·rw [ub hk,uu,uu];lia
theorem RelO.some_of {v:V}{o:Option Value}(r:RelO (some v) o):∃ u,o=some u/\RelV v u:=by
 cases o with
 | none=>exact(show False from r).elim
 | some u=>exact⟨u,rfl,r⟩
theorem RelO.none_of {o:Option Value}(r:RelO none o):o=none:=by
 cases o with
 | none=>rfl
 | some u=>exact(show False from r).elim
theorem Wh {v:V}{u:Value}(r:RelV v u):PySem.W.handedIn u=true:=by
 cases v with
 | non=>cases (show u=Value.none from r);rfl
 | bl b=>cases (show u=Value.bool b from r);rfl
 | int i=>obtain⟨t,e⟩:=(show ∃ t,u=Value.int i t from r);cases e;rfl
 | str x=>obtain⟨t,e⟩:=(show ∃ t,u=Value.str x t from r);cases e;rfl
 | byt b=>obtain⟨t,e⟩:=(show ∃ t,u=Value.bytes b t from r);cases e;rfl
 | flt b=>obtain⟨t,e⟩:=(show ∃ t,u=Value.float b t from r);cases e;rfl
 | ref a=>cases (show u=Value.ref a from r);rfl
 | ty n=>cases (show u=Value.type n from r);rfl
section
variable {P:Program} {w:World} {H H':Hp} {h h':Heap} {a C dx:Addr} {fs fs':List (Str×V)}
theorem WO (hok:HOk P w H h)(e:H a=some (.ins C dx fs)):∃ mA,ObjM h a dx C mA/\(∀ f,RelO (fs.lookup f) (mA f))/\PySem.Within mA (fs.map (·.1))/\fs.length<=1000/\H dx=some (.own a):=by
 obtain⟨d,z,ne,ob,mA,n,r,q⟩:=(show jr P w H h a (.ins C dx fs) from hok a _ e)
 exact⟨mA,⟨ob,n,ne⟩,r,q,z,d⟩
end
structure Cls (K:Le)(C:Addr):Prop where
 pg:PySem.W.plainGet K C Str.empty=true
 hd:PySem.W.hasDictIn K C=true
 po:PySem.W.plainOver K C=true
 sa:PySem.W.findIn K (.ref C) "__setattr__" = some (some (.builtin "object.__setattr__"))
theorem Cls.get {K:Le}{C:Addr}(c:Cls K C)(f:Str):PySem.W.plainGet K C f=true:=c.pg
def wR (K:Le)(C:Addr)(f:Str):Prop:=PySem.W.findIn K (.ref C) f=some none
theorem wR.taker {K:Le}{C:Addr}{f:Str}(n:wR K C f):PySem.W.takerIn K C f=some none:=by unfold PySem.W.takerIn;rw [show PySem.W.findIn K (.ref C) f=some none from n];rfl
structure Meth (K:Le)(C:Addr)(m:Str)(f:Addr):Prop where
 at_:PySem.W.findIn K (.ref C) m=some (some (.ref f))
 fn:PySem.W.isFn K (.ref f)=true
 kp:PySem.W.keepIn K (.ref f)=true
section
variable {X:Cx} {pins:List (Addr×Obj)} {σ:St} {H:Hp} {s:Shared} {a C dx:Addr} {fs:List (Str×V)} {f:Str} {v:V} {A:Around} {E:Value->Shared->Prop}
theorem Yi {b:Bool}{Q:Value->Shared->Prop}(I:Inv X pins σ H s)(e:H a=some (.ins C dx fs))(c:Cls X.K C)(n:wR X.K C f)(l:fs.lookup f=some v) (h:∀ u s',Inv X pins σ H s'->RelV v u->Q u s'):wpAny (model X.prog X.w) A (getAttr (.ref a) f b) Q E s:=by obtain⟨mA,O,r,_,_,_⟩:=WO I.hok e;obtain⟨u,hu,ru⟩:=RelO.some_of (v:=v) (o:=mA f) (by rw [← l];exact r f);exact get_map I.kIn O (c.get f) c.hd n hu (Wh ru) (h u _ (I.tok _) ru)
theorem vG {m:Str}{g:Addr}{pl:Sem Bool}{Q:Value×Lf->Shared->Prop}(I:Inv X pins σ H s)(e:H a=some (.ins C dx fs))(c:Cls X.K C)(k:Meth X.K C m g)(l:fs.lookup m=none) (h:Q (.ref g,[.ref a]) s):wpAny (model X.prog X.w) A (getMethod (.ref a) m pl) Q E s:=by obtain⟨mA,O,r,_,_,_⟩:=WO I.hok e;have hn:mA m=none:=RelO.none_of (by rw [← l];exact r m);exact zbG I.kIn O (c.get m) k.at_ k.fn hn h
theorem Yj {y:V}{u:Value}{Q:Unit->Shared->Prop}(I:Inv X pins σ H s)(e:H a=some (.ins C dx fs))(c:Cls X.K C)(n:wR X.K C f)(hl:fs.length<1000)(ry:RelV y u) (h:∀ s',Inv X pins σ (upd H a (.ins C dx (putF f y fs))) s'->Q () s'):wpAny (model X.prog X.w) A (setAttr (.ref a) f u) Q E s:=by
 obtain⟨mA,O,r,wi,_,ho⟩:=WO I.hok e;have hz:(fs.map (·.1)).length<=sizeLine:=by rw [uS,uH];lia
 refine zdL I.kIn O c.sa c.po n.taker c.hd wi hz λh' O' sb=>h _ ?_;have hd:∃ o,h'.get? dx=some o:=let ⟨o,_,_,e',_⟩:=O'.ns;⟨o,e'⟩;refine I.write (x:=a) (e:=dx) (by rw [e];exact True.intro) (.inr ho) (λb q hb z=>(sb.2 b hb).trans z) hd ?_;refine⟨by rw [zr O.ne];exact ho,?_,O.ne,O'.obj,_,O'.ns,λg=>?_,λg hg=>?_⟩
 ·have:=Qf f y fs;lia
 ·show RelO ((putF f y fs).lookup g) (if g=f then some u else mA g);rw [Qe];by_cases q:g=f
  ·rw [uf q,uf q];exact ry
  ·rw [ub q,ub q];exact r g
 ·by_cases q:g=f
  ·rw [q];exact(ZA f y fs).1
  ·refine(ZA f y fs).2 g (wi g λz=>hg ?_);show(if g=f then some u else mA g)=none;rw [ub q];exact z
theorem Inv.made (I:Inv X pins σ H s):Inv X pins σ (upd (upd H s.heap.objs.size (.own (s.heap.objs.size+1))) (s.heap.objs.size+1) (.ins C s.heap.objs.size [])) { s with heap:=(s.heap.push PySem.W.emptyDict).push (PySem.W.instObj C s.heap.objs.size) }:=by
 have e1:(s.heap.push PySem.W.emptyDict).get? s.heap.objs.size=some PySem.W.emptyDict:=um s.heap rfl;have e2:((s.heap.push PySem.W.emptyDict).push (PySem.W.instObj C s.heap.objs.size)).get? (s.heap.objs.size+1)=some (PySem.W.instObj C s.heap.objs.size):=by have:=um (s.heap.push PySem.W.emptyDict) (o:=PySem.W.instObj C s.heap.objs.size) rfl;rwa [gN] at this
 have e3:(s.heap.push PySem.W.emptyDict).Ns s.heap.objs.size (λ_=>none):=⟨PySem.W.emptyDict,#[],_,e1,rfl,(λe he=>absurd he (by simp)),λ_=>rfl⟩
 have I1:=I.laid (a:=s.heap.objs.size) (o:=.own (s.heap.objs.size+1)) (h':=s.heap.push PySem.W.emptyDict) (t':=s.toks) (λb u q=>uc _ q) (uk _) ⟨_,e1⟩;refine I1.laid (a:=s.heap.objs.size+1) (o:=.ins C s.heap.objs.size []) (t':=s.toks) (λb u q=>uc _ q) (UK (gN _ _)) ?_;have ne:s.heap.objs.size≠s.heap.objs.size+1:=Uc (Nat.lt_succ_self _);refine⟨by rw [zr ne,zd],Uo _,ne,e2,λ_=>none,(GR e3).at λo q=>uc _ q,λ_=>True.intro,λy hy=>absurd rfl hy⟩
theorem KR {prog:Program}{w:World}{env:Env}{e:Expr}{f:Str}{pos:Pos}{s:Shared}{Q:Value->Shared->Prop}(hb:attributeBase e f env (eval e env)=eval e env)
  (h:wpAny (model prog w) A (eval e env) (λo s₁=>wpAny (model prog w) A (getAttr o f true) Q E s₁) E s):wpAny (model prog w) A (eval (.Attribute e f pos) env) Q E s:=
 Attribute_any_ h (by rw [arm_eval_Attribute,hb])
end
noncomputable def tFld (K:Le)(ta:TE)(f:Str):TE:=λσ H Q=>ta σ H λx H1=>∃ a C dx fs v,x=.ref a/\H1 a=some (.ins C dx fs)/\Cls K C/\wR K C f/\fs.lookup f=some v/\Q v H1
noncomputable def sFld (K:Le)(ta tv:TE)(f:Str):TS:=λD σ H=>tv σ H λy H1=>ta σ H1 λx H2=>∃ a C dx fs,x=.ref a/\H2 a=some (.ins C dx fs)/\Cls K C/\wR K C f/\fs.length<1000 /\ D.nx σ (upd H2 a (.ins C dx (putF f y fs)))
section
variable {X:Cx} {o e value:Expr} {f:Str} {pos pos' tpos:Pos} {ta tv:TE}
theorem zg2 (he:PE X e ta)(hb:attributeBase e f X.env (eval e X.env)=eval e X.env):PE X (.Attribute e f pos) (tFld X.K ta f):=by intro pins s σ H Q I h;refine KR hb (thn (he pins s σ H _ I h) λu s1 ⟨x,H1,I1,rx,a,C,dx,fs,v,ex,ea,c,n,l,q⟩=>?_);subst ex;obtain rfl:u=Value.ref a:=rx;exact Yi I1 ea c n l λu' s2 I2 ru=>⟨v,H1,I2,ru,q⟩
theorem zg3 (ha:PE X o ta)(hv:PE X value tv)(hs:swapsWith value (some (.Attribute o f pos')) pos.line X.env=pure false):PS X (.Assign [.Attribute o f pos'] value pos) (sFld X.K ta tv f):=by intro pins s σ H D I h;refine UL (thn (hv pins s σ H _ I h) λu s1 ⟨y,H1,I1,ry,q⟩=>thn (ha pins s1 σ H1 _ I1 q) λov s2 ⟨x,H2,I2,rx,a,C,dx,fs,ex,ea,c,n,l,q2⟩=>?_) hs;subst ex;obtain rfl:ov=Value.ref a:=rx;exact Yj I2 ea c n l ry λs3 I3=>⟨σ,_,I3,q2⟩
end
section
variable {X:Cx} {pins:List (Addr×Obj)} {σ:St} {H:Hp} {s:Shared} {A:Around} {E:Value->Shared->Prop} {Q:Value->Shared->Prop} {c:Value} {b:Bool}
inductive TyOf (K:Le)(H:Hp):V->Value->Prop where
 | non:TyOf K H .non (.type "NoneType")
 | bl (x:Bool):TyOf K H (.bl x) (.type "bool")
 | int (i:Int):TyOf K H (.int i) (.type "int")
 | str (x:Str):TyOf K H (.str x) (.type "str")
 | flt (x:UInt64):TyOf K H (.flt x) (.type "float")
 | lst {a:Addr} {xs:List V} (e:H a=some (.lst xs)):TyOf K H (.ref a) (.type "list")
 | frz {a:Addr} {o:Obj} {xs:List V} (e:H a=some (.frz o (.lst xs))):TyOf K H (.ref a) (.type "list")
 | tup {a:Addr} {xs:List V} (e:H a=some (.tup xs)):TyOf K H (.ref a) (.type "tuple")
 | dK {a:Addr} {kvs:List (Key×V)} (e:H a=some (.dK kvs)):TyOf K H (.ref a) (.type "dict")
 | dT {a:Addr} {kvs:List (List Key×V)} (e:H a=some (.dT kvs)):TyOf K H (.ref a) (.type "dict")
 | ins {a C dx:Addr} {fs:List (Str×V)} (e:H a=some (.ins C dx fs)) (cl:Cls K C) (ha:PySem.W.findIn K (.ref C) "__class__" = some (some (.builtin "object.__class__")))
   (hn:PySem.W.specialIn K (.builtin "object.__class__") "__get__" = some (some (.builtin "getset_descriptor.__get__"))) (htk:PySem.W.takesIn K (.builtin "object.__class__")=some true)
   (hm:PySem.W.mroIn K C (.type "object")=some true):TyOf K H (.ref a) (.ref C)
end
structure Room (k:Nat)(A:Around):Prop where
 hd:A.handled=none
 dp:A.depth+3 * k+5<recursionLimit
 un:A.units+16 * k+200<cLine
 gd:A.guards=some []
theorem Room.mono {j k:Nat}{A:Around}(r:Room k A)(h:j<=k):Room j A:=⟨r.hd,by have:=r.dp;lia,by have:=r.un;lia,r.gd⟩
theorem Room.deeper {k:Nat}{A:Around}(r:Room (k+1) A)(env:Env):Room k (A.deeper env):=
 ⟨r.hd,by have:=r.dp;show A.depth+1+3 * k+5<_;lia,by have:=r.un;show A.units+3+16 * k+200<_;lia,r.gd⟩
theorem Room.in1 {k:Nat}{A:Around}(r:Room (k+1) A):Room k A.in1:=
 ⟨r.hd,by have:=r.dp;show A.depth+3 * k+5<_;lia,by have:=r.un;show A.units+1+16 * k+200<_;lia,r.gd⟩
theorem Q2 {A:Around}{C:Addr}{us:Lf}{kw:List (Str×Value)}:(A.under (.builtin "type.__call__" ⟨.ref C::us,kw⟩)).depth=A.depth+1:=by first | rfl | simp [Around.under,Code.weight,Code.isCreation,Code.isGuard,Code.isCaller,Code.frames,Code.isFrame,guardIds]
theorem Q3 {A:Around}{C:Addr}{us:Lf}{kw:List (Str×Value)}:(A.under (.builtin "type.__call__" ⟨.ref C::us,kw⟩)).units=A.units+1:=by first | rfl | simp [Around.under,Code.cUnits,Code.frames,Code.isFrame]
theorem Qg {A:Around}{C:Addr}{us:Lf}{kw:List (Str×Value)}:(A.under (.builtin "type.__call__" ⟨.ref C::us,kw⟩)).guards=A.guards:=by first | rfl | simp [Around.under,Code.weight,Code.isCreation,Code.isGuard,Code.isCaller,Code.frames,Code.isFrame,guardIds]
theorem Room.make {k:Nat}{A:Around}(r:Room (k+1) A)(C:Addr)(us:Lf)(kw:List (Str×Value)):Room k (A.under (.builtin "type.__call__" ⟨.ref C::us,kw⟩)):=
 ⟨r.hd,by have:=r.dp;rw [Q2];lia,by have:=r.un;rw [Q3];lia,by rw [Qg];exact r.gd⟩
theorem Room.depth {k:Nat}{A:Around}(r:Room k A):A.depth<recursionLimit:=by have:=r.dp;lia
theorem Room.units {k:Nat}{A:Around}(r:Room k A):A.units+64<cLine:=by have:=r.un;lia
noncomputable def tNil:TA:=λ_ H Q=>Q [] H
noncomputable def yi (ta:TE)(tr:TA):TA:=λσ H Q=>ta σ H λx H1=>tr σ H1 λxs H2=>Q (x::xs) H2
section
variable {X:Cx} {e:Expr} {es:Lg} {te:TE} {t:TA} {pos:Pos}
theorem ZC:PA X [] tNil:=λ_ _ _ _ H Q I h=>Calls.spliced_nil ⟨[],H,I,.nil,h⟩
theorem jT (ha:PE X e te)(hr:PA X es t)(hs:starEach (e::es) X.env=(false,eval e X.env)::starEach es X.env:=by rfl):PA X (e::es) (yi te t):=by intro pos pins s σ H Q I h;rw [hs];show wpAny _ _ (spliced ((false,eval e X.env)::backTo pos (starEach es X.env))) _ _ s;refine Calls.spliced_cons (thn (ha pins s σ H _ I h) λu s1 ⟨x,H1,I1,r1,q1⟩=>?_);exact thn (hr pos pins s1 σ H1 _ I1 q1) λus s2 ⟨xs,H2,I2,r2,q2⟩=>⟨x::xs,H2,I2,.cons r1 r2,q2⟩
noncomputable def tTup (t:TA):TE:=λσ H Q=>t σ H λxs H1=>xs.length<=sizeLine/\∀ p,H1 p=none->Q (.ref p) (upd H1 p (.tup xs))
noncomputable def tLst (t:TA):TE:=λσ H Q=>t σ H λxs H1=>xs.length<=sizeLine/\∀ p,H1 p=none->Q (.ref p) (upd H1 p (.lst xs))
theorem zg4 {x1}(h:PA X es t):PE X (.Tuple es x1 pos) (tTup t):=by intro pins s σ H Q I hq;refine wpAny_Tuple_spliced (thn (h pos pins s σ H _ I hq) λus s1 ⟨xs,H1,I1,r,z,q⟩=>⟨by rw [← r.length];exact z,?_⟩);have hf:H1 s1.heap.objs.size=none:=I1.hok.fresh (uk _);refine⟨.ref s1.heap.objs.size,upd H1 s1.heap.objs.size (.tup xs),I1.laid (t':=s1.toks) (λb u e=>uc _ e) (uk _) ?_,rfl,q _ hf⟩;exact⟨z,us,r,⟨_,um _ rfl,rfl,_,rfl⟩⟩
theorem zg5 (h:PA X es t):PE X (.List es pos) (tLst t):=by intro pins s σ H Q I hq;refine wpAny_List_spliced (thn (h pos pins s σ H _ I hq) λus s1 ⟨xs,H1,I1,r,z,q⟩=>⟨by rw [← r.length];exact z,?_⟩);have hf:H1 s1.heap.objs.size=none:=I1.hok.fresh (uk _);refine⟨.ref s1.heap.objs.size,upd H1 s1.heap.objs.size (.lst xs),I1.laid (t':=s1.toks) (λb u e=>uc _ e) (uk _) ?_,rfl,q _ hf⟩;exact⟨z,us,0,r,um _ rfl⟩
end
noncomputable abbrev Sp:=List V->Hp->VK->XK->Prop
noncomputable abbrev CXT:=List Env->Hp->Shared->XK->Value->Shared->Prop
structure Env0 (P:Program)(w:World)(K:Le)(mg:La)(base:Heap)(A:Around)(outer:List Env)(s:Shared)(H:Hp):Prop where
 frames:A.frames=some outer
 mod:Mod K mg base
 bs:∀ b o,base.get? b=some o->s.heap.get? b=some o/\H b=none
 bsz:base.objs.size<=s.heap.objs.size
 funs:s.heap.FunFrames base outer
 frf:∀ b∈frs outer,H b=none
 hok:HOk P w H s.heap
 bare:AllBare s.gens
def CE (outer:List Env)(P:Program)(w:World)(H:Hp)(s:Shared)(Q:VK)(u:Value)(s':Shared):Prop:= ∃ v H',s'.os=s.os/\AllBare s'.gens/\Un (frs outer) [] H H' s.heap s'.heap/\HOk P w H' s'.heap/\RelV v u/\Q v H'
def CR (CX:CXT)(outer:List Env)(P:Program)(w:World)(H:Hp)(s:Shared)(Q:VK)(E:XK)(r:Result)(s':Shared):Prop:=
 match r with
 | .ok (.ret u)=>CE outer P w H s Q u s'
 | .ok _=>False
 | .error e=>CX outer H s E e s'
structure FnOk (P:Program)(w:World)(K:Le)(mg:La)(base:Heap)(CX:CXT)(k:Nat)(f:Addr)(fd:FuncData)(ps:Lh)(sp:Sp):Prop where
 len:∀ vs H Q E,sp vs H Q E->vs.length=ps.length
 run:∀ (A:Around) (outer:List Env) (s:Shared) (H:Hp) (args:Args) (us:Lf) (vs:List V) (Q:VK) (E:XK),Room k A->Env0 P w K mg base A outer s H->BindsTo s fd args (ps.zip us)->Vals vs us->sp vs H Q E ->
  codeAny (model P w) A (.call (.ref f) args) (CR CX outer P w H s Q E) s
theorem FnOk.mono {P:Program}{w:World}{K:Le}{mg:La}{base:Heap}{CX:CXT}{j k:Nat}{f:Addr}{fd:FuncData}{ps:Lh}{sp:Sp}(F:FnOk P w K mg base CX j f fd ps sp)(h:j<=k) : FnOk P w K mg base CX k f fd ps sp:=⟨F.len,λA outer s H args us vs Q E hr=>F.run A outer s H args us vs Q E (hr.mono h)⟩
theorem FnOk.imp {P:Program}{w:World}{K:Le}{mg:La}{base:Heap}{CX:CXT}{k:Nat}{f:Addr}{fd:FuncData}{ps:Lh}{sp sp':Sp}(F:FnOk P w K mg base CX k f fd ps sp) (h:∀ vs H Q E,sp' vs H Q E->sp vs H Q E):FnOk P w K mg base CX k f fd ps sp':= ⟨λvs H Q E q=>F.len vs H Q E (h _ _ _ _ q),λA outer s H args us vs Q E hr he hb hv hs=>F.run A outer s H args us vs Q E hr he hb hv (h _ _ _ _ hs)⟩
theorem Env0.make {P:Program}{w:World}{K:Le}{mg:La}{base:Heap}{A:Around}{outer:List Env}{s:Shared}{H:Hp}(e:Env0 P w K mg base A outer s H)(C:Addr)(us:Lf)(kw:List (Str×Value)) :
  Env0 P w K mg base (A.under (.builtin "type.__call__" ⟨.ref C::us,kw⟩)) outer s H:=⟨by first | exact e.frames | (simpa [Around.under,Code.envs,Code.isFrame,pushEnvs] using e.frames),e.mod,e.bs,e.bsz,e.funs,e.frf,e.hok,e.bare⟩
theorem Env0.in1 {P:Program}{w:World}{K:Le}{mg:La}{base:Heap}{A:Around}{outer:List Env}{s:Shared}{H:Hp}(e:Env0 P w K mg base A outer s H) : Env0 P w K mg base A.in1 outer s H:=⟨e.frames,e.mod,e.bs,e.bsz,e.funs,e.frf,e.hok,e.bare⟩
section
variable {X:Cx} {pins:List (Addr×Obj)} {σ:St} {H:Hp} {s s':Shared}
theorem Inv.env0 (I:Inv X pins σ H s):Env0 X.prog X.w X.K X.mg X.base X.A X.stack s H:= ⟨I.ok.frames,I.ok.mod,I.bs,ux I.ok.bsz I.sz,I.stack,I.stkFree,I.hok,I.bare⟩
theorem Inv.after {Q:VK}{u:Value}(I:Inv X pins σ H s)(h:CE X.stack X.prog X.w H s Q u s'):EP X pins σ Q u s':=by obtain⟨v,H',os,bare,un,hok,r,q⟩:=h;obtain⟨hh,g,d,t,os'⟩:=s';obtain rfl:os' = s.os:=os;exact⟨v,H',I.call (h':=hh) (g':=g) (d':=d) (t':=t) (ch:=[]) un hok bare (λb z=>absurd z (by simp)),r,q⟩
end
noncomputable def Zc (sp:Sp)(dvs:List V)(E:XK)(t:TA):TE:=λσ H Q=>t σ H λvs H1=>sp (vs++dvs) H1 Q E
noncomputable def Q4 (C:Addr)(m:Str)(sp:Sp)(dvs:List V)(E:XK)(ta:TE)(t:TA):TE:=λσ H Q=>ta σ H λx H1=>∃ a dx fs,x=.ref a/\H1 a=some (.ins C dx fs)/\fs.lookup m=none /\ t σ H1 λvs H2=>sp (x::(vs++dvs)) H2 Q E
noncomputable def zbI (C:Addr)(sp:Sp)(dvs:List V)(E:XK)(t:TA):TE:=λσ H Q=>t σ H λvs H1=>∀ x dx,H1 x=none->H1 dx=none->dx≠x -> sp (.ref x::(vs++dvs)) (upd (upd H1 dx (.own x)) x (.ins C dx [])) (λv H2=>v=.non/\Q (.ref x) H2) E
def Binds (K:Le)(fd:FuncData)(ps:Lh)(ds:Lf):Prop:= ∀ (s:Shared) (us:Lf),K.In s.heap->(us++ds).length=ps.length->BindsTo s fd ⟨us,[]⟩ (ps.zip (us++ds))
theorem Binds.all {K:Le}{fd:FuncData}{ps:Lh}(h:∀ us:Lf,us.length=ps.length->bindArgs fd ⟨us,[]⟩=pure (ps.zip us)):Binds K fd ps []:=λs us _ hl=>by rw [uz] at hl ⊢;exact .of_eq (h us hl)
def Passes (CX:CXT)(X:Cx)(E:XK):Prop:=∀ (pins:List (Addr×Obj)) (σ:St) (H:Hp) (s:Shared) (e:Value) (s':Shared),Inv X pins σ H s->CX X.stack H s E e s'->X.xe e s'
section
variable {X:Cx} {CX:CXT} {k:Nat} {f C:Addr} {fd:FuncData} {ps:Lh} {sp:Sp} {dvs:List V} {ds:Lf} {E:XK} {x m:Str} {p pos apos:Pos} {e o:Expr} {es:Lg} {ta:TE} {t:TA}
theorem Q5 {pins:List (Addr×Obj)}{σ:St}{H:Hp}{s:Shared}{Q:VK}{us:Lf}{vs:List V}(F:FnOk X.prog X.w X.K X.mg X.base CX k f fd ps sp)(hr:Room k X.A)(hb:Binds X.K fd ps ds)(hd:Vals dvs ds)(hx:Passes CX X E) (I:Inv X pins σ H s) (r:Vals vs us) (h:sp (vs++dvs) H Q E):wpAny (model X.prog X.w) X.A (call (.ref f) us) (EP X pins σ Q) X.xe s:=by
 have r2:Vals (vs++dvs) (us++ds):=r.append hd;have hl:(us++ds).length=ps.length:=by rw [← r2.length];exact F.len _ _ _ _ h
 refine Ua (Ue (F.run X.A X.stack s H ⟨us,[]⟩ (us++ds) (vs++dvs) Q E hr I.env0 (hb s us I.kIn hl) r2 h) λr s' hq=>?_);cases r with
 | error e=>exact hx pins σ H s e s' I hq
 | ok fl=>
  cases fl with
  | ret u=>exact I.after hq
  | next=>exact False.elim hq
  | brk=>exact False.elim hq
  | cont=>exact False.elim hq
theorem zdM (F:FnOk X.prog X.w X.K X.mg X.base CX k f fd ps sp)(hr:Room k X.A)(hg:Gl X x)(hm:X.mg x=some (.ref f))(hk:PySem.W.keepIn X.K (.ref f)=true)(hb:Binds X.K fd ps ds)(hd:Vals dvs ds)(hx:Passes CX X E) (ha:PA X (e::es) t) (hdb:(x == ("__debug__":Str))=false:=by decide) (he:starEach (e::es) X.env=(false,eval e X.env)::starEach es X.env:=by rfl) (hpl:(backTo pos (starEach es X.env)).any (·.1)=false:=by rfl) : PE X (.Call (.Name x p) (e::es) [] pos) (Zc sp dvs E t):=by intro pins s σ H Q I h;refine uV (jR I hg hm ?_ hdb);refine Ug (h₀:=X.base) I.ok.mod.kin hk (thn (ha pos pins s σ H _ I h) λus s1 ⟨vs,H1,I1,r,q⟩=>⟨I1.kIn,?_⟩) he hpl;exact Q5 F hr hb hd hx I1 r q
theorem zbJ (F:FnOk X.prog X.w X.K X.mg X.base CX k f fd ps sp)(hr:Room k X.A)(hg:Gl X x)(hm:X.mg x=some (.ref f))(hk:PySem.W.keepIn X.K (.ref f)=true)(hb:Binds X.K fd ps ds)(hd:Vals dvs ds)(hx:Passes CX X E) (hdb:(x == ("__debug__":Str))=false:=by decide):PE X (.Call (.Name x p) [] [] pos) (Zc sp dvs E tNil):=by intro pins s σ H Q I h;refine uV (jR I hg hm ?_ hdb);exact gS I.kIn hk (Q5 (us:=[]) F hr hb hd hx I .nil h)
theorem zdN {pl:Sem Bool}(he:PE X o ta)(c:Cls X.K C)(hm:Meth X.K C m f)(F:FnOk X.prog X.w X.K X.mg X.base CX k f fd ps sp)(hr:Room k X.A)(hb:Binds X.K fd ps ds)(hd:Vals dvs ds)(hx:Passes CX X E)(ha:PA X (e::es) t)
  (hst:starEach (e::es) X.env=(false,eval e X.env)::starEach es X.env:=by rfl) (hpl:(backTo pos (starEach es X.env)).any (·.1)=false:=by rfl)
  (ht:eval (.Call (.Attribute o m apos) (e::es) [] pos) X.env=(do
   let ov ← eval o X.env
   standAt apos.atName
   let (f,first) ← holding [ov] (getMethod ov m pl)
   callWith pos f first (backTo pos (starEach (e::es) X.env)) (backToKw pos (keywordEach [] X.env))):=by rfl) :
  PE X (.Call (.Attribute o m apos) (e::es) [] pos) (Q4 C m sp dvs E ta t):=by
 intro pins s σ H Q I h
 refine UG (pl:=pl) (thn (he pins s σ H _ I h) λu s1 ⟨x,H1,I1,rx,a,dx,fs,ex,ea,l,q⟩=>?_) ht
 subst ex
 obtain rfl:u=Value.ref a:=rx
 refine vG I1 ea c hm l ?_
 refine Ug (first:=[.ref a]) (h₀:=X.base) I.ok.mod.kin hm.kp (thn (ha pos pins s1 σ H1 _ I1 q) λus s2 ⟨vs,H2,I2,r,q2⟩=>⟨I2.kIn,?_⟩) hst hpl
 exact Q5 (us:=.ref a::us) (vs:=.ref a::vs) F hr hb hd hx I2 (.cons rfl r) q2
theorem zbK {pl:Sem Bool}(he:PE X o ta)(c:Cls X.K C)(hm:Meth X.K C m f)(F:FnOk X.prog X.w X.K X.mg X.base CX k f fd ps sp)(hr:Room k X.A)(hb:Binds X.K fd ps ds)(hd:Vals dvs ds)(hx:Passes CX X E)
  (ht:eval (.Call (.Attribute o m apos) [] [] pos) X.env=(do
   let ov ← eval o X.env
   standAt apos.atName
   let (f,first) ← holding [ov] (getMethod ov m pl)
   callWith pos f first (backTo pos (starEach [] X.env)) (backToKw pos (keywordEach [] X.env))):=by rfl) :
  PE X (.Call (.Attribute o m apos) [] [] pos) (Q4 C m sp dvs E ta tNil):=by
 intro pins s σ H Q I h
 refine UG (pl:=pl) (thn (he pins s σ H _ I h) λu s1 ⟨x,H1,I1,rx,a,dx,fs,ex,ea,l,q⟩=>?_) ht
 subst ex
 obtain rfl:u=Value.ref a:=rx
 refine vG I1 ea c hm l ?_
 exact gS (first:=[.ref a]) I1.kIn hm.kp (Q5 (us:=[.ref a]) (vs:=[.ref a]) F hr hb hd hx I1 (.cons rfl .nil) q)
structure Mk (K:Le)(C f:Addr):Prop where
 makes:PySem.W.makesIn K C=true
 init:PySem.W.findIn K (.ref C) "__init__" = some (some (.ref f))
 fn:PySem.W.isFn K (.ref f)=true
 kp:PySem.W.keepIn K (.ref C)=true
theorem zbL {pins:List (Addr×Obj)}{σ:St}{H:Hp}{s:Shared}{Q:VK}{us:Lf}{vs:List V}(M:Mk X.K C f)(F:FnOk X.prog X.w X.K X.mg X.base CX k f fd ps sp)(hr:Room (k+1) X.A)(hb:Binds X.K fd ps ds)(hd:Vals dvs ds) (hx:Passes CX X E) (I:Inv X pins σ H s) (r:Vals vs us) (h:∀ x dx,H x=none->H dx=none->dx≠x->sp (.ref x::(vs++dvs)) (upd (upd H dx (.own x)) x (.ins C dx [])) (λv H2=>v=.non/\Q (.ref x) H2) E) : wpAny (model X.prog X.w) X.A (call (.ref C) us) (EP X pins σ Q) X.xe s:=by
 have hq:=h (s.heap.objs.size+1) s.heap.objs.size (I.hok.fresh (Gu _)) (I.hok.fresh (uk _)) (Uc (Nat.lt_succ_self _));have I2:=Inv.made (C:=C) I;have r2:Vals (V.ref (s.heap.objs.size+1)::(vs++dvs)) (Value.ref (s.heap.objs.size+1)::(us++ds)):=.cons rfl (r.append hd);have hl:(Value.ref (s.heap.objs.size+1)::us++ds).length=ps.length:=by have e:=r2.length;rw [F.len _ _ _ _ hq] at e;exact e.symm
 refine Ua (zbH (f:=f) I.kIn M.makes M.init (Uk.mp M.fn) (Ue (F.run _ X.stack _ _ ⟨Value.ref (s.heap.objs.size+1)::us,[]⟩ (Value.ref (s.heap.objs.size+1)::(us++ds)) _ _ E (hr.make C us [])
  (I2.env0.make C us []) (hb _ (Value.ref (s.heap.objs.size+1)::us) I2.kIn hl) r2 hq) λr s' hq'=>?_))
 cases r with
 | error e=>exact hx pins σ _ _ e s' I2 hq'
 | ok fl=>
  cases fl with
  | ret u=>obtain⟨v,H',I3,rv,ev,q3⟩:=I2.after hq';subst ev;exact⟨rv,⟨V.ref (s.heap.objs.size+1),H',I3,rfl,q3⟩⟩
  | next=>exact False.elim hq'
  | brk=>exact False.elim hq'
  | cont=>exact False.elim hq'
theorem zdO (M:Mk X.K C f)(F:FnOk X.prog X.w X.K X.mg X.base CX k f fd ps sp)(hr:Room (k+1) X.A)(hg:Gl X x)(hm:X.mg x=some (.ref C))(hb:Binds X.K fd ps ds)(hd:Vals dvs ds)(hx:Passes CX X E) (ha:PA X (e::es) t) (hdb:(x == ("__debug__":Str))=false:=by decide) (he:starEach (e::es) X.env=(false,eval e X.env)::starEach es X.env:=by rfl) (hpl:(backTo pos (starEach es X.env)).any (·.1)=false:=by rfl) : PE X (.Call (.Name x p) (e::es) [] pos) (zbI C sp dvs E t):=by intro pins s σ H Q I h;refine uV (jR I hg hm ?_ hdb);refine Ug (h₀:=X.base) I.ok.mod.kin M.kp (thn (ha pos pins s σ H _ I h) λus s1 ⟨vs,H1,I1,r,q⟩=>⟨I1.kIn,?_⟩) he hpl;exact zbL M F hr hb hd hx I1 r q
end
section
variable {X:Cx} {CX:CXT} {k:Nat} {f C:Addr} {fd:FuncData} {ps ks:Lh} {sp:Sp} {E:XK} {x m:Str} {p pos apos kpos:Pos} {e o:Expr} {es:Lg} {kws:List Keyword} {te ta:TE} {t tk:TA} {nm:Option Str}
variable {g:Lf->Lf->Lf} {gV:List V->List V->List V}
end
structure zo (N P:Lh)(sc:Scope):Prop where
 kind:sc.kind=.function
 co:sc.isCoroutine=false
 gen:sc.isGenerator=false
 nd:N.Nodup
 pre:N.take P.length=P
 par:∀ x∈P,sc.names.lookup x=some .local\/sc.names.lookup x=some .cell
 nofree:∀ y∈sc.names,y.2≠.free
theorem Wi {kindOf:Str->Option NameKind}{x:Str}:∀ {binds:List (Str×Value)} {m:La},(∀ v,(x,v)∉binds)->bindL kindOf binds m x=m x
 | [],_,_=>rfl
 | (n,v)::r,m,h=>by
  unfold bindL;rw [Wi λw hw=>h w (uP _ hw)];split
  ·have:x≠n:=by rintro rfl;exact h v Ux
   simp [this]
  ·rfl
theorem Wj {kindOf:Str->Option NameKind}{x:Str}:∀ {binds:List (Str×Value)} {m:La},(∀ v,(x,v)∉binds)->bindC kindOf binds m x=m x
 | [],_,_=>rfl
 | (n,v)::r,m,h=>by
  unfold bindC;rw [Wj λw hw=>h w (uP _ hw)];split
  ·rfl
  ·have:x≠n:=by rintro rfl;exact h v Ux
   simp [this]
theorem ZD {kindOf:Str->Option NameKind}{x:Str}{v:Value}:∀ {P:Lh} {vs:Lf} {i:Nat} {m:La},P.Nodup->P[i]? = some x->vs[i]? = some v->kindOf x=some .local ->
  bindL kindOf (P.zip vs) m x=some v
 | [],_,_,_,_,h,_,_=>by simp at h
 | _::_,[],_,_,_,_,h,_=>by simp at h
 | p::P,w::vs,0,m,nd,h1,h2,hk=>by simp at h1 h2;subst h1;subst h2;show bindL kindOf ((p,w)::P.zip vs) m p=_;unfold bindL;rw [Wi λv hv=>(UR.mp nd).1 (U8 hv).1,uf hk];simp
 | p::P,w::vs,i+1,m,nd,h1,h2,hk=>by show bindL kindOf ((p,w)::P.zip vs) m x=_;unfold bindL;exact ZD (i:=i) (UR.mp nd).2 (by simpa using h1) (by simpa using h2) hk
theorem ZE {kindOf:Str->Option NameKind}{x:Str}{v:Value}:∀ {P:Lh} {vs:Lf} {i:Nat} {m:La},P.Nodup->P[i]? = some x->vs[i]? = some v->kindOf x≠some .local ->
  bindC kindOf (P.zip vs) m x=some v
 | [],_,_,_,_,h,_,_=>by simp at h
 | _::_,[],_,_,_,_,h,_=>by simp at h
 | p::P,w::vs,0,m,nd,h1,h2,hk=>by simp at h1 h2;subst h1;subst h2;show bindC kindOf ((p,w)::P.zip vs) m p=_;unfold bindC;rw [Wj λv hv=>(UR.mp nd).1 (U8 hv).1,ub hk];simp
 | p::P,w::vs,i+1,m,nd,h1,h2,hk=>by show bindC kindOf ((p,w)::P.zip vs) m x=_;unfold bindC;exact ZE (i:=i) (UR.mp nd).2 (by simpa using h1) (by simpa using h2) hk
noncomputable def start (N:Lh)(vs:List V):St:=vs.map some++List.replicate (N.length - vs.length) none
noncomputable def cxOf (CX:CXT)(P:Program)(w:World)(K:Le)(mg:La)(base:Heap)(N:Lh)(qual:Str)(scope:Scope)(f:Addr)(cd:Value)(A:Around)(outer:List Env)(s:Shared)(H:Hp)(E:XK):Cx where
 prog:=P
 w:=w
 K:=K
 mg:=mg
 base:=base
 A:=A.deeper (envOfC qual scope s.heap.objs.size f cd)
 N:=N
 s₀:=s
 H₀:=H
 env:=envOfC qual scope s.heap.objs.size f cd
 outer:=outer
 stack:=envOfC qual scope s.heap.objs.size f cd::outer
 ex:=[]
 calm:=true
 fn:=λ_=>true
 pn:=[]
 xe:=λe s'=>wpAny (model P w) (A.deeper (envOfC qual scope s.heap.objs.size f cd)) (leaving (envOfC qual scope s.heap.objs.size f cd) e) (λ_ s''=>CX outer H s E e s'') (λe' s''=>CX outer H s E e' s'') s'
theorem Zd {sc:Scope}{n:Nat}{x:Str}(h:sc.names.lookup x=some .cell):∃ c,(cellsFrom n sc.names []).lookup x=some c:=by have q:=UZ sc.names n [] (.inl h);exact Option.isSome_iff_exists.mp q
theorem Wk {CX:CXT}{P:Program}{w:World}{K:Le}{mg:La}{base:Heap}{N ps:Lh}{qual:Str}{scope:Scope}{f:Addr}{cd:Value}{A:Around}{outer:List Env}{s s1:Shared}{H:Hp}{E:XK}{us:Lf}{vs:List V} (S:zo N ps scope) (hd:A.handled=none) (e0:Env0 P w K mg base A outer s H) (hl:vs.length=ps.length) (r:Vals vs us) (x:InCallC s s.heap.objs.size (bindL (envOfC qual scope s.heap.objs.size f cd).kindOf (ps.zip us) λ_=>none) (cellsFrom (s.heap.objs.size+1) scope.names []) (bindC (envOfC qual scope s.heap.objs.size f cd).kindOf (ps.zip us) λ_=>none) s1) : Inv (cxOf CX P w K mg base N qual scope f cd A outer s H E) [] (start N vs) H s1:=by
 have hpl:ps.length<=N.length:=by have:=congrArg List.length S.pre;rw [Ul] at this;lia
 obtain⟨h1,tk,rfl,hk⟩:=x.done;have noA:∀ b:Addr,b∉(cxOf CX P w K mg base N qual scope f cd A outer s H E).ex:=λb z=>absurd (show b∈([]:Ld) from z) (by simp)
 refine⟨⟨e0.mod,S.kind,rfl,rfl,uk _,λy z c h1 h2=>?_,λy hy=>?_,λy c _ h=>?_,λ_=>hd,Around.frames_deeper e0.frames,.inr ⟨rfl,rfl⟩,λb z=>absurd z (noA b),e0.bs,e0.bsz,λb _ _=>noA b,λb z=>absurd z (noA b),e0.funs,e0.frf⟩,
  rfl,e0.bare,Un.kept hk,⟨_,x.toInCall.ns,λi y v h1 h2 h3=>?_⟩,λy c h=>⟨_,x.cell y c h⟩,e0.hok.fresh (uk _),λy c h=>?_,λp hp=>absurd (show p∈([]:List (Addr×Obj)) from hp) (by simp),e0.hok.kept hk,?_⟩
 ·exact name_of_addr x.apart (uC h1) (uC h2)
 ·have hy:scope.names.lookup y=some .cell\/scope.names.lookup y=some .free:=hy;rcases hy with hy | hy
  ·exact Zd hy
  ·exact absurd rfl (S.nofree _ (uC hy))
 ·exact gc (x.above y c (uC h))
 ·have hi:i<vs.length:=by
   unfold start at h2
   by_cases hi:i<vs.length
   ·exact hi
   ·rw [gj (by simpa using hi)] at h2
    rw [GS] at h2
    split at h2<;>cases h2
  have ha:vs[i]? = some v:=by
   unfold start at h2
   rw [UN (by simpa using hi),Um] at h2
   cases e:vs[i]? with
   | none=>rw [e] at h2;cases h2
   | some a=>rw [e] at h2;cases h2;rfl
  obtain⟨u,hu,rv⟩:=r.get ha
  have hp:ps[i]? = some y:=by
   rw [← S.pre,GP (by lia)];exact h1
  have ndP:ps.Nodup:=by rw [← S.pre];exact S.nd.sublist (List.take_sublist _ _)
  refine⟨u,rv,?_⟩
  rcases S.par y (uZ hp) with k | k
  ·exact .inl ⟨k,ZD ndP hp hu k⟩
  ·obtain⟨c,e⟩:=Zd (n:=s.heap.objs.size+1) k
   refine .inr ⟨.inl k,c,e,?_⟩
   have q:=x.cell y c e
   rw [ZE ndP hp hu (by show scope.names.lookup y≠_;rw [k];decide)] at q
   exact q
 ·exact e0.hok.fresh (gc (x.above y c (uC h)))
 ·unfold start;show _=N.length;rw [ug,uS,List.length_replicate];lia
theorem KS {CX:CXT}{P:Program}{w:World}{K:Le}{mg:La}{base:Heap}{k:Nat}{f:Addr}{name qual:Str}{params:Arguments}{body:List Stmt}{scope:Scope}{dV kV doc pm cdv ct oc:Value}{an od:Option Addr} {osl:Array (Option Value)} {N ps:Lh} {sp:Sp} (lk:K.lookup f=some ⟨oc,od,.func (PySem.W.fnOf name qual params body scope dV kV doc pm an cdv ct),osl⟩) (hcd:PySem.W.codeIn K cdv qual=true) (S:zo N ps scope) (len:∀ vs H Q E,sp vs H Q E->vs.length=ps.length) (hbody:∀ (A:Around) (outer:List Env) (s:Shared) (H:Hp) (vs:List V) (Q:VK) (E:XK),Room k (A.deeper (envOfC qual scope s.heap.objs.size f cdv))->sp vs H Q E -> ∃ t,PSs (cxOf CX P w K mg base N qual scope f cdv A outer s H E) body t/\t { nx:=λ_ H'=>Q .non H',rt:=Q } (start N vs) H) : FnOk P w K mg base CX (k+1) f (PySem.W.fnOf name qual params body scope dV kV doc pm an cdv ct) ps sp:=by
 refine⟨len,λA outer s H args us vs Q E hr e0 hb r hsp=>?_⟩;have hl:=len _ _ _ _ hsp;have KX:K.In s.heap:=e0.mod.kin.keeps λb o e=>(e0.bs b o e).1;have lim:s.heap.NoLimit:=e0.mod.nolimit.keeps λb o e=>(e0.bs b o e).1
 have hkind:∀ y∈ps.zip us,scope.names.lookup y.1=some .local\/(scope.names.lookup y.1=some .cell/\((cellsFrom (s.heap.objs.size+1) scope.names []).lookup y.1).isSome=true):=λ⟨n,v⟩ hy=>by
  rcases S.par n (U8 hy).1 with q | q
  ·exact .inl q
  ·exact .inr ⟨q,UZ _ _ _ (.inl q)⟩
 refine gf hr.depth (KX _ _ lk) rfl S.co S.gen rfl (g8 KX hcd) (hb _ _ _ _ ?_);refine U0 S.kind hkind λenv he s1 x=>?_;subst he;refine⟨lim.keeps x.toInCall.keep,g9 ?_⟩;obtain⟨t,ht,hq⟩:=hbody A outer s H vs Q E (hr.deeper _) hsp;have I:Inv (cxOf CX P w K mg base N qual scope f cdv A outer s H E) [] (start N vs) H s1:=Wk S hr.hd e0 hl r x;refine uj (ht [] s1 (start N vs) H _ I hq) (λfl s' hs=>?_) λe s' hs=>hs
 have fin:∀ {σ':St} {H':Hp} {v:V} {u:Value},Inv (cxOf CX P w K mg base N qual scope f cdv A outer s H E) [] σ' H' s'->RelV v u->Q v H'->CE outer P w H s Q u s':=
  λ{σ' H' v u} J rv q=>⟨v,H',J.os,J.bare,J.base,J.hok,rv,q⟩
 cases fl with
 | ret u=>obtain⟨v,σ',H',J,rv,q⟩:=hs;exact fin J rv q
 | next=>obtain⟨σ',H',J,q⟩:=hs;exact fin (v:=V.non) (u:=Value.none) J rfl q
 | brk=>obtain⟨_,_,_,q⟩:=hs;exact False.elim q
 | cont=>obtain⟨_,_,_,q⟩:=hs;exact False.elim q
section
variable {X:Cx} {x:Str} {p pos:Pos} {e:Expr} {es:Lg} {t:TA} {id T:String} {r:List V->Hp->VK->Prop}
noncomputable def tCB (r:List V->Hp->VK->Prop)(t:TA):TE:=λσ H Q=>t σ H λvs H1=>r vs H1 Q
theorem zbM (hc:qV X (.builtin id) r)(hg:Gl X x)(hm:X.mg x=none)(hv:bootBuiltins x=some (.builtin id))(ha:PA X (e::es) t)(hn:x≠"__name__":=by decide) (hdb:(x == ("__debug__":Str))=false:=by decide) (he:starEach (e::es) X.env=(false,eval e X.env)::starEach es X.env:=by rfl) (hpl:(backTo pos (starEach es X.env)).any (·.1)=false:=by rfl):PE X (.Call (.Name x p) (e::es) [] pos) (tCB r t):=by intro pins s σ H Q I h;refine uV (QY I hg hm hv ?_ hn hdb);exact PyProof.Rows.callWith_builtin1 (thn (ha pos pins s σ H _ I h) λus s1 ⟨vs,H1,I1,r1,q1⟩=>hc pins s1 σ H1 vs us Q I1 r1 q1) he hpl
theorem zaV (hc:qV X (.type T) r)(hg:Gl X x)(hm:X.mg x=none)(hv:bootBuiltins x=some (.type T))(ha:PA X (e::es) t)(hn:x≠"__name__":=by decide) (hdb:(x == ("__debug__":Str))=false:=by decide) (he:starEach (e::es) X.env=(false,eval e X.env)::starEach es X.env:=by rfl) (hpl:(backTo pos (starEach es X.env)).any (·.1)=false:=by rfl):PE X (.Call (.Name x p) (e::es) [] pos) (tCB r t):=by intro pins s σ H Q I h;refine uV (QY I hg hm hv ?_ hn hdb);exact PyProof.Rows.callWith_type1 (thn (ha pos pins s σ H _ I h) λus s1 ⟨vs,H1,I1,r1,q1⟩=>hc pins s1 σ H1 vs us Q I1 r1 q1) he hpl
end
end L2
namespace HT
open PySem PyProof.Rows
section
open PySem.SeqAt
open PySem.AutoSeq1 (wpAny_loadPart')
open PySem.MeetsSeq PySem.MeetsSeq2 PySem.MeetsSeq3
end
section
variable {prog:Program} {w:World} {A:Around} {E:Value->Shared->Prop} {s:Shared}
theorem zdP {t b:Addr}{vs ws:Lf}{Q:Value->Shared->Prop}(ht:IsTup s.heap t vs.toArray)(hb:IsTup s.heap b ws.toArray)(hv:vs≠[]) (h1:ws=[]->Q (.ref t) s) (h2:ws≠[]->Q (.ref s.heap.objs.size) { s with heap:=s.heap.push { cls:=.type "tuple",data:=.seq (vs++ws).toArray } }) (hsz:vs.length+ws.length<=sizeLine):wpAny (model prog w) A (binaryOp .Add (.ref t) (.ref b)) Q E s:=by
 obtain⟨⟨cls,dd,data,sl⟩,ho,hc,n,hd⟩:=id ht;obtain⟨⟨cls2,dd2,data2,sl2⟩,ho2,hc2,n2,hd2⟩:=id hb;simp only at hc hd hc2 hd2;subst hc hd hc2 hd2;have e:vs.toArray++ws.toArray=(vs++ws).toArray:=by simp
 by_cases hw:ws=[]
 ·exact Ga ⟨_,ho,rfl⟩ ⟨_,ho2,rfl⟩ gD gT gE gz (gr _ _)
   (tuple_addW1 t b vs.toArray ws.toArray n n2 dd dd2 sl sl2 (by simpa using hv) (by simp [hw])) ⟨ho,ho2,h1 hw⟩
 ·refine Ga ⟨_,ho,rfl⟩ ⟨_,ho2,rfl⟩ gD gT gE gz (gr _ _)
   (tuple_addW2 t b vs.toArray ws.toArray n n2 dd dd2 sl sl2 (by simpa using hv) (by simpa using hw) (by rw [uh,uh];exact hsz)) ⟨ho,ho2,?_⟩
  rw [e]
  exact h2 hw
noncomputable def sIx (n d:Nat):Option Int->Nat
 | none=>d
 | some v=>if v<0 then(v+(n:Int)).toNat else min v.toNat n
theorem sIx_none (n d:Nat):sIx n d none=d:=rfl
theorem zg6 (n d:Nat)(hd:d<=n)(o:Option Int):sIx n d o<=n:=by
 cases o with
 | none=>exact hd
 | some v=>
  show(if v<0 then(v+(n:Int)).toNat else min v.toNat n)<=n;by_cases hv:v<0
  ·rw [uf hv];lia
  ·rw [ub hv];exact Nat.min_le_right _ _
theorem KU (v:Int)(n d:Nat):(if v<0 then max (v+(n:Int)) 0 else min v (n:Int))=((sIx n d (some v):Nat):Int):=by
 show(if v<0 then max (v+(n:Int)) 0 else min v (n:Int))=(((if v<0 then(v+(n:Int)).toNat else min v.toNat n):Nat):Int)
 by_cases hv:v<0
 ·simp only [uf hv];lia
 ·simp only [ub hv];lia
theorem Yk (lo hi:Option Int)(n:Nat):Builtin.Slice.sliceAdjust lo hi 1 (n:Int)=(((sIx n 0 lo:Nat):Int),((sIx n n hi:Nat):Int)):=by
 have h1:¬ ((1:Int)<0):=by lia
 unfold Builtin.Slice.sliceAdjust;simp only [h1,gk];refine gx ?_ ?_
 ·cases lo with
  | none=>rfl
  | some v=>exact KU v n 0
 ·cases hi with
  | none=>rfl
  | some v=>exact KU v n n
theorem Yl (i j:Nat):Builtin.Slice.slicePlaces (i:Int) (j:Int) 1=j - i:=by
 unfold Builtin.Slice.slicePlaces;have h1:(1:Int) > 0:=by lia
 simp only [h1,if_true,Int.ediv_one];split<;>lia
theorem Q6 {v:Value}{o:Option Int}{Q:Option Int->Shared->Prop}(p:IsPart v o)(h:Q o s):wpAny (model prog w) A (Builtin.Slice.slicePartIndex v) Q E s:=by
 cases p with
 | none=>exact Gz h
 | int i t=>exact slicePart_int h
theorem vx {sl:Addr}{vl vu:Value}{lo hi:Option Int}{n:Nat}{Q:Int×Int×Nat->Shared->Prop}(hs:s.heap.IsSliceOf sl vl vu .none)(pl:IsPart vl lo)(pu:IsPart vu hi) (h:Q (((sIx n 0 lo:Nat):Int),1,sIx n n hi - sIx n 0 lo) s):wpAny (model prog w) A (Builtin.Slice.sliceApplied (.ref sl) (pure (n:Int))) Q E s:=by obtain⟨os,hos,hcs,hds⟩:=id hs;unfold Builtin.Slice.sliceApplied Builtin.Slice.sliceFields;refine ua (ua (uJ hos hds (x:=vl) rfl (ua (uJ hos hds (x:=vu) rfl (ua (uJ hos hds (x:=.none) rfl (ud ?_)))))));refine ua (Gz ?_);show wpAny _ _ (if ((1:Int) == 0)=true then _ else _) _ _ s;rw [ub (by decide)];refine ua (Q6 pl (ua (Q6 pu (ua (ud ?_)))));show wpAny _ _ (match Builtin.Slice.sliceAdjust lo hi 1 (n:Int) with | (lo,hi)=>pure (lo,(1:Int),Builtin.Slice.slicePlaces lo hi 1)) _ _ s;rw [Yk lo hi n];show wpAny _ _ (pure (((sIx n 0 lo:Nat):Int),(1:Int),Builtin.Slice.slicePlaces ((sIx n 0 lo:Nat):Int) ((sIx n n hi:Nat):Int) 1)) _ _ s;rw [Yl];exact ud h
theorem zbN (xs:Array Value)(i k:Nat):((List.range k).filterMap λ(m:Nat)=>xs[((i:Int)+(m:Int) * 1).toNat]?).toArray=((xs.toList.drop i).take k).toArray:=by
 have e:(λ(m:Nat)=>xs[((i:Int)+(m:Int) * 1).toNat]?)=λm=>xs[i+m]?:=by
  funext m;have:((i:Int)+(m:Int) * 1).toNat=i+m:=by lia
  rw [this]
 rw [e];have:=pick_run xs i k;rw [List.filterMap_map] at this;have e2:((λx=>xs[x]?) ∘ λx=>i+x)=λm=>xs[i+m]?:=rfl;rw [e2] at this;rw [this]
theorem Ze {t sl:Addr}{items:Array Value}{vl vu:Value}{lo hi:Option Int}{Q:Value->Shared->Prop}(ht:IsTup s.heap t items)(hs:s.heap.IsSliceOf sl vl vu .none)(pl:IsPart vl lo)(pu:IsPart vu hi) (hw:¬ (sIx items.size 0 lo=0/\sIx items.size items.size hi=items.size)) (h:Q (.ref s.heap.objs.size) { s with heap:=s.heap.push { cls:=.type "tuple",data:=.seq ((items.toList.drop (sIx items.size 0 lo)).take (sIx items.size items.size hi - sIx items.size 0 lo)).toArray } }) (hsz:items.size<=sizeLine):wpAny (model prog w) A (getItem (.ref t) (.ref sl)) Q E s:=by
 have htake:sizeOk (.seq ((items.toList.drop (sIx items.size 0 lo)).take (sIx items.size items.size hi - sIx items.size 0 lo)).toArray):=by show((items.toList.drop (sIx items.size 0 lo)).take (sIx items.size items.size hi - sIx items.size 0 lo)).toArray.size<=sizeLine;rw [uh,Ul,Gm,gQ];lia
 have hj:sIx items.size items.size hi<=items.size:=zg6 _ _ (uk _) hi;obtain⟨os,hos,hcs,hds⟩:=id hs;have hTs:s.TypeIs (.ref sl) "slice":=⟨os,hos,hcs⟩
 unfold getItem
 try with_reducible refine uX ?_
 first | refine ua (ud ?_) | skip
 refine ua (GU ht.typeIs (by decide) ?_)
 refine ua (Gv (name:=Str.ofString "__getitem__") ht.typeIs PyProof.Rows.slot_tuple_getitem
  (wpAny_call_entry PyProof.Rows.slot_tuple_getitem ht.typeIs Gg ?_ (Gj _ _)))
 show wpAny _ _ (Builtin.Tuple.tupleItemsOf (.ref t) >>= _) _ _ s;refine ua (GF ht ?_);refine ua (gm hTs ?_);rw [uf (by decide)];refine ua (vx hs pl pu ?_);have hno:¬ ((((sIx items.size 0 lo:Nat):Int) == 0&&(1:Int) == 1&&(sIx items.size items.size hi - sIx items.size 0 lo) == items.size)=true):=by intro q;rw [uI,uI] at q;have q1:((sIx items.size 0 lo:Nat):Int)=0:=eq_of_beq q.1.1;have q2:sIx items.size items.size hi - sIx items.size 0 lo=items.size:=eq_of_beq q.2;exact hw ⟨by lia,by lia⟩
 show wpAny _ _ (if (((sIx items.size 0 lo:Nat):Int) == 0&&(1:Int) == 1&&(sIx items.size items.size hi - sIx items.size 0 lo) == items.size)=true then _ else _) _ _ s;rw [ub hno,zbN]
 first
  | exact ua (m:=Builtin.Tuple.tupleExact _) (Uh (ud ⟨_,rfl,ud h⟩) htake)
  | exact ua (m:=Builtin.Tuple.tupleExact _) (Uh (ua (ud (ud ⟨_,rfl,ud h⟩))) htake)
  | exact ua (ua (m:=Builtin.Tuple.tupleExact _) (Uh (ud (ud ⟨_,rfl,ud h⟩)) htake))
  | exact ua (ua (m:=Builtin.Tuple.tupleExact _) (Uh (ud ⟨_,rfl,ud h⟩) htake))
end
end HT
namespace L2
open PySem PySem.Spec PyProof.Rows
noncomputable abbrev TO:=St->Hp->(Option Int->Hp->Prop)->Prop
def PO (X:Cx)(e:Option Expr)(t:TO):Prop:= ∀ (pins:List (Addr×Obj)) (s:Shared) (σ:St) (H:Hp) (Q:Option Int->Hp->Prop),Inv X pins σ H s->t σ H Q -> wpAny (model X.prog X.w) X.A (evalPart e X.env) (λu s'=>∃ o H',Inv X pins σ H' s'/\IsPart u o/\Q o H') X.xe s
noncomputable def WQ:TO:=λ_ H Q=>Q none H
noncomputable def zbO (t:TE):TO:=λσ H Q=>t σ H λx H1=>∃ i,x=.int i/\Q (some i) H1
section
variable {X:Cx} {e:Expr} {te:TE} {lo hi:Option Expr} {tl th:TO} {pos p2:Pos}
theorem zdQ:PO X none WQ:=by intro pins s σ H Q I h;rw [evalPart_none];exact ud ⟨none,H,I,.none,h⟩
theorem zdR (h:PE X e te):PO X (some e) (zbO te):=by intro pins s σ H Q I hw;rw [evalPart_some];refine thn (h pins s σ H _ I hw) λu s1 ⟨x,H1,I1,r1,q1⟩=>?_;obtain⟨i,rfl,q⟩:=q1;obtain⟨t,rfl⟩:=r1;exact⟨some i,H1,I1,.int i t,q⟩
def SlR (X:Cx)(r:V->Option Int->Option Int->Hp->VK->Prop):Prop:= ∀ (pins:List (Addr×Obj)) (s:Shared) (σ:St) (H:Hp) (x:V) (v vl vu:Value) (lo hi:Option Int) (sl:Addr) (Q:VK),Inv X pins σ H s->RelV x v->s.heap.IsSliceOf sl vl vu .none->IsPart vl lo->IsPart vu hi->r x lo hi H Q -> ∃ T id,typeLookup (.type T) "__getitem__" = pure (some (.builtin id))/\s.TypeIs v T/\wpAny (model X.prog X.w) X.A (getItem v (.ref sl)) (EP X pins σ Q) X.xe s
theorem SlR.or {r r':V->Option Int->Option Int->Hp->VK->Prop}(h:SlR X r)(h':SlR X r'):SlR X (λx lo hi H Q=>r x lo hi H Q\/r' x lo hi H Q):=by
 intro pins s σ H x v vl vu lo hi sl Q I rx hs pl pu q;rcases q with q | q
 ·exact h pins s σ H x v vl vu lo hi sl Q I rx hs pl pu q
 ·exact h' pins s σ H x v vl vu lo hi sl Q I rx hs pl pu q
noncomputable def tSl (r:V->Option Int->Option Int->Hp->VK->Prop)(te:TE)(tl th:TO):TE:=λσ H Q=>te σ H λx H1=>tl σ H1 λl H2=>th σ H2 λu H3=>r x l u H3 Q
theorem zbP {r:V->Option Int->Option Int->Hp->VK->Prop}(hr:SlR X r)(he:PE X e te)(hl:PO X lo tl)(hu:PO X hi th):PE X (.Subscript e (.Slice lo hi none p2) pos) (tSl r te tl th):=by intro pins s σ H Q I h;refine Subscript_ (thn (he pins s σ H _ I h) λv s1 ⟨x,H1,I1,r1,q1⟩=>?_);refine wpAny_Slice (thn (hl pins s1 σ H1 _ I1 q1) λvl s2 ⟨l,H2,I2,pl,q2⟩=>thn (hu pins s2 σ H2 _ I2 q2) λvu s3 ⟨u,H3,I3,pu,q3⟩=>?_);rw [evalPart_none];refine ud ?_;have I4:Inv X pins σ H3 { s3 with heap:=s3.heap.push { cls:=.type "slice",data:=.fields #[vl,vu,.none] } }:=I3.kept (t':=s3.toks) λb ob q=>uc _ q;obtain⟨T,id,hT,ht,hg⟩:=hr pins { s3 with heap:=s3.heap.push { cls:=.type "slice",data:=.fields #[vl,vu,.none] } } σ H3 x v vl vu l u s3.heap.objs.size Q I4 r1 (Heap.IsSliceOf.new ..) pl pu q3;show wpAny (model X.prog X.w) X.A (subscriptTail e (.Slice lo hi none p2) v (.ref s3.heap.objs.size)) (EP X pins σ Q) X.xe { s3 with heap:=s3.heap.push { cls:=.type "slice",data:=.fields #[vl,vu,.none] } };exact tail_any (ops:=[.ref s3.heap.objs.size,v]) ht hT hg (by with_unfolding_all rfl)
noncomputable def cutV (xs:List V)(lo hi:Option Int):List V:=(xs.drop (HT.sIx xs.length 0 lo)).take (HT.sIx xs.length xs.length hi - HT.sIx xs.length 0 lo)
theorem XZ (xs:List V)(lo hi:Option Int):(cutV xs lo hi).length<=xs.length:=by unfold cutV;rw [Ul,Gm];lia
noncomputable def rSlT (K:Le):V->Option Int->Option Int->Hp->VK->Prop:=λx lo hi H Q=>∃ a xs,x=.ref a/\SqT K H a xs /\ ¬ (HT.sIx xs.length 0 lo=0/\HT.sIx xs.length xs.length hi=xs.length)/\∀ p,H p=none->Q (.ref p) (upd H p (.tup (cutV xs lo hi)))
theorem zg7:SlR X (rSlT X.K):=by
 intro pins s σ H x v vl vu lo hi sl Q I rx hs pl pu h;obtain⟨a,xs,rfl,hx,hw,q⟩:=h;cases rx;obtain⟨its,r,ht,hz⟩:=I.tuple hx;have hlen:its.toArray.size=xs.length:=by rw [uh];exact r.length.symm
 refine⟨"tuple",_,PyProof.Rows.slot_tuple_getitem.lookup,ht.typeIs,?_⟩;refine HT.Ze ht hs pl pu (by rw [hlen];exact hw) ?_ (by rw [hlen];exact hz);rw [hlen];refine⟨.ref s.heap.objs.size,_,I.laid (t':=s.toks) (o:=.tup (cutV xs lo hi)) (λb ob q=>uc _ q) (uk _) ?_,rfl,q _ (I.hok.fresh (uk _))⟩;exact⟨ux (XZ xs lo hi) hz,_,(r.drop (HT.sIx xs.length 0 lo)).take (HT.sIx xs.length xs.length hi - HT.sIx xs.length 0 lo),IsTup.new _ _⟩
noncomputable def zjW (K:Le):R2:=λx y H Q=>∃ a b xs ys,x=.ref a/\y=.ref b/\SqT K H a xs/\SqT K H b ys/\xs≠[]/\xs.length+ys.length<=sizeLine /\ (ys=[]->Q (.ref a) H)/\(ys≠[]->∀ p,H p=none->Q (.ref p) (upd H p (.tup (xs++ys))))
theorem Vals.nil_iff {xs:List V}{us:Lf}(r:Vals xs us):us=[]↔xs=[]:=by
 cases r with
 | nil=>simp
 | cons _ _=>simp
theorem zdS:OpR X (binaryOp .Add) (zjW X.K):=by intro pins s σ H x y v u Q I rx ry h;obtain⟨a,b,xs,ys,rfl,rfl,ha,hb,hx,hz,q1,q2⟩:=h;cases rx;cases ry;obtain⟨its,r1,p1,_⟩:=I.tuple ha;obtain⟨its2,r2,p2,_⟩:=I.tuple hb;refine HT.zdP p1 p2 (λz=>hx (r1.nil_iff.mp z)) (λz=>⟨.ref a,H,I,rfl,q1 (r2.nil_iff.mp z)⟩) (λz=>?_) (by rw [← r1.length,← r2.length];exact hz);refine⟨.ref s.heap.objs.size,_,I.laid (t':=s.toks) (o:=.tup (xs++ys)) (λb ob q=>uc _ q) (uk _) ?_,rfl,q2 (λw=>z (r2.nil_iff.mpr w)) _ (I.hok.fresh (uk _))⟩;exact⟨by rw [ug];exact hz,_,r1.append r2,IsTup.new _ _⟩
end
noncomputable def ixN (n:Nat)(i:Int):Option Nat:=if 0<=i then(if i<n then some i.toNat else none) else if -(n:Int)<=i then some (i+n).toNat else none
noncomputable def atI {α:Type}(xs:List α)(i:Int):Option α:=(ixN xs.length i).bind λj=>xs[j]?
theorem KW {n:Nat}{i:Int}{j:Nat}(h:ixN n i=some j):seqIndex? i n=some j/\j<n/\-(n:Int)<=i/\i<n:=by
 unfold ixN at h;by_cases h0:0<=i
 ·rw [uf h0] at h;by_cases h1:i<n
  ·rw [uf h1] at h;have e:i.toNat=j:=uB h;exact⟨by rw [Gh h0 h1,e],by lia,by lia,h1⟩
  ·rw [ub h1] at h;cases h
 ·rw [ub h0] at h;by_cases h1:-(n:Int)<=i
  ·rw [uf h1] at h;have e:(i+n).toNat=j:=uB h;exact⟨by rw [Gb (by lia) h1,e],by lia,h1,by lia⟩
  ·rw [ub h1] at h;cases h
theorem WR {α:Type}{xs:List α}{i:Int}{v:α}(h:atI xs i=some v):∃ j,seqIndex? i xs.length=some j/\xs[j]? = some v/\j<xs.length/\-(xs.length:Int)<=i/\i<xs.length:=by
 unfold atI at h;cases e:ixN xs.length i with
 | none=>rw [e] at h;cases h
 | some j=>rw [e] at h;obtain⟨h1,h2,h3,h4⟩:=KW e;exact⟨j,h1,h,h2,h3,h4⟩
theorem zdT {α:Type}{xs:List α}{j:Nat}{v:α}(h:xs[j]? = some v):atI xs (j:Int)=some v:=by
 have hj:j<xs.length:=(uF.mp h).1;have e:ixN xs.length (j:Int)=some j:=by unfold ixN;rw [uf (by lia),uf (by lia)];simp
 unfold atI;rw [e];exact h
def KY (b:Expr):Prop:=∀ o i,subscripted b false o i=operate [o,i] (getItem o i)
def IxR (X:Cx)(r:R2):Prop:= ∀ (value slice:Expr) (pins:List (Addr×Obj)) (s:Shared) (σ:St) (H:Hp) (x y:V) (v u:Value) (Q:VK),Inv X pins σ H s->RelV x v->RelV y u->r x y H Q -> subscripted slice false v u=operate [v,u] (getItem v u)->wpAny (model X.prog X.w) X.A (subscriptTail value slice v u) (EP X pins σ Q) X.xe s
def MtR (X:Cx)(id:String)(r:V->List V->Hp->VK->Prop):Prop:= ∀ (pins:List (Addr×Obj)) (s:Shared) (σ:St) (H:Hp) (x:V) (xs:List V) (v:Value) (us:Lf) (Q:VK),Inv X pins σ H s->RelV x v->Vals xs us->r x xs H Q -> wpAny (model X.prog X.w) X.A (call (.builtin id) (v::us)) (EP X pins σ Q) X.xe s
section
variable {X:Cx} {a b:Expr} {ta tb:TE} {pos:Pos}
theorem IxR.or {r r':R2}(h:IxR X r)(h':IxR X r'):IxR X (λx y H Q=>r x y H Q\/r' x y H Q):=by
 intro value slice pins s σ H x y v u Q I rx ry q hs;rcases q with q | q
 ·exact h value slice pins s σ H x y v u Q I rx ry q hs
 ·exact h' value slice pins s σ H x y v u Q I rx ry q hs
theorem MtR.or {id:String}{r r':V->List V->Hp->VK->Prop}(h:MtR X id r)(h':MtR X id r'):MtR X id (λx xs H Q=>r x xs H Q\/r' x xs H Q):=by
 intro pins s σ H x xs v us Q I rx rs q;rcases q with q | q
 ·exact h pins s σ H x xs v us Q I rx rs q
 ·exact h' pins s σ H x xs v us Q I rx rs q
theorem zjX {r:R2}(hr:IxR X r)(ha:PE X a ta)(hb:PE X b tb)(hs:KY b):PE X (.Subscript a b pos) (tOp r ta tb):=by intro pins s σ H Q I h;exact Subscript_ (binT ha hb I h λv u s2 x y H2 I2 rx ry q=>hr a b pins s2 σ H2 x y v u Q I2 rx ry q (hs _ _))
noncomputable def rIxL (K:Le):R2:=λx y H Q=>∃ p xs i v,x=.ref p/\y=.int i/\SqL K H p xs/\atI xs i=some v/\Q v H
noncomputable def rIxT (K:Le):R2:=λx y H Q=>∃ p xs i v,x=.ref p/\y=.int i/\SqT K H p xs/\atI xs i=some v/\Q v H
noncomputable def rIxS:R2:=λx y H Q=>∃ z i c,x=.str z/\y=.int i/\z.length<=sizeLine/\atI z.cps.toList i=some c/\Q (.str ⟨#[c]⟩) H
theorem zdU:IxR X (rIxL X.K):=by
 intro value slice pins s σ H x y v u Q I rx ry h hs;obtain⟨p,xs,i,z,rfl,rfl,hq,he,q⟩:=h;cases rx;obtain⟨t,rfl⟩:=ry;obtain⟨its,r,pl,hz⟩:=I.list hq;obtain⟨j,h1,h2,h3,h4,h5⟩:=WR he;obtain⟨w,ew,rw'⟩:=r.get h2;have hl:=r.length;have hn:=kj;have fin:EP X pins σ Q w s:=⟨z,H,I,rw',q⟩
 by_cases h0:0<=i
 ·have hj:i.toNat=j:=by
   rw [Gh h0 h5] at h1
   exact uB h1
  exact item_listR pl.isList h0 (by lia) (by rw [hj];simpa using ew) fin hs
 ·have hj:(i+(its.toArray.size:Int)).toNat=j:=by
   rw [Gb (by lia) h4] at h1
   rw [uh,← hl]
   exact uB h1
  exact gY (x:=w) pl.isList.typeIs slot_list_getitem.lookup
   (wpAny_getItem_list_neg (Q:=λr s'=>r=w/\EP X pins σ Q r s') pl.isList (by lia) (by rw [uh]<;>lia) (by lia) (by rw [hj];simpa using ew) ⟨rfl,fin⟩) hs
theorem zg8:IxR X (rIxT X.K):=by
 intro value slice pins s σ H x y v u Q I rx ry h hs;obtain⟨p,xs,i,z,rfl,rfl,hq,he,q⟩:=h;cases rx;obtain⟨t,rfl⟩:=ry;obtain⟨its,r,pl,hz⟩:=I.tuple hq;obtain⟨j,h1,h2,h3,h4,h5⟩:=WR he;obtain⟨w,ew,rw'⟩:=r.get h2;have hl:=r.length;have hn:=kj;have fin:EP X pins σ Q w s:=⟨z,H,I,rw',q⟩
 exact gY (x:=w) pl.typeIs slot_tuple_getitem.lookup
  (getItem_tuple (j:=j) (Q:=λr s'=>r=w/\EP X pins σ Q r s') pl (by lia) (by lia) (by rw [uh,← hl];exact h1) (by simpa using ew) ⟨rfl,fin⟩) hs
theorem zg9:IxR X rIxS:=by
 intro value slice pins s σ H x y v u Q I rx ry h hs;obtain⟨z,i,c,rfl,rfl,hz,he,q⟩:=h;obtain⟨t,rfl⟩:=rx;obtain⟨t',rfl⟩:=ry;obtain⟨j,h1,h2,h3,h4,h5⟩:=WR he;have hl:z.cps.toList.length=z.length:=by simp [Str.length]
 rw [hl] at h1 h4 h5;have hn:=kj
 exact tail_any (typeIs_str s z t) slot_str_getitem.lookup (getItem_str (c:=c) (by
  have e1:decide (i < -(2 ^ 63:Int))=false:=uK (by lia)
  have e2:decide (i ≥ 2 ^ 63)=false:=uK (by lia)
  rw [e1,e2,gu]) (by rw [h1];simpa using h2) ⟨.str ⟨#[c]⟩,H,I.tok _,⟨_,rfl⟩,q⟩) hs
theorem Ym (its:Lf)(n j:Nat)(u:Value):Obj.mapSeq (·.setIfInBounds j u) { cls:=.type "list",data:=.seq its.toArray n }={ cls:=.type "list",data:=.seq (its.set j u).toArray n }:=by simp [Obj.mapSeq]
theorem Inv.lst {pins:List (Addr×Obj)}{σ:St}{H:Hp}{s:Shared}{p:Addr}{xs:List V}(I:Inv X pins σ H s)(h:H p=some (.lst xs)) : ∃ (its:Lf) (n:Nat),Vals xs its/\s.heap.get? p=some { cls:=.type "list",data:=.seq its.toArray n }/\xs.length<=sizeLine:=by obtain⟨z,its,n,r,e⟩:=I.hok p _ h;exact⟨its,n,r,e,z⟩
theorem Inv.lstUpd {pins:List (Addr×Obj)}{σ:St}{H:Hp}{s:Shared}{p:Addr}{xs ys:List V}{its its':Lf}{n n':Nat}{f:Obj->Obj}(I:Inv X pins σ H s)(h:H p=some (.lst xs)) (ho:s.heap.get? p=some { cls:=.type "list",data:=.seq its.toArray n }) (hf:f { cls:=.type "list",data:=.seq its.toArray n }={ cls:=.type "list",data:=.seq its'.toArray n' }) (r:Vals ys its') (hz:ys.length<=sizeLine) (t:Nat) : Inv X pins σ (upd H p (.lst ys)) { s with heap:=s.heap.update p f,toks:=t }:=by
 have e:(s.heap.update p f).get? p=some { cls:=.type "list",data:=.seq its'.toArray n' }:=by rw [uU f ho (by rw [hf]<;>rfl),hf]
 refine I.write (x:=p) (e:=p) (by rw [h];trivial) (.inl rfl) (λb u hb q=>(uo _ _ (Ne.symm hb)).trans q) ⟨_,e⟩ ?_;exact⟨hz,its',n',r,e⟩
noncomputable def zeK:V->V->V->Hp->(Hp->Prop)->Prop:=λo i v H Q=>∃ p xs k j,o=.ref p/\i=.int k/\H p=some (.lst xs)/\ixN xs.length k=some j/\Q (upd H p (.lst (xs.set j v)))
theorem set_list:PSet X zeK:=by
 intro pins s σ H o i v ov iv u Q I ro ri rv h;obtain⟨p,xs,k,j,rfl,rfl,hp,hj,q⟩:=h;cases ro;obtain⟨t,rfl⟩:=ri;obtain⟨its,n,r,ho,hz⟩:=I.lst hp;obtain⟨h1,h2,h3,h4⟩:=KW hj;have hl:=r.length;have hn:=kj
 have I':Inv X pins σ (upd H p (.lst (xs.set j v))) { s with heap:=s.heap.update p (Obj.mapSeq (·.setIfInBounds j u)) }:=
  I.lstUpd hp ho (Ym its n j u) (r.set rv j) (by rw [List.length_set];exact hz) s.toks
 by_cases h0:0<=k
 ·have hk:k.toNat=j:=by
   rw [Gh h0 h4] at h1
   exact uB h1
  exact PySem.W.ki_setAt ho h0 (by lia) (by rw [uh,← hl];exact h4) (by rw [hk];exact⟨_,I',q⟩)
 ·have hk:(k+(its.toArray.size:Int)).toNat=j:=by
   rw [Gb (by lia) h3] at h1
   rw [uh,← hl]
   exact uB h1
  exact PySem.W.ki_setBack ho (by lia) (by rw [uh,← hl];exact h3) (by lia) (by rw [hk];exact⟨_,I',q⟩)
noncomputable def rSlL (K:Le):V->Option Int->Option Int->Hp->VK->Prop:=λx lo hi H Q=>∃ a xs,x=.ref a/\SqL K H a xs/\∀ p,H p=none->Q (.ref p) (upd H p (.lst (cutV xs lo hi)))
noncomputable def zH:V->Bool
 | .non=>true
 | .bl _=>true
 | .int _=>true
 | .str _=>true
 | _=>false
noncomputable def eqV:V->V->Bool
 | .non,.non=>true
 | .bl a,.bl b=>a == b
 | .bl a,.int b=>(if a then 1 else 0) == b
 | .int a,.bl b=>a == (if b then 1 else 0)
 | .int a,.int b=>a == b
 | .str a,.str b=>a == b
 | _,_=>false
theorem Yn {A:Around}{s:Shared}{y x:V}{u v:Value}(ry:RelV y u)(rx:RelV x v)(fy:zH y=true)(fx:zH x=true):SeqAt.EqAt A s u v (eqV y x):=by
 cases y with
 | non=>
  cases ry;cases x with
  | non=>cases rx;exact SeqAt.EqAt.same _
  | bl b=>cases rx;exact SeqAt.EqAt.none_bool b
  | int b=>obtain⟨t,rfl⟩:=rx;exact SeqAt.EqAt.none_int b t
  | str b=>obtain⟨t,rfl⟩:=rx;exact SeqAt.EqAt.none_str b t
  | _=>exact absurd (show false=true from fx) uA
 | bl a=>
  cases ry;cases x with
  | non=>cases rx;exact SeqAt.EqAt.bool_none a
  | bl b=>cases rx;exact SeqAt.EqAt.bool_bool a b
  | int b=>obtain⟨t,rfl⟩:=rx;exact SeqAt.EqAt.bool_int a b t
  | str b=>obtain⟨t,rfl⟩:=rx;exact SeqAt.EqAt.bool_str a b t
  | _=>exact absurd (show false=true from fx) uA
 | int a=>
  obtain⟨t',rfl⟩:=ry;cases x with
  | non=>cases rx;exact SeqAt.EqAt.int_none a t'
  | bl b=>cases rx;exact SeqAt.EqAt.int_bool a t' b
  | int b=>obtain⟨t,rfl⟩:=rx;exact SeqAt.EqAt.int_int a t' b t
  | str b=>obtain⟨t,rfl⟩:=rx;exact SeqAt.EqAt.int_str a t' b t
  | _=>exact absurd (show false=true from fx) uA
 | str a=>
  obtain⟨t',rfl⟩:=ry;cases x with
  | non=>cases rx;exact SeqAt.EqAt.str_none a t'
  | bl b=>cases rx;exact SeqAt.EqAt.str_bool a t' b
  | int b=>obtain⟨t,rfl⟩:=rx;exact SeqAt.EqAt.str_int a t' b t
  | str b=>obtain⟨t,rfl⟩:=rx;exact SeqAt.EqAt.str_str a t' b t
  | _=>exact absurd (show false=true from fx) uA
 | _=>exact absurd (show false=true from fy) uA
noncomputable def eqU (x:V)(u:Value):Bool:=match u with
 | .none=>eqV .non x
 | .bool b=>eqV (.bl b) x
 | .int i _=>eqV (.int i) x
 | .str z _=>eqV (.str z) x
 | _=>false
theorem zbQ {x y:V}{u:Value}(r:RelV y u)(f:zH y=true):eqU x u=eqV y x:=by
 cases y with
 | non=>cases r;rfl
 | bl b=>cases r;rfl
 | int i=>obtain⟨t,rfl⟩:=r;rfl
 | str z=>obtain⟨t,rfl⟩:=r;rfl
 | _=>exact absurd (show false=true from f) uA
theorem Zf {x:V}:∀ {xs:List V} {us:Lf},Vals xs us->xs.all zH=true->us.any (eqU x)=xs.any λy=>eqV y x
 | _,_,.nil,_=>rfl
 | y::xs,u::us,.cons r t,f=>by rw [gZ,uI] at f;rw [Ui,Ui,zbQ r f.1,Zf t f.2]
theorem yj {A:Around}{s:Shared}{x:V}{v:Value}(rx:RelV x v)(fx:zH x=true):∀ {xs:List V} {us:Lf},Vals xs us->xs.all zH=true->∀ u∈us,SeqAt.EqAt A s u v (eqU x u)
 | _,_,.nil,_=>λu hu=>by cases hu
 | y::xs,u::us,.cons r t,f=>λu' hu=>by
  rw [gZ,uI] at f;rcases uy.mp hu with rfl | hu
  ·rw [zbQ r f.1];exact Yn r rx f.1 fx
  ·exact yj rx fx t f.2 u' hu
noncomputable def inV (x:V)(xs:List V):Bool:=xs.any λy=>eqV y x
noncomputable def rIn (K:Le)(neg:Bool):R2:=λx y H Q=>∃ p xs,y=.ref p/\(SqL K H p xs\/SqT K H p xs)/\zH x=true/\xs.all zH=true/\Q (.bl (if neg then !inV x xs else inV x xs)) H
theorem zaW:OpR X (compareOp .In) (rIn X.K false):=by
 intro pins s σ H x y v u Q I rx ry h;obtain⟨p,xs,rfl,hq,fx,fs,q⟩:=h;cases ry;rcases hq with hq | hq
 ·obtain⟨its,r,pl,hz⟩:=I.list hq;refine SeqAt.in_listAt (eqU x) pl.isList (λw hw=>yj rx fx r fs w (by simpa using hw)) ⟨.bl _,H,I,rfl,?_⟩;rw [show its.toArray.any (eqU x)=its.any (eqU x) by simp,Zf r fs];exact q
 ·obtain⟨its,r,pl,hz⟩:=I.tuple hq;refine SeqAt.in_tupleAt (eqU x) pl (λw hw=>yj rx fx r fs w (by simpa using hw)) ⟨.bl _,H,I,rfl,?_⟩;rw [show its.toArray.any (eqU x)=its.any (eqU x) by simp,Zf r fs];exact q
theorem WS:OpR X (compareOp .NotIn) (rIn X.K true):=by
 intro pins s σ H x y v u Q I rx ry h;obtain⟨p,xs,rfl,hq,fx,fs,q⟩:=h;cases ry;rcases hq with hq | hq
 ·obtain⟨its,r,pl,hz⟩:=I.list hq;refine SeqAt.notIn_listAt (eqU x) pl.isList (λw hw=>yj rx fx r fs w (by simpa using hw)) ⟨.bl _,H,I,rfl,?_⟩;rw [show its.toArray.any (eqU x)=its.any (eqU x) by simp,Zf r fs];exact q
 ·obtain⟨its,r,pl,hz⟩:=I.tuple hq;refine SeqAt.notIn_tupleAt (eqU x) pl (λw hw=>yj rx fx r fs w (by simpa using hw)) ⟨.bl _,H,I,rfl,?_⟩;rw [show its.toArray.any (eqU x)=its.any (eqU x) by simp,Zf r fs];exact q
theorem WT:qV X (.builtin "len") (λxs H Q=>∃ p ys,xs=[.ref p]/\(SqL X.K H p ys\/SqT X.K H p ys)/\Q (.int ys.length) H):=by
 intro pins s σ H xs us Q I r h;obtain⟨p,ys,rfl,hq,q⟩:=h;obtain⟨u,rfl,rx⟩:=vals1 r;cases rx;have hn:=kj;rcases hq with hq | hq
 ·obtain⟨its,r',pl,hz⟩:=I.list hq;have hlen:=r'.length;exact Calls.call_len_list pl.isList (by simp only [uh]<;>lia) ⟨.int ys.length,H,I.tok _,⟨s.toks+1,by rw [uh,hlen]⟩,q⟩
 ·obtain⟨its,r',pl,hz⟩:=I.tuple hq;have hlen:=r'.length;exact len_tuple pl (by simp only [uh]<;>lia) ⟨.int ys.length,H,I.tok _,⟨s.toks+1,by rw [uh,hlen]⟩,q⟩
theorem WU:qV X (.builtin "len") (λxs H Q=>∃ z,xs=[.str z]/\z.length<=sizeLine/\Q (.int z.length) H):=by intro pins s σ H xs us Q I r h;obtain⟨z,rfl,hz,q⟩:=h;obtain⟨u,rfl,t,rfl⟩:=vals1 r;have hn:=kj;exact len_str (by lia) ⟨.int z.length,H,I.tok _,⟨_,rfl⟩,q⟩
theorem qV.or {f:Value}{r r':List V->Hp->VK->Prop}(h:qV X f r)(h':qV X f r'):qV X f (λxs H Q=>r xs H Q\/r' xs H Q):=by
 intro pins s σ H xs us Q I rs q;rcases q with q | q
 ·exact h pins s σ H xs us Q I rs q
 ·exact h' pins s σ H xs us Q I rs q
theorem WV:qV X (.type "list") (λxs H Q=>∃ p ys,xs=[.ref p]/\(SqL X.K H p ys\/SqT X.K H p ys)/\∀ l,H l=none->Q (.ref l) (upd H l (.lst ys))):=by
 intro pins s σ H xs us Q I r h;obtain⟨p,ys,rfl,hq,q⟩:=h;obtain⟨u,rfl,rx⟩:=vals1 r;cases rx
 have fin:∀ (its:Lf),Vals ys its->ys.length<=sizeLine->∀ (h':Heap) (c':Nat),(∀ b o',s.heap.get? b=some o'->h'.get? b=some o') ->
   h'.get? s.heap.objs.size=some { cls:=.type "list",dict:=none,data:=.seq its.toArray c',slots:=#[] }->EP X pins σ Q (.ref s.heap.objs.size) { s with heap:=h' }:=λits r' hz h' c' kp e=>
  ⟨.ref s.heap.objs.size,_,I.laid (t':=s.toks) kp (uk _) (show jr X.prog X.w _ h' _ (.lst ys) from⟨hz,its,c',r',e⟩),rfl,q _ (I.hok.fresh (uk _))⟩
 rcases hq with hq | hq
 ·obtain⟨its,r',pl,hz⟩:=I.list hq;have hlen:=r'.length;obtain⟨o,ho,hc,n,hd⟩:=pl.isList;exact call_list_seq p (.inl rfl) ho hc hd (λh' c' kp e=>fin its r' hz h' c' kp e) (by simp only [uh]<;>lia)
 ·obtain⟨its,r',pl,hz⟩:=I.tuple hq;have hlen:=r'.length;obtain⟨o,ho,hc,n,hd⟩:=pl;exact call_list_seq p (.inr rfl) ho hc hd (λh' c' kp e=>fin its r' hz h' c' kp e) (by simp only [uh]<;>lia)
def tyV (K:Le)(T:String)(x:V)(H:Hp):Prop:=match x with
 | .str _=>T="str"
 | .int _=>T="int"
 | .ref p=>(T="list"/\∃ xs,SqL K H p xs)\/(T="tuple"/\∃ o,K.lookup p=some o/\o.cls=.type "tuple"/\o.dict=none) \/
   (T="dict"/\((∃ kvs,H p=some (.dK kvs))\/∃ kvs,H p=some (.dT kvs)))\/(T="set"/\∃ S n,H p=some (.set S n))
 | _=>False
theorem zha {pins:List (Addr×Obj)}{σ:St}{H:Hp}{s:Shared}{T:String}{x:V}{v:Value}(I:Inv X pins σ H s)(r:RelV x v)(ty:tyV X.K T x H) : s.TypeIs v T/\∀ a,v=.ref a->∃ ob,s.heap.get? a=some ob/\ob.dict=none:=by
 cases x with
 | str z=>obtain⟨t,rfl⟩:=r;cases (show T="str" from ty);exact⟨typeIs_str s z t,λ_ e=>nomatch e⟩
 | int i=>obtain⟨t,rfl⟩:=r;cases (show T="int" from ty);exact⟨Gn s i t,λ_ e=>nomatch e⟩
 | ref p=>
  cases r;rcases ty with⟨rfl,xs,hq⟩ | ⟨rfl,o,hk,hc,hd⟩ | ⟨rfl,hk⟩ | ⟨rfl,S,n,hk⟩
  ·obtain⟨its,_,pl,_⟩:=I.list hq;refine⟨pl.isList.typeIs,λa e=>?_⟩;cases e;obtain⟨o,n,e,c,hd,_⟩:=pl;exact⟨o,e,hd⟩
  ·refine⟨⟨o,I.kIn p o hk,hc⟩,λa e=>?_⟩;cases e;exact⟨o,I.kIn _ o hk,hd⟩
  ·have z:∃ o,s.heap.get? p=some o/\o.ExactDict:=by
    rcases hk with⟨kvs,hk⟩ | ⟨kvs,hk⟩
    ·obtain⟨_,_,_,_,o,_,_,e,ex,_⟩:=I.hok p _ hk
     exact⟨o,e,ex⟩
    ·obtain⟨_,_,_,_,o,_,_,e,ex,_⟩:=I.hok p _ hk
     exact⟨o,e,ex⟩
   obtain⟨o,e,ex⟩:=z
   refine⟨⟨o,e,ex.1⟩,λa e2=>?_⟩
   cases e2
   exact⟨o,e,ex.2.1⟩
  ·obtain⟨o,_,_,_,e,ex,_⟩:=I.hok p _ hk;refine⟨⟨o,e,ex.1⟩,λa e2=>?_⟩;cases e2;exact⟨o,e,ex.2.1⟩
 | _=>exact False.elim ty
noncomputable def tBM0 (K:Le)(T:String)(r:V->List V->Hp->VK->Prop)(to:TE):TE:=λσ H Q=>to σ H λx H1=>tyV K T x H1/\r x [] H1 Q
noncomputable def tBM (K:Le)(T:String)(r:V->List V->Hp->VK->Prop)(to:TE)(t:TA):TE:=λσ H Q=>to σ H λx H1=>tyV K T x H1/\t σ H1 λxs H2=>r x xs H2 Q
variable {o e:Expr} {es:Lg} {to:TE} {t:TA} {name:Str} {apos cpos:Pos} {T id:String} {r:V->List V->Hp->VK->Prop}
theorem zjY (pa:PlainAttrs T)(slot:Slot T name id)(hty:typeOf (.builtin id)=pure (.type "method_descriptor"))(hm:MtR X id r)(ho:PE X o to)(ha:PA X (e::es) t) (hbase:attributeBase o name X.env (eval o X.env)=eval o X.env:=by rfl) (hfew:((backTo cpos (starEach (e::es) X.env)).all (λx=>!x.1)&&(backToKw cpos (keywordEach [] X.env)).all (λx=>x.1.isSome) && decide ((e::es).length+([]:List Keyword).length+(if ([]:List Keyword).isEmpty then 0 else 1)<30))=true:=by rfl) (hline:(apos.endLine == cpos.line)=true:=by rfl) (hs:starEach (e::es) X.env=(false,eval e X.env)::starEach es X.env:=by rfl) (hplain:(backTo cpos (starEach es X.env)).any (·.1)=false:=by rfl) : PE X (.Call (.Attribute o name apos) (e::es) [] cpos) (tBM X.K T r to t):=by intro pins s σ H Q I h;refine wpAny_Call_method_late hbase hfew hline rfl (thn (ho pins s σ H _ I h) λv s1 ⟨x,H1,I1,r1,ty,q1⟩=>?_);obtain⟨h1,h2⟩:=zha I1 r1 ty;refine⟨T,id,pa,slot,hty,h1,h2,?_⟩;have hA:=ha cpos pins s1 σ H1 _ I1 q1;rw [hs] at hA ⊢;refine Calls.callWith_builtin (by show(false||(backTo cpos (starEach es X.env)).any (·.1))=false;rw [hplain]<;>rfl) (Calls.evalArgs_plain ?_);exact thn hA λus s2 ⟨vs,H2,I2,r2,q2⟩=>hm pins s2 σ H2 x vs v us Q I2 r1 r2 q2
end
def MtM (X:Cx)(id:String)(r:V->List V->Hp->VK->Prop):Prop:= ∀ (pins:List (Addr×Obj)) (s:Shared) (σ:St) (H:Hp) (x:V) (xs:List V) (v:Value) (us:Lf) (Q:VK),Inv X pins σ H s->RelV x v->Vals xs us->r x xs H Q -> wpAny (model X.prog X.w) X.A (call (.builtin id) (v::us)) (EP X pins σ Q) X.xe s
theorem Vals.one:∀ {x:V} {us:Lf},Vals [x] us->∃ u,us=[u]/\RelV x u
 | _,_,.cons r .nil=>⟨_,rfl,r⟩
theorem Vals.zero:∀ {us:Lf},Vals [] us->us=[]
 | _,.nil=>rfl
theorem Vals.dropLast {xs:List V}{us:Lf}(h:Vals xs us):Vals xs.dropLast us.dropLast:=by
 induction h with
 | nil=>exact .nil
 | cons r t ih=>
  cases t with
  | nil=>exact .nil
  | cons q t'=>exact .cons r ih
theorem Vals.reverse {xs:List V}{us:Lf}(h:Vals xs us):Vals xs.reverse us.reverse:=by
 induction h with
 | nil=>exact .nil
 | cons r t ih=>rw [List.reverse_cons,List.reverse_cons];exact Vals.append ih (.cons r .nil)
section
variable {X:Cx} {pins:List (Addr×Obj)} {σ:St} {H:Hp} {s:Shared} {l b:Addr} {xs ys zs:List V}
theorem Inv.lset {its its':Lf}{n:Nat}{f:Array Value->Array Value}{t':Nat}(I:Inv X pins σ H s)(hH:H l=some (.lst xs)) (e:s.heap.get? l=some { cls:=.type "list",data:=.seq its.toArray n }) (hf:f its.toArray=its'.toArray) (hv:Vals ys its') (hz:ys.length<=sizeLine) : Inv X pins σ (upd H l (.lst ys)) { s with heap:=s.heap.update l (Obj.mapSeq f),toks:=t' }:=by have q:=PySem.IsL.update e f;rw [hf] at q;refine I.write (x:=l) (e:=l) (by rw [hH];exact trivial) (.inl rfl) (λb' u hb hu=>(uo s.heap (Obj.mapSeq f) (Ne.symm hb)).trans hu) ⟨_,q⟩ ?_;exact⟨hz,its',_,hv,q⟩
theorem Inv.lnew {its:Lf}{t':Nat}(I:Inv X pins σ H s)(hv:Vals ys its)(hz:ys.length<=sizeLine) :
  Inv X pins σ (upd H s.heap.objs.size (.lst ys)) { s with heap:=s.heap.push { cls:=.type "list",data:=.seq its.toArray },toks:=t' }:=
 I.laid (λ_ _ q=>uc _ q) (uk _) ⟨hz,its,0,hv,um _ rfl⟩
theorem Inv.fresh (I:Inv X pins σ H s):H s.heap.objs.size=none:=I.hok.fresh (uk _)
theorem Inv.lstM (I:Inv X pins σ H s)(hH:H l=some (.lst xs)):xs.length<=sizeLine/\∃ (its:Lf) (n:Nat),Vals xs its/\xs.length=its.length/\s.heap.get? l=some { cls:=.type "list",data:=.seq its.toArray n }:=by obtain⟨z,its,n,r,e⟩:=I.hok l _ hH;exact⟨z,its,n,r,r.length,e⟩
theorem zbR {n:Nat}(h:n<=sizeLine):Builtin.List.listTooLong n=false:=by unfold Builtin.List.listTooLong;exact uK (by lia)
end
section
variable {X:Cx}
noncomputable def KZ:V->List V->Hp->VK->Prop:=λx vs H Q=>∃ l xs y,x=.ref l/\vs=[y]/\H l=some (.lst xs)/\xs.length<sizeLine/\Q .non (upd H l (.lst (xs++[y])))
theorem qj:MtM X "list.append" KZ:=by intro pins s σ H x vs v us Q I rx rv h;obtain⟨l,xs,y,rfl,rfl,hH,hz,q⟩:=h;cases rx;obtain⟨u,rfl,ru⟩:=rv.one;obtain⟨z,its,n,r,hl,e⟩:=I.lstM hH;refine gA F.slot_list_append ⟨_,e,rfl⟩ F.entry_list_append (F.args_list_append_2 _ _) (PySem.list_append l its.toArray n u (by rw [uh];lia)) ⟨e,?_⟩;refine⟨.non,_,I.lset (its':=its++[u]) hH e (by simp) (r.append (.cons ru .nil)) ?_,rfl,q⟩;rw [ug,ur];lia
noncomputable def K0:V->List V->Hp->VK->Prop:=λx vs H Q=>∃ l b xs zs,x=.ref l/\vs=[.ref b]/\H l=some (.lst xs)/\H b=some (.lst zs)/\xs.length+zs.length<=sizeLine/\Q .non (upd H l (.lst (xs++zs)))
theorem zaX:MtM X "list.extend" K0:=by
 intro pins s σ H x vs v us Q I rx rv h;obtain⟨l,b,xs,zs,rfl,rfl,hH,hB,hz,q⟩:=h;cases rx;obtain⟨u,rfl,ru⟩:=rv.one;cases ru;obtain⟨z,its,n,r,hl,e⟩:=I.lstM hH;obtain⟨z2,its2,n2,r2,hl2,e2⟩:=I.lstM hB;have hsz:its.toArray.size+its2.toArray.size<=sizeLine:=by rw [uh,uh];lia
 have hlong:¬ (!its.toArray.isEmpty&&Builtin.List.listTooLong (its.toArray.size+its2.toArray.size))=true:=by rw [zbR hsz,U1];exact uA
 refine gA F.slot_list_extend ⟨_,e,rfl⟩ F.entry_list_extend (F.args_list_extend_2 _ _)
  (AutoSeq1.list_extend_list_list_0 l its.toArray n b its2.toArray n2 hlong (by rw [uh];lia) (by lia)) ⟨e,e2,?_⟩
 refine⟨.non,_,I.lset (its':=its++its2) hH e (by simp) (r.append r2) ?_,rfl,q⟩;rw [ug];lia
noncomputable def rPop:V->List V->Hp->VK->Prop:=λx vs H Q=>∃ l xs y,x=.ref l/\vs=[]/\H l=some (.lst xs)/\xs[xs.length - 1]? = some y/\Q y (upd H l (.lst xs.dropLast))
noncomputable def zhb:V->List V->Hp->VK->Prop:=λx vs H Q=>∃ l xs,x=.ref l/\vs=[]/\H l=some (.lst xs)/\Q .non (upd H l (.lst []))
noncomputable def rCat:R2:=λx y H Q=>∃ l b xs zs,x=.ref l/\y=.ref b/\H l=some (.lst xs)/\H b=some (.lst zs)/\xs.length+zs.length<=sizeLine/\∀ p,H p=none->Q (.ref p) (upd H p (.lst (xs++zs)))
theorem xo:OpR X (binaryOp .Add) rCat:=by
 intro pins s σ H x y v u Q I rx ry h;obtain⟨l,b,xs,zs,rfl,rfl,hH,hB,hz,q⟩:=h;cases rx;cases ry;obtain⟨z,its,n,r,hl,e⟩:=I.lstM hH;obtain⟨z2,its2,n2,r2,hl2,e2⟩:=I.lstM hB;refine PySem.P.add_list e e2 ?_ (by rw [uh,uh];lia);have ea:its.toArray++its2.toArray=(its++its2).toArray:=by simp
 rw [ea];exact⟨.ref _,_,I.lnew (t':=s.toks) (r.append r2) (by rw [ug];lia),rfl,q _ I.fresh⟩
end
section
variable {prog:Program} {w:World} {A:Around} {E:Value->Shared->Prop} {s:Shared}
set_option maxRecDepth 100000 in
end
section
variable {X:Cx}
end
end L2
namespace Att
open PySem PySem.W PySem.Calls PyProof.Rows
theorem QB {P:Params}{h:Heap}:∀ (ns:List Int) (vs:Lf),WellAll P h vs (ns.map WData.int)->IntsAre vs ns:=by
 intro ns
 induction ns with
 | nil=>intro vs w;rw [gF] at w;cases w;exact .nil
 | cons n ns ih=>
  intro vs w;rw [uD] at w;cases w with
  | cons a b=>cases a;exact .cons _ _ (ih _ b)
theorem zaY {l:OpenLaw}{n:Nat}(hn:l.most=some n){P:Params}{h:Heap}{args:List WData}{vals:Lf} (hpre:l.row.toRowW.claim.pre args=true) (hwl:WellAll P h vals args) : ∃ a vs ns,vals=[Value.ref a]/\args=[WData.list (ns.map WData.int)]/\h.get? a=some { cls:=.type "list",data:=.seq vs.toArray }/\IntsAre vs ns/\ns.length<=n:=by
 have hsh:WShape.hasAll [] args [.list .int]=true:=(pre_splitW hpre).1;have hc:l.pre.holds [] { args:=args }=true:=(pre_splitW hpre).2;obtain⟨d,r,rfl,h1,h2⟩:=hasAllW_cons hsh;obtain rfl:=hasAllW_nil h2;obtain⟨xs,rfl,h3⟩:=hasW_list h1;obtain⟨ns,rfl⟩:=items_int h3
 have hlen:ns.length<=n:=by
  unfold OpenLaw.pre at hc;have h4:(WTm.not (.lt (.lit (.int (n:Int))) (.len (.arg 0)))).holds [] { args:=[.list (ns.map .int)] }=true:=by have h4:=(holds_andW hc).1;rw [hn] at h4;exact h4
  have h5:=condW_of h4 (w_not (w_lt w_lit (w_len_list (w_arg rfl))));rw [uS] at h5;refine Nat.le_of_not_lt λq=>?_;have q':(n:Int)<((ns.length:Nat):Int):=by lia
  first
   | (rw [uQ q'] at h5;exact absurd h5 (by decide))
   | (simp at h5;omega)
 cases hwl with
 | cons w1 w2=>
  cases w2;cases w1 with
  | list ho hall=>exact⟨_,_,ns,rfl,rfl,ho,QB ns _ hall,hlen⟩
theorem zaZ (l:OpenLaw)(args:List WData):l.row.toRowW.claim.post args (.bool true) args=true:=
 postW_of (r:=l.row.toRowW) (X:=(true == true))
  (show WShape.has [] (.bool true) .bool=true by first | rfl | decide | simp [WShape.has,WShape.arms,WShape.armsAll])
  (show(WTm.eq .res (.lit (.bool true))).value [] { args:=args,res:=some (.bool true),after:=args }=some (.bool (true == true)) from w_eq_bool (w_res rfl) w_lit) rfl
theorem attach_call {l:OpenLaw}{n:Nat}{q:Program}{loose:Lh}{XP:(La)->Heap->Prop}{YP:World->Heap->Prop}{d:DefRec} (hn:l.most=some n) (hdf:d.params.defaults=[]) (call:∀ (w:World) (s₀ s₁:Shared) (mg mb:La) (fa:Addr) (o:Obj) (pm cd doc:Value) (a:Addr) (vs:Lf) (ns:List Int), Ground q loose [] XP w s₀ mg mb s₁.heap->YP w s₁.heap -> s₁.heap.get? fa=some o->o.data=.func (docDef d.name d.params d.body d.scope pm cd doc)->s₁.heap.CodeRec cd d.name->mg d.name=some (.ref fa) -> s₁.heap.get? a=some { cls:=.type "list",data:=.seq vs.toArray }->IntsAre vs ns->ns.length<=n->s₁.gens = #[] -> codeAny (model l.prog w) callerA (.call (.ref fa) ⟨[.ref a],[]⟩) (λr s'=>r=.ok (.ret (.bool true))/\OldK s₁.heap s'.heap/\s'.os=s₁.os/\AllBare s'.gens) s₁) : WalkO q loose XP YP l.row.toRowW d [] (λf vs=>PySem.call f vs):=by intro w s₀ s₁ mg mb G Y fa o pm cd doc dV kV ho hd hcd hD hmg hg args vals as hpre hlay hrd hwl hlo;obtain rfl:dV=.none:=Dflts.none hD hdf;obtain rfl:kV=.none:=Dflts.noKw hD;obtain⟨a,vs,ns,rfl,rfl,hobj,hints,hlen⟩:=zaY hn hpre hwl;refine enter_call (Ue (call w s₀ s₁ mg mb fa o pm cd doc a vs ns G Y ho (fd_plain hd) hcd hmg hobj hints hlen hg) λr s' hq=>?_);obtain⟨rfl,h2,h3,h4⟩:=hq;exact⟨.inl ⟨.bool true,.bool true,[],rfl,λ_=>rfl,.bool true,zaZ l _,λ_=>⟨List.Pairwise.nil,λ_ hm=>(nomatch hm)⟩⟩,h2,h3,h4⟩
section
variable {prog:Program} {w:World} {A:Around} {E:Value->Shared->Prop} {s:Shared} {K:Frag}
end
end Att
namespace L2
open PySem PySem.Spec PyProof.Rows
theorem Wl:∀ {vs:Lf} {ns:List Int},IntsAre vs ns->Vals (ns.map V.int) vs
 | _,_,.nil=>.nil
 | _,_,.cons n t h=>.cons ⟨t,rfl⟩ (Wl h)
def Only (H:Hp):Prop:=∀ b,H b=none\/∃ o xs,H b=some (.frz o (.lst xs))
theorem zbS {P:Program}{w:World}{K:Le}{mg mb:La}{CX:CXT}{k:Nat}{fa a:Addr}{fd:FuncData}{x:Str}{sp:Sp}{s₁:Shared}{vs:Lf}{ns:List Int} (KX:K.In s₁.heap) (hns:s₁.heap.Ns mainGlobals mg) (hb:s₁.heap.Ns builtinsNs mb) (hbb:∀ x:Str,x≠"__name__"->mb x=bootBuiltins x) (hlim:s₁.heap.NoLimit) (hg:s₁.gens = #[]) (ha:s₁.heap.get? a=some { cls:=.type "list",data:=.seq vs.toArray }) (hi:IntsAre vs ns) (hl:ns.length<=sizeLine) (hr:Room k callerA) (F:∀ base:Heap,K.In base->base.Ns mainGlobals mg->FnOk P w K mg base CX k fa fd [x] sp) (hbind:∀ (s:Shared) (u:Value),BindsTo s fd ⟨[u],[]⟩ [(x,u)]) (hsp:∀ H:Hp,Only H->SqL K H a (ns.map V.int)->sp [.ref a] H (λv _=>v=.bl true) λ_ _ _=>False) (hCX:∀ H e s',CX [] H s₁ (λ_ _ _=>False) e s'->False) : codeAny (model P w) callerA (.call (.ref fa) ⟨[.ref a],[]⟩) (λr s'=>r=.ok (.ret (.bool true))/\OldK s₁.heap s'.heap/\s'.os=s₁.os/\AllBare s'.gens) s₁:=by
 have rv:=Wl hi;have lenV:=hi.length
 have core:∀ H:Hp,Only H->SqL K H a (ns.map V.int)->HOk P w H s₁.heap->(∀ b,H b≠none->b=a)->(H a≠none->K.lookup a=none) ->
   codeAny (model P w) callerA (.call (.ref fa) ⟨[.ref a],[]⟩) (λr s'=>r=.ok (.ret (.bool true))/\OldK s₁.heap s'.heap/\s'.os=s₁.os/\AllBare s'.gens) s₁:=by
  intro H hO hS hok hA hK
  have base_of:∀ {b:Addr} {o:Obj},s₁.heap.get? b=some o->H b=none->(hidT s₁.heap H).get? b=some o:=λe n=>zbt e n
  have noA:∀ {b:Addr} {o:Obj} {es:Array DictEntry} {ep:Nat},s₁.heap.get? b=some o->o.data=.dict es ep->H b=none:=λ{b o es ep} e d=>by
   cases q:H b with
   | none=>rfl
   | some u=>
    have e':b=a:=hA b (by rw [q];simp)
    subst e'
    rw [ha] at e;cases e
    have d':Data.seq vs.toArray _=Data.dict es ep:=d
    cases d'
  have nsK:∀ {b:Addr} {m:La},s₁.heap.Ns b m->(hidT s₁.heap H).Ns b m:=λ{b m} ⟨o,es,ep,e,d,r⟩=>⟨o,es,ep,base_of e (noA e d),d,r⟩
  have hKb:K.In (hidT s₁.heap H):=λb o e=>base_of (KX b o e) (by
   cases q:H b with
   | none=>rfl
   | some u=>
    have e':b=a:=hA b (by rw [q];simp)
    subst e'
    rw [hK (by rw [q];simp)] at e;cases e)
  have hM:Mod K mg (hidT s₁.heap H):=⟨hKb,nsK hns,⟨mb,nsK hb,hbb⟩,let ⟨mc,h1,h2⟩:=hlim;⟨mc,nsK h1,h2⟩⟩
  have e0:Env0 P w K mg (hidT s₁.heap H) callerA [] s₁ H:=⟨rfl,hM,λb o e=>zdz e,UK (zaN _ _),trivial,λb hb=>absurd (show b∈([]:Ld) from hb) (by simp),hok,.of_eq hg⟩
  refine Ue ((F _ hKb (nsK hns)).run callerA [] s₁ H ⟨[.ref a],[]⟩ [.ref a] [.ref a] _ _ hr e0 (hbind s₁ (.ref a)) (.cons rfl .nil) (hsp H hO hS)) λr s' h=>?_
  cases r with
  | error e=>exact(hCX H e s' h).elim
  | ok fl=>
   cases fl with
   | next=>exact False.elim h
   | brk=>exact False.elim h
   | cont=>exact False.elim h
   | ret u=>
    obtain⟨v,H',os,bare,un,hok',r',q⟩:=h
    have q':v=.bl true:=q
    subst q'
    obtain rfl:u=Value.bool true:=r'
    refine⟨rfl,OldK.of_keep λb o e=>?_,os,bare⟩
    cases q:H b with
    | none=>exact un.keep b o e q (by intro z;exact absurd (show b∈([]:Ld) from z) (by simp)) (by simp)
    | some u=>
     rcases hO b with z | ⟨ob,xs,z⟩
     ·rw [q] at z;cases z
     ·have z2:=un.frzs b ob _ z
      obtain⟨e1,_⟩:=hok b _ z
      obtain⟨e2,_⟩:=hok' b _ z2
      rw [e] at e1;cases e1
      exact e2
 cases hk:K.lookup a with
 | some o=>have e:=KX a o hk;rw [ha] at e;cases e;refine core (λ_=>none) (λ_=>.inl rfl) (.inr ⟨_,vs.toArray,_,hk,rfl,rfl,rfl,by rw [uh,lenV];exact hl,by simpa using rv⟩) (λb u z=>by have z':(none:Option HO)=some u:=z;cases z') (λb z=>absurd rfl z) λz=>absurd rfl z
 | none=>
  refine core (λb=>if b=a then some (.frz { cls:=.type "list",data:=.seq vs.toArray } (.lst (ns.map V.int))) else none) (λb=>?_) (.inl (.inr ⟨{ cls:=.type "list",data:=.seq vs.toArray },uf rfl⟩)) (λb u z=>?_) (λb z=>?_) λ_=>hk
  ·by_cases hb:b=a
   ·exact .inr ⟨_,_,uf hb⟩
   ·exact .inl (ub hb)
  ·by_cases hb:b=a
   ·have z':=(uf hb).symm.trans z;cases z';subst hb;exact⟨ha,by rw [uS];exact hl,vs,_,rv,ha⟩
   ·have z':=(ub hb).symm.trans z;cases z'
  ·by_cases hb:b=a
   ·exact hb
   ·exact absurd (ub hb) z
theorem zdV {l:PySem.W.OpenLaw}{n k:Nat}{q:Program}{loose:Lh}{XP:(La)->Heap->Prop}{YP:World->Heap->Prop}{d:DefRec}{K:Params->Le}{CX:World->CXT}{sp:World->Sp}{x:Str} (hn:l.most=some n) (hn2:n<=sizeLine) (hdf:d.params.defaults=[]) (hr:Room k callerA) (hY:∀ (w:World) (h:Heap),YP w h->(K w.params).In h) (F:∀ (w:World) (mg:La) (fa:Addr) (h:Heap),(K w.params).In h->h.Ns mainGlobals mg->mg d.name=some (.ref fa) -> ∃ fd:FuncData,(∀ (s:Shared) (u:Value),BindsTo s fd ⟨[u],[]⟩ [(x,u)]) /\ ∀ base:Heap,(K w.params).In base->base.Ns mainGlobals mg->FnOk l.prog w (K w.params) mg base (CX w) k fa fd [x] (sp w)) (hsp:∀ (w:World) (H:Hp) (a:Addr) (ns:List Int),ns.length<=n->Only H->SqL (K w.params) H a (ns.map V.int)->sp w [.ref a] H (λv _=>v=.bl true) λ_ _ _=>False) (hCX:∀ (w:World) (H:Hp) (s:Shared) (e:Value) (s':Shared),CX w [] H s (λ_ _ _=>False) e s'->False) : PySem.W.WalkO q loose XP YP l.row.toRowW d [] (λf vs=>PySem.call f vs):=by refine Att.attach_call hn hdf λw s₀ s₁ mg mb fa o pm cd doc a vs ns G Y ho hd hcd hmg hobj hints hlen hg=>?_;have KX:=hY w _ Y;obtain⟨fd,hb,hF⟩:=F w mg fa _ KX G.T.g hmg;exact zbS KX G.T.g G.T.b G.T.builtins G.T.nolimit hg hobj hints (ux hlen hn2) hr hF hb (λH hO hS=>hsp w H a ns hlen hO hS) λH e s'=>hCX w H s₁ e s'
noncomputable def inClass (s:Stmt)(j:Nat):Stmt:=match s with
 | .ClassDef _ _ _ body _ _ _ _ _ _ _=>body.getD j (.Pass ⟨0,0,0,0⟩)
 | _=>.Pass ⟨0,0,0,0⟩
noncomputable def qx (s:Stmt):Arguments:=match s with
 | .FunctionDef _ a _ _ _ _ _ _ _ _=>a
 | _=>{ posonlyargs:=[],args:=[],vararg:=none,kwonlyargs:=[],kw_defaults:=[],kwarg:=none,defaults:=[] }
noncomputable def zQ (s:Stmt):List Stmt:=match s with
 | .FunctionDef _ _ b _ _ _ _ _ _ _=>b
 | _=>[]
noncomputable def zg (s:Stmt):Scope:=match s with
 | .FunctionDef _ _ _ _ _ _ sc _ _ _=>sc
 | _=>{ kind:=.function,names:=[],isGenerator:=false,isCoroutine:=false }
noncomputable abbrev CX0:CXT:=λ_ _ _ _ _ _=>False
noncomputable abbrev E0:XK:=λ_ _ _=>False
theorem zbT {X:Cx}:Passes CX0 X E0:=λ_ _ _ _ _ _ _ h=>h.elim
structure Fun (K:Le)(x qual:Str)(st:Stmt)(f:Addr)(fd:FuncData):Prop where
 ex:∃ (oc:Value) (od:Option Addr) (kV doc pm:Value) (an:Option Addr) (cdv ct:Value) (osl:Array (Option Value)),
  fd=PySem.W.fnOf x qual (qx st) (zQ st) (zg st) .none kV doc pm an cdv ct/\K.lookup f=some ⟨oc,od,.func fd,osl⟩/\PySem.W.codeIn K cdv qual=true
 kp:PySem.W.keepIn K (.ref f)=true
section
variable {P:Program} {w:World} {K:Le} {mg:La} {base:Heap}
theorem Fun.ok {x qual:Str}{st:Stmt}{f:Addr}{fd:FuncData}{N ps:Lh}{k:Nat}{sp:Sp}(F:Fun K x qual st f fd)(S:zo N ps (zg st))(len:∀ vs H Q E,sp vs H Q E->vs.length=ps.length) (hbody:∀ (cdv:Value) (A:Around) (outer:List Env) (s:Shared) (H:Hp) (vs:List V) (Q:VK) (E:XK),Room k (A.deeper (envOfC qual (zg st) s.heap.objs.size f cdv))->sp vs H Q E -> ∃ t,PSs (cxOf CX0 P w K mg base N qual (zg st) f cdv A outer s H E).nox (zQ st) t/\t { nx:=λ_ H'=>Q .non H',rt:=Q } (start N vs) H):FnOk P w K mg base CX0 (k+1) f fd ps sp:=by obtain⟨oc,od,kV,doc,pm,an,cdv,ct,osl,rfl,lk,hcd⟩:=F.ex;refine KS lk hcd S len λA outer s H vs Q E hr hsp=>?_;obtain⟨t,h,q⟩:=hbody cdv A outer s H vs Q E hr hsp;exact⟨t,h.nox,q⟩
theorem Fun.binds {x qual:Str}{st:Stmt}{f:Addr}{fd:FuncData}{ps:Lh}(F:Fun K x qual st f fd) (h:∀ (kV doc pm:Value) (an:Option Addr) (cdv ct:Value) (us:Lf),us.length=ps.length->bindArgs (PySem.W.fnOf x qual (qx st) (zQ st) (zg st) .none kV doc pm an cdv ct) ⟨us,[]⟩=pure (ps.zip us)):Binds K fd ps []:=by obtain⟨oc,od,kV,doc,pm,an,cdv,ct,osl,rfl,lk,hcd⟩:=F.ex;exact .all (h kV doc pm an cdv ct)
theorem yk {x qual:Str}{st:Stmt}{f:Addr}{oc:Value}{od an:Option Addr}{osl:Array (Option Value)}{kV doc pm cdv ct:Value}(l:K.lookup f=some ⟨oc,od,.func (PySem.W.fnOf x qual (qx st) (zQ st) (zg st) .none kV doc pm an cdv ct),osl⟩) (c:PySem.W.codeIn K cdv qual=true) (k:PySem.W.keepIn K (.ref f)=true):Fun K x qual st f (PySem.W.fnOf x qual (qx st) (zQ st) (zg st) .none kV doc pm an cdv ct):=⟨⟨oc,od,kV,doc,pm,an,cdv,ct,osl,rfl,l,c⟩,k⟩
end
theorem zjZ {A:Around}{k:Nat}(hr:Room k A):A.units+1<cLine:=Nat.lt_of_le_of_lt (Nat.add_le_add_left (by decide:1<=64) _) hr.units
section
variable {X:Cx}
theorem pv (i:Nat){x:Str}{pos:Pos}(hN:X.N[i]? = some x:=by rfl) (hv:Vis X.env.scope x:=by first | exact Or.inl rfl | exact Or.inr (Or.inl rfl) | exact Or.inr (Or.inr rfl)) (hd:(x == ("__debug__":Str))=false:=by decide)
  (hcd:(x == ("__classdict__":Str))=false:=by decide):PE X (.Name x pos) (tVar i):=zgI hN hv hd hcd
end
def Same (H H':Hp):Prop:=∀ b o,H b=some o->H' b=some o
theorem Same.refl (H:Hp):Same H H:=λ_ _ h=>h
theorem Same.trans {H H1 H2:Hp}(a:Same H H1)(b:Same H1 H2):Same H H2:=λc o h=>b c o (a c o h)
theorem Same.free {H H':Hp}(e:Same H H'){l:Addr}(h:H' l=Option.none):H l=Option.none:=by
 cases q:H l with
 | none=>rfl
 | some o=>rw [e l o q] at h;cases h
theorem Same.seq {K:Le}{H H':Hp}{a:Addr}{xs:List V}(e:Same H H')(h:SqL K H a xs):SqL K H' a xs:=by
 rcases h with(h | ⟨o,h⟩) | h
 ·exact .inl (.inl (e _ _ h))
 ·exact .inl (.inr ⟨o,e _ _ h⟩)
 ·exact .inr h
noncomputable def Its (x:Str):It:=⟨λi _=>i<x.cps.size,λi H v H'=>H' = H/\∃ c,x.cps[i]? = some c/\v=.str ⟨#[c]⟩,λi _=>x.cps.size<=i⟩
section
variable {X:Cx} {tg:Expr}
theorem Qh {P:Program}{w:World}{K:Le}{tg:Expr}{x:Str}{t:Tok}{ty:String}{it:Addr}
  (hty:["enumerate","zip","dict_itemiterator","dict_reverseitemiterator","odict_iterator","itertools.zip_longest","itertools.pairwise"].contains ty=false)
  (W:∀ A':Around,A'.handled=none->Walks P w A' it [it] [it] x.cps.size (SignAt x) (λi h=>h.IsStrIter it ty x t i))
  (hend:∀ (A':Around) (s:Shared) (i:Nat) (E:Value->Shared->Prop) (Q:Option Value->Shared->Prop),A'.handled=none->s.heap.IsStrIter it ty x t i->x.cps[i]? = none ->
   (∀ h',(∀ b o,b≠it->s.heap.get? b=some o->h'.get? b=some o)->Q none { s with heap:=h' })->wpAny (model P w) A' (pyNext (.ref it)) Q E s)
  (hself:∀ (A':Around) (s:Shared) (i:Nat) (E:Value->Shared->Prop) (Q:Value->Shared->Prop),s.heap.IsStrIter it ty x t i->Q (.ref it) s->wpAny (model P w) A' (pyIter (.ref it)) Q E s) :
  Turn P w K tg (Its x) [it] it (λi h=>h.IsStrIter it ty x t i) where
 mem:=by simp
 obj:=λi h st b hb=>by
  have e:b=it:=by simpa using hb
  subst e
  obtain⟨o,e,c,d⟩:=st
  exact⟨o,e,λv z=>by rw [d] at z;cases z⟩
 keep:=λi h h' st k=>let ⟨o,ho,r⟩:=st;⟨o,k it (by simp) o ho,r⟩
 item:=by
  intro X hP hw hK hc i pins s σ H E I hf st hg
  subst hP hw hK
  obtain⟨f0,f1,f2,f3,f4,f5⟩:=hf it (by simp)
  refine(W X.A (I.ok.hd hc)).item i s _ _ hg st λv h' tk hv st' kk=>?_
  obtain⟨c,u,hcu,rfl⟩:=hv
  have I1:Inv X pins σ H { s with heap:=h',toks:=tk }:=I.turned (λb o hb e=>kk b o (by simpa using hb) e) f0 f1 f3 f4 f5
  obtain⟨o,e,hcl,d⟩:=id st'
  exact⟨_,rfl,KL (s:={ s with heap:=h',toks:=tk }) e hcl d hty ⟨.str ⟨#[c]⟩,H,I1,⟨u,rfl⟩,⟨rfl,c,hcu,rfl⟩,st',λb hb=>(hf b hb).1⟩⟩
 done:=by
  intro X hP hw hK hc i pins s σ H E I hf st hg
  subst hP hw hK
  obtain⟨f0,f1,f2,f3,f4,f5⟩:=hf it (by simp)
  have hg':x.cps.size<=i:=hg
  exact hend X.A s i E _ (I.ok.hd hc) st (by simp [hg']) λh' eb=>⟨rfl,I.turned (t':=s.toks) (λb o hb e=>eb b o hb e) f0 f1 f3 f4 f5⟩
 self:=λA i s Q E st h=>hself A s i E Q st h
noncomputable def iStr (tl:TE):TI:=λσ H R=>tl σ H λx H1=>∃ z,x=.str z/\R (Its z) H1
theorem zhc {l:Expr}{tl:TE}(hl:PE X l tl):PI X tg l (iStr tl):=by
 intro pins s σ H R I h;refine thn (hl pins s σ H _ I h) λv s1 ⟨x,H1,I1,r1,q1⟩=>?_;obtain⟨z,rfl,q⟩:=q1;obtain⟨t,rfl⟩:=r1
 have fin:∀ (ty:String) (o:Obj),Turn X.prog X.w X.K tg (Its z) [s1.heap.objs.size] s1.heap.objs.size (λi h=>h.IsStrIter s1.heap.objs.size ty z t i)->(s1.heap.push o).IsStrIter s1.heap.objs.size ty z t 0 ->
   PIE X pins σ tg R (.ref s1.heap.objs.size) { s1 with heap:=s1.heap.push o }:=λty o T st=>by
  refine⟨s1.heap.objs.size,[s1.heap.objs.size],_,_,H1,rfl,I1.kept (t':=s1.toks) λb o e=>uc _ e,T,st,λb hb=>?_,q⟩
  have e:b=s1.heap.objs.size:=by simpa using hb
  subst e
  exact I1.fpOk (uk _) (I1.hok.fresh (uk _))
 cases ha:z.cps.all (· < 128)
 ·refine wpAny_pyIter_wide ha (fin "str_iterator" _ (Qh (by decide) (λA' hA=>Walks.strWide hA _ z t) ?_ ?_) ⟨_,um _ rfl,rfl,rfl⟩)
  ·intro A' s i E Q hA st hx hq;exact wpAny_pyNext_wide_end hA st hx hq
  ·intro A' s i E Q st h;exact wpAny_pyIter_striter_wide st h
 ·refine wpAny_pyIter_ascii ha (fin "str_ascii_iterator" _ (Qh (by decide) (λA' hA=>Walks.strAscii hA _ z t) ?_ ?_) ⟨_,um _ rfl,rfl,rfl⟩)
  ·intro A' s i E Q hA st hx hq;exact wpAny_pyNext_ascii_end hA st hx hq
  ·intro A' s i E Q st h;exact wpAny_pyIter_striter_ascii st h
theorem zdW {x:Str}{g:TG}{tb:TS}{D:Ends}{σ:St}{H:Hp}(Pv:Nat->St->Hp->Prop)(h0:Pv 0 σ H) (hs:∀ i c σ H,x.cps[i]? = some c->Pv i σ H->g (.str ⟨#[c]⟩) σ H λσ2 H2=>tb { D with nx:=Pv (i+1),ct:=Pv (i+1),bk:=D.nx } σ2 H2) (hd:∀ σ H,Pv x.cps.size σ H->D.nx σ H) : ∃ W:Nat->Nat->St->Hp->Prop,(∃ m,W 0 m σ H)/\∀ i m σ H,W i m σ H -> ((Its x).stop i H/\D.nx σ H)\/((Its x).go i H/\∃ N:St->Hp->Prop,(∀ σ' H',N σ' H'->∃ m',m' < m/\W (i+1) m' σ' H')/\∀ v H',(Its x).yld i H v H'->g v σ H' λσ2 H2=>tb { D with nx:=N,ct:=N,bk:=D.nx } σ2 H2):=by
 refine⟨λi m σ H=>m=x.cps.size - i/\i<=x.cps.size/\Pv i σ H,⟨x.cps.size,by simp,Uo _,h0⟩,?_⟩;rintro i m σ H ⟨rfl,hi,p⟩;by_cases hlt:i<x.cps.size
 ·refine .inr ⟨hlt,Pv (i+1),λσ' H' p'=>⟨x.cps.size - (i+1),by lia,rfl,hlt,p'⟩,λv H' y=>?_⟩;obtain⟨rfl,c,hc,rfl⟩:=y;exact hs i c σ _ hc p
 ·have e:i=x.cps.size:=by lia
  subst e;exact .inl ⟨uk _,hd σ H p⟩
end
theorem xp {env:Env}(y:Str):∀ (names:List (Str×NameKind)),
  (names.map λ(n,k)=>if (k == NameKind.free&&env.scope.kind == .function&&env.kindOf n == some .cell) then(n,NameKind.cell) else(n,k)).lookup y =
   (names.lookup y).map λk=>if (k == NameKind.free&&env.scope.kind == .function&&env.kindOf y == some .cell) then NameKind.cell else k
 | []=>rfl
 | (n,k)::r=>by
  have ih:=xp y r (env:=env);rw [uD];by_cases hy:y=n
  ·subst hy;show List.lookup y ((if (k == NameKind.free&&env.scope.kind == .function&&env.kindOf y == some .cell)=true then(y,NameKind.cell) else(y,k))::_)=_;by_cases hc:(k == NameKind.free&&env.scope.kind == .function&&env.kindOf y == some .cell)=true
   ·rw [uf hc];simp only [uY,Uq,uR,hc,if_true]
   ·rw [ub hc];simp only [uY,Uq,uR,hc,gk];rfl
  ·have hb:(y == n)=false:=by simpa using hy
   show List.lookup y ((if (k == NameKind.free&&env.scope.kind == .function&&env.kindOf n == some .cell)=true then(n,NameKind.cell) else(n,k))::_)=_;by_cases hc:(k == NameKind.free&&env.scope.kind == .function&&env.kindOf n == some .cell)=true
   ·rw [uf hc];simp only [uY,hb];exact ih
   ·rw [ub hc];simp only [uY,hb];exact ih
theorem kl {env:Env}:∀ (names:List (Str×NameKind)) (cs:List (Str×Addr)),(∀ y∈names,y.2=.free->∃ c,env.cells.lookup y.1=some c)->(∀ y c,cs.lookup y=some c->env.cells.lookup y=some c) ->
  ∃ cl,(forIn (m:=Sem) names cs λ(x:Str×NameKind) (r:List (Str×Addr))=>(if (x.2 == .free)=true then(do let c ← cellOf env x.1;pure (ForInStep.yield ((x.1,c)::r))) else pure (ForInStep.yield r)))=pure cl /\
   (∀ y c,cl.lookup y=some c->env.cells.lookup y=some c)/\(∀ y∈names,y.2=.free->∃ c,cl.lookup y.1=some c)/\∀ y,(∃ c,cs.lookup y=some c)->∃ c,cl.lookup y=some c
 | [],cs,_,hcs=>⟨cs,rfl,hcs,(λ_ h=>nomatch h),(λ_ h=>h)⟩
 | (n,k)::r,cs,h,hcs=>by
  by_cases hk:k=.free
  ·subst hk;obtain⟨c,hc⟩:=h (n,.free) Ux rfl;have hc:env.cells.lookup n=some c:=hc
   have hcs':∀ y c',((n,c)::cs).lookup y=some c'->env.cells.lookup y=some c':=λy c' e=>by
    by_cases hy:y=n
    ·subst hy;simp only [uY,Uq] at e;cases e;exact hc
    ·have hb:(y == n)=false:=by simpa using hy
     simp only [uY,hb] at e;exact hcs y c' e
   obtain⟨cl,e1,e2,e3,e4⟩:=kl r ((n,c)::cs) (λy hy=>h y (uP _ hy)) hcs';refine⟨cl,?_,e2,λy hy hf=>?_,λy hy=>e4 y ?_⟩
   ·rw [List.forIn_cons];simp only [Uq,if_true,cellOf,hc];exact e1
   ·rcases uy.mp hy with rfl | hy
    ·exact e4 n ⟨c,by simp only [uY,Uq]⟩
    ·exact e3 y hy hf
   ·obtain⟨c',hc'⟩:=hy;by_cases hy:y=n
    ·subst hy;exact⟨c,by simp only [uY,Uq]⟩
    ·have hb:(y == n)=false:=by simpa using hy
     exact⟨c',by simp only [uY,hb];exact hc'⟩
  ·obtain⟨cl,e1,e2,e3,e4⟩:=kl r cs (λy hy=>h y (uP _ hy)) hcs;refine⟨cl,?_,e2,λy hy hf=>?_,e4⟩
   ·have hb:(k == NameKind.free)=false:=by simpa using hk
    rw [List.forIn_cons];simp only [hb,Uy,gk];exact e1
   ·rcases uy.mp hy with rfl | hy
    ·exact absurd hf hk
    ·exact e3 y hy hf
theorem Q7 {env:Env}{scope:Scope}(h:∀ y∈scope.names,y.2=.free->∃ c,env.cells.lookup y.1=some c) : ∃ cl,closureFor scope env=pure cl/\(∀ y c,cl.lookup y=some c->env.cells.lookup y=some c)/\(∀ y∈scope.names,y.2=.free->∃ c,cl.lookup y.1=some c):=by obtain⟨cl,e1,e2,e3,_⟩:=kl scope.names [] h (λy c e=>by simp at e);refine⟨cl,?_,e2,e3⟩;have e:closureFor scope env=(forIn (m:=Sem) scope.names [] λ(x:Str×NameKind) (r:List (Str×Addr))=>(if (x.2 == .free)=true then(do let c ← cellOf env x.1;pure (ForInStep.yield ((x.1,c)::r))) else pure (ForInStep.yield r))) >>= λcs=>pure cs:=rfl;rw [e,e1];rfl
theorem Qi {prog:Program}{w:World}{A:Around}{R:Result->Shared->Prop}{s:Shared}{elt target iter:Expr}{ifs:Lg}{scope:Scope}{pos:Pos}{it acc:Value}{env:Env}(I:Nat->Shared->Prop)
  (turn:∀ n s,I n s->wpAny (model prog w) A (pyNext it) (λr s₁=>match r with
   | none=>R (.ok .next) s₁
   | some v=>wpAny (model prog w) A (letOwnedTupleGo target it v) (λ_ s₁=>wpAny (model prog w) A (assign target env v) (λ_ s₂=>
     wpAny (model prog w) A (forIn ifs true λc r=>if r=true then do let ok ← isTrue c env (eval c env);pure (ForInStep.yield ok) else pure (ForInStep.yield r)) (λok s₃=>
      if ok=true then wpAny (model prog w) A (eval elt env) (λx s₄=>
       wpAny (model prog w) A (call (.builtin "list.append") [acc,x]) (λ_ s₅=>∃ m,m<n/\I m s₅) (λ_ _=>False) s₄) (λ_ _=>False) s₃
      else ∃ m,m<n/\I m s₃) (λ_ _=>False) s₂) (λ_ _=>False) s₁) (λ_ _=>False) s₁) (λ_ _=>False) s)
  (n:Nat) (h:I n s) :
  codeAny (model prog w) A (.compLoop (.ListComp elt [⟨target,iter,ifs,0⟩] scope pos) 0 it acc env) R s:=by
 refine codeAny_loop rfl I (λn s hI=>?_) n h
 show wpAny _ A ((compTurn (.ListComp elt [⟨target,iter,ifs,0⟩] scope pos) 0 it acc env).onRaise (λx=>do noteFrame x env;theTreesLotGoes x)) _ _ s
 refine wpAny_noted ?_
 rw [compTurn_list]
 refine ua (u5 (ua (uj (turn n s hI) (λr s₁ h₁=>?_) λ_ _ h'=>h'.elim)))
 cases r with
 | none=>exact ud h₁
 | some v=>
  refine ua (uj h₁ (λ_ s₁ h₁=>?_) λ_ _ h'=>h'.elim)
  refine ua (uj h₁ (λ_ s₂ h₂=>ua (uj h₂ (λok s₃ h₃=>?_) λ_ _ h'=>h'.elim)) λ_ _ h'=>h'.elim)
  cases ok with
  | false=>exact ud ⟨rfl,h₃⟩
  | true=>
   exact ua (ua (uj h₃ (λx s₄ h₄=>ua (uj h₄ (λ_ s₅ h₅=>ud (ud ⟨rfl,h₅⟩)) λ_ _ h'=>h'.elim)) λ_ _ h'=>h'.elim))
noncomputable def blk (X:Cx)(x:Str)(scope:Scope)(cl:List (Str×Addr))(C:Addr)(s3:Shared)(H3:Hp)(fp:Ld):Cx:=
 { X with N:=x::X.N,s₀:=s3,H₀:=H3,env:=compEnvC scope cl C X.env,outer:=X.stack,ex:=fp,fn:=λ_=>false,pn:=[],xe:=λ_ _=>False }
def PTs (X:Cx)(ifs:Lg)(t:TT):Prop:=
 ∀ (pins:List (Addr×Obj)) (s:Shared) (σ:St) (H:Hp) (Q:Bool->Hp->Prop),Inv X pins σ H s->t σ H Q ->
  wpAny (model X.prog X.w) X.A (forIn ifs true λc r=>if r=true then do let ok ← isTrue c X.env (eval c X.env);pure (ForInStep.yield ok) else pure (ForInStep.yield r)) (TP X pins σ Q) X.xe s
noncomputable def X0:TT:=λ_ H Q=>Q true H
theorem zdX {X:Cx}:PTs X [] X0:=λ_ _ _ H _ I h=>wpAny_tests_nil ⟨H,I,h⟩
theorem zdY {X:Cx}{c:Expr}{t:TT}(h:PT X c t):PTs X [c] t:=λpins s σ H Q I hw=>wpAny_tests_one (h pins s σ H Q I hw)
def WW (J:It)(tt:TT)(te:TE)(σ:St)(H1:Hp)(Q:VK):Prop:=∀ D,H1 D=none->∃ W:Nat->Nat->List V->Hp->Prop,(∃ m,W 0 m [] (upd H1 D (.lst [])))/\∀ i m ys H',W i m ys H'->H' D=some (.lst ys) /\
 ((J.stop i H'/\Q (.ref D) H')\/(J.go i H'/\∀ v H2,J.yld i H' v H2->tt (some v::σ) H2 λb H3=>
  if b=true then te (some v::σ) H3 λy H4=>H4 D=some (.lst ys)/\ys.length<sizeLine/\∃ m',m' < m/\W (i+1) m' (ys++[y]) (upd H4 D (.lst (ys++[y]))) else ∃ m',m' < m/\W (i+1) m' ys H3))
noncomputable def tLC (wi:TI)(tt:TT)(te:TE):TE:=λσ H Q=>wi σ H λJ H1=>WW J tt te σ H1 Q
structure QJ (X:Cx)(x:Str)(scope:Scope):Prop where
 xN:x∉X.N
 nd:X.N.Nodup
 kind:scope.kind=.function
 cell:∀ y∈scope.names,y.2≠.cell
 names:∀ y∈scope.names,y.2=.local->scope.names.lookup y.1=some .local
 var:scope.names.lookup x=some .local
 free:∀ y∈scope.names,y.2=.free->X.env.kindOf y.1=some .cell
 out:∀ y∈X.N,scope.names.lookup y≠some .local
 calm:X.calm=true
section
variable {X:Cx} {elt iter:Expr} {x:Str} {px pos:Pos} {ifs:Lg} {scope:Scope} {wi:TI} {tt:TT} {te:TE}
theorem K1 {pins:List (Addr×Obj)}{σ:St}{H:Hp}{s:Shared}{E:Value->Shared->Prop}{Q:Value->Shared->Prop}{use:Option (Value->Sem Unit)}{QV:VK}(L:QJ X x scope)(I:Inv X pins σ H s) (hi:wpAny (model X.prog X.w) X.A (eval iter X.env) (λv s1=>wpAny (model X.prog X.w) X.A (pyIter v) (PIE X pins σ (.Name x px) (λJ H1=>∀ D,H1 D=none->∃ W:Nat->Nat->List V->Hp->Prop,(∃ m,W 0 m [] (upd H1 D (.lst [])))/\∀ i m ys H',W i m ys H'->H' D=some (.lst ys) /\ ((J.stop i H'/\QV (.ref D) H')\/(J.go i H'/\∀ v H2,J.yld i H' v H2->tt (some v::σ) H2 λb H3=> if b=true then te (some v::σ) H3 λy H4=>H4 D=some (.lst ys)/\ys.length<sizeLine/\∃ m',m' < m/\W (i+1) m' (ys++[y]) (upd H4 D (.lst (ys++[y]))) else ∃ m',m' < m/\W (i+1) m' ys H3)))) E s1) E s) (ht:∀ cl C s3 H3 fp,PTs (blk X x scope cl C s3 H3 fp) ifs tt) (he:∀ cl C s3 H3 fp,PE (blk X x scope cl C s3 H3 fp) elt te) (hs:∀ x,foldedSetIterable iter X.env x=pure x) (fin:∀ (D C:Addr) (H':Hp) (s':Shared) (m:La),Inv X pins σ H' s'->FpOk X pins H' C->s'.heap.Ns C m->QV (.ref D) H'->compPost (model X.prog X.w) X.A E use Q (.ref D) C (.ok .next) s') : wpAny (model X.prog X.w) X.A (comprehension (.ListComp elt [⟨.Name x px,iter,ifs,0⟩] scope pos) scope X.env (firstIterPos [⟨.Name x px,iter,ifs,0⟩] pos) (newList []) false (eval iter X.env) use) Q E s:=by
 obtain⟨cl,hcl,cl1,cl2⟩:=Q7 (env:=X.env) (scope:=scope) (λy hy hf=>I.ok.has y.1 (.inl (L.free y hy hf)));refine Gp (use:=use) rfl hs hcl L.kind L.names (uj hi (λxv s₁ h₁=>uj h₁ (λit s2 h₂=>?_) λ_ _ e=>e) λ_ _ e=>e);obtain⟨it,fp,tn,J,H2,rfl,I2,T,st2,f2,hW⟩:=h₂;have fr2:H2 s2.heap.objs.size=none:=I2.hok.fresh (uk _);obtain⟨W,⟨m0,w0⟩,turn⟩:=hW _ fr2;refine Uh ?_
 have I3:Inv X pins σ (upd H2 s2.heap.objs.size (.lst [])) { s2 with heap:=s2.heap.push { cls:=.type "list",dict:=none,data:=.seq ([]:Lf).toArray } }:=
  I2.laid (t':=s2.toks) (o:=.lst []) (λb ob q=>uc _ q) (uk _) ⟨Uo _,[],0,.nil,um _ rfl⟩
 generalize hD:s2.heap.objs.size=D at I3 turn w0 fr2 ⊢;generalize hH3:upd H2 D (.lst [])=H3 at I3 w0;generalize hs3:({ s2 with heap:=s2.heap.push { cls:=.type "list",dict:=none,data:=.seq ([]:Lf).toArray } }:Shared)=s3 at I3 ⊢;have k23:∀ b o,s2.heap.get? b=some o->s3.heap.get? b=some o:=λb o e=>by rw [← hs3];exact uc _ e
 have os3:s3.os=s2.os:=by rw [← hs3]
 have fpD:∀ b∈fp,b≠D:=λb hb z=>by obtain⟨o,e,_⟩:=T.obj _ _ st2 b hb;exact absurd (ue e) (by rw [z,← hD];exact uM _)
 have f3:∀ b∈fp,FpOk X pins H3 b:=λb hb=>⟨by rw [← hH3,zr (fpD b hb)];exact(f2 b hb).1,(f2 b hb).2⟩
 have st3:tn 0 s3.heap:=T.keep _ _ _ st2 λb hb o e=>k23 b o e;refine GG L.cell (λy hy=>by simp at hy) (λh₁ hns₁ hsb₁=>?_) L.kind;generalize hC:s3.heap.objs.size=C at hns₁ hsb₁ ⊢;have k34:∀ b o,s3.heap.get? b=some o->h₁.get? b=some o:=λb o e=>hsb₁.extBut b o (by rintro rfl;exact absurd (ue e) (by rw [hC];exact uM _)) (uc _ e)
 let X':Cx:=blk X x scope cl C s3 H3 fp;have relab:∀ y,X'.env.scope.names.lookup y=(scope.names.lookup y).map λk=>if (k == NameKind.free&&X.env.scope.kind == .function&&X.env.kindOf y == some .cell) then NameKind.cell else k:=λy=>xp y scope.names
 have visC:∀ y,(X'.env.kindOf y=some .cell\/X'.env.kindOf y=some .free)->scope.names.lookup y=some .free:=λy hy=>by
  have e:=relab y;have hy:X'.env.scope.names.lookup y=some .cell\/X'.env.scope.names.lookup y=some .free:=hy;rw [e] at hy;cases q:scope.names.lookup y with
  | none=>rw [q] at hy;simp at hy
  | some k=>
   rw [q] at hy;simp only [uR,Us] at hy;by_cases hf:k=.free
   ·rw [hf]
   ·have hb:(k == NameKind.free)=false:=by simpa using hf
    simp only [hb,UY,Uy,gk] at hy;rcases hy with rfl | rfl
    ·exact absurd rfl (L.cell _ (uC q))
    ·exact absurd rfl hf
 have okX':X'.Ok:=by
  refine⟨I3.ok.mod,?_,I3.ok.glob,I3.ok.blt,?_,?_,?_,?_,I3.ok.hd,I3.ok.frames,.inl rfl,?_,?_,?_,?_,?_,?_,?_⟩
  ·show(relabel scope X.env).kind=.function;exact L.kind
  ·show s3.heap.objs.size<=C;exact UK hC
  ·exact λa b c h1 h2=>I3.ok.inj a b c (cl1 a c h1) (cl1 b c h2)
  ·exact λy hy=>cl2 (y,.free) (uC (visC y hy)) rfl
  ·exact λy c hf=>by cases hf
  ·refine λb hb=>⟨?_,λy c e z=>(f3 b hb).2.2.2.2.1 y c (cl1 y c e) z⟩
   show b≠C;intro z;obtain⟨o,e,_⟩:=T.obj _ _ st3 b hb;exact absurd (ue e) (by rw [z,← hC];exact uM _)
  ·exact λb o e=>I3.bs b o e
  ·exact ux I3.ok.bsz I3.sz
  ·intro b o e hb;rcases(f3 b hb).2.2.2.1 with z | z
   ·exact I3.ok.noex b o e z
   ·exact absurd (uq (ue e) (ux I3.ok.bsz z)) (uM _)
  ·intro b hb z;rcases uy.mp (I3.stkSub b z) with e | e
   ·exact(f3 b hb).2.1 e
   ·exact(f3 b hb).2.2.1 e
  ·exact I3.stack
  ·exact I3.stkFree
 have hfreeC:H3 C=none:=I3.hok.fresh (UK hC)
 have I4:Inv X' [] (none::σ) H3 { s3 with heap:=h₁,toks:=s3.toks+([]:List (Str×Value)).length }:=by
  refine⟨okX',rfl,I3.bare,Un.kept k34,⟨_,hns₁,?_⟩,?_,hfreeC,?_,λp hp=>absurd (show p∈([]:List (Addr×Obj)) from hp) (by simp),I3.hok.kept k34,?_⟩
  ·intro i y v e1 e2 e3;cases i with
   | zero=>simp at e2
   | succ j=>
    have e1:X.N[j]? = some y:=by simpa using (show(x::X.N)[j+1]? = some y from e1)
    have e2:σ[j]? = some (some v):=by simpa using e2
    have hyN:y∈X.N:=uZ e1
    have hfr:scope.names.lookup y=some .free:=by
     rcases e3 with e3 | e3 | e3
     ·rw [relab y] at e3;cases q:scope.names.lookup y with
      | none=>rw [q] at e3;simp at e3
      | some k=>
       rw [q] at e3;simp only [uR,Us] at e3;by_cases hf:k=.free
       ·rw [hf]
       ·have hb:(k == NameKind.free)=false:=by simpa using hf
        simp only [hb,UY,Uy,gk] at e3;exact absurd (by rw [q,e3]) (L.out y hyN)
     ·exact visC y (.inl e3)
     ·exact visC y (.inr e3)
    have hkc:=L.free (y,.free) (uC hfr) rfl;have hkc:X.env.kindOf y=some .cell:=hkc;obtain⟨mX,_,hlX⟩:=I3.loc;obtain⟨u,r,l⟩:=hlX j y v e1 e2 (.inr (.inl hkc));refine⟨u,r,?_⟩;rcases l with⟨l,_⟩ | ⟨_,c,hc,hcell⟩
    ·rw [hkc] at l;cases l
    ·obtain⟨c',hc'⟩:=cl2 (y,.free) (uC hfr) rfl;have hc':cl.lookup y=some c':=hc';have:=cl1 y c' hc';rw [hc] at this;cases this;refine .inr ⟨?_,c,hc',?_⟩
     ·rcases e3 with e3 | e3 | e3
      ·rw [relab y,hfr] at e3;simp only [uR,Us] at e3;split at e3<;>cases e3
      ·exact .inl e3
      ·exact .inr e3
     ·obtain⟨o,ho,hd⟩:=hcell;exact⟨o,k34 _ _ ho,hd⟩
  ·intro y c e;obtain⟨v,o,ho,hd⟩:=I3.cell y c (cl1 y c e);exact⟨v,o,k34 _ _ ho,hd⟩
  ·exact λy c e=>I3.freeC y c (cl1 y c e)
  ·show(none::σ).length=(x::X.N).length;rw [uu,uu,I3.len]
 have st4:tn 0 h₁:=T.keep _ _ _ st3 λb hb o e=>k34 b o e;have stat:∀ {H':Hp},(∀ b∈fp,H' b=none)->∀ b∈fp,FpOk X' [] H' b:=λhn b hb=>by refine⟨hn b hb,(okX'.exf b hb).1,okX'.exfs b hb,.inl hb,(okX'.exf b hb).2,λp hp=>absurd (show p∈([]:List (Addr×Obj)) from hp) (by simp)⟩
 have hNd:X'.N.Nodup:=UR.mpr ⟨L.xN,L.nd⟩;have hvar:X'.env.scope.names.lookup x=some .local:=by rw [relab x,L.var];rfl
 have loop:∀ s4:Shared,s4={ s3 with heap:=h₁,toks:=s3.toks+([]:List (Str×Value)).length } ->
   codeAny (model X.prog X.w) X.A (.compLoop (.ListComp elt [⟨.Name x px,iter,ifs,0⟩] scope pos) 0 (.ref it) (.ref D) X'.env) (compPost (model X.prog X.w) X.A E use Q (.ref D) C) s4:=by
  rintro s4 rfl
  refine Qi (λn s'=>∃ i ys o H',Inv X' [] (o::σ) H' s'/\tn i s'.heap/\(∀ b∈fp,H' b=none)/\W i n ys H') ?_ m0 ⟨0,[],none,H3,I4,st4,λb hb=>(f3 b hb).1,w0⟩
  rintro n s5 ⟨i,ys,o,H5,I5,st5,fr5,w5⟩
  obtain⟨hD5,turn5⟩:=turn i n ys H5 w5
  rcases turn5 with⟨stop,qn⟩ | ⟨go,step⟩
  ·refine uj (T.done X' rfl rfl rfl L.calm i [] s5 (o::σ) H5 (λ_ _=>False) I5 (stat fr5) st5 stop) (λr s6 h6=>?_) λ_ _ z=>z
   obtain⟨rfl,I6⟩:=h6
   have un6:Un (frs X.stack) fp H3 H5 s3.heap s6.heap:=I6.base
   have IX:Inv X pins σ H5 s6:=I3.call' I6.os un6 I6.hok I6.bare λb hb=>⟨(f3 b hb).2.2.2.1,(f3 b hb).2.1,(f3 b hb).2.2.2.2.1,(f3 b hb).2.2.2.2.2⟩
   obtain⟨mC,hnC,_⟩:=I6.loc
   exact fin D C H5 s6 mC IX (I3.fpOk (H':=H5) (UK hC) I6.free) hnC qn
  ·refine uj (T.item X' rfl rfl rfl L.calm i [] s5 (o::σ) H5 (λ_ _=>False) I5 (stat fr5) st5 go) (λr s6 h6=>?_) λ_ _ z=>z.elim
   obtain⟨u,rfl,h6⟩:=h6
   refine uj h6 (λ_ s6 h6=>?_) λ_ _ z=>z
   obtain⟨v,H6,I6,r6,y6,st6,fr6⟩:=h6
   have I6':=I6.pinned (stat fr6) (T.obj _ _ st6)
   have hv6:=step v H6 y6
   show wpAny (model X'.prog X'.w) X'.A (assign (.Name x px) X'.env u) _ _ s6
   refine uj (Q:=λ_ s7=>Inv X' ([]++vj fp s6.heap) (some v::σ) H6 s7) (E:=λ_ _=>False) (UX (yh I6' hNd (i:=0) rfl (.inl hvar) r6 (λs7 I7=>(show Inv X' ([]++vj fp s6.heap) (some v::σ) H6 s7 from I7)) (.inr hvar))) (λ_ s7 I7=>?_) λ_ _ z=>z.elim
   refine uj ((ht cl C s3 H3 fp) _ s7 _ H6 _ I7 hv6) (λb s8 h8=>?_) λ_ _ z=>z.elim
   obtain⟨H8,I8,q8⟩:=h8
   have done:∀ {ys':List V} {H9:Hp} {s9:Shared} {n':Nat},Inv X' ([]++vj fp s6.heap) (some v::σ) H9 s9->W (i+1) n' ys' H9->∃ i ys o H',Inv X' [] (o::σ) H' s9/\tn i s9.heap/\(∀ b∈fp,H' b=none)/\W i n' ys H':=λ{ys' H9 s9 n'} I9 w9=>by
    refine⟨i+1,ys',some v,H9,I9.unpinned,T.keep _ _ _ st6 λb hb o e=>(I9.pin (b,o) (uE _ (uE _ (wb hb e)))).1,λb hb=>?_,w9⟩
    obtain⟨o,e,d⟩:=T.obj _ _ st6 b hb
    exact(I9.pin (b,o) (uE _ (uE _ (wb hb e)))).2.1
   cases b with
   | false=>
    have q8:∃ m',m' < n/\W (i+1) m' ys H8:=q8
    obtain⟨m',hm,w8⟩:=q8
    exact⟨m',hm,done I8 w8⟩
   | true=>
    have q8:te (some v::σ) H8 _:=q8
    refine uj ((he cl C s3 H3 fp) _ s8 _ H8 _ I8 q8) (λyv s9 h9=>?_) λ_ _ z=>z.elim
    obtain⟨y,H9,I9,r9,hD9,hz9,m',hm,w9⟩:=h9
    refine uj (qj (X:=X') _ s9 _ H9 (.ref D) [y] (.ref D) [yv] (λv' H'=>v' = .non/\H' = upd H9 D (.lst (ys++[y]))) I9 rfl (.cons r9 .nil) ⟨D,ys,y,rfl,rfl,hD9,hz9,rfl,rfl⟩) (λ_ s10 h10=>?_) λ_ _ z=>z.elim
    obtain⟨_,H10,I10,_,_,rfl⟩:=h10
    exact⟨m',hm,done I10 w9⟩
 exact Gx (loop _ rfl) (T.self _ 0 _ _ _ st4 (loop _ rfl))
theorem zbU {i:Nat}{z:Str}{pz spos:Pos}(hN:X.N.Nodup)(hi':X.N[i]? = some z)(hz:Loc X.env.scope z)(L:QJ X x scope)(hi:PI X (.Name x px) iter wi)(ht:∀ cl C s3 H3 fp,PTs (blk X x scope cl C s3 H3 fp) ifs tt)(he:∀ cl C s3 H3 fp,PE (blk X x scope cl C s3 H3 fp) elt te) (hs:∀ x,foldedSetIterable iter X.env x=pure x:=by intro _;rfl) (hsw:swapsWith (.ListComp elt [⟨.Name x px,iter,ifs,0⟩] scope pos) (some (.Name z pz)) spos.line X.env=pure true:=by rfl) (hf:X.fn z=true\/X.env.scope.names.lookup z=some .local:=by first | exact .inl rfl | exact .inr rfl | assumption):PS X (.Assign [.Name z pz] (.ListComp elt [⟨.Name x px,iter,ifs,0⟩] scope pos) spos) (tAsg (tLC wi tt te) (Qd i)):=by
 intro pins s σ H D I h;rw [exec_Assign_Name_used _ _ _ _ hsw];refine ua (u5 (ua ?_));show wpAny _ X.A (do let _ ← comprehension (.ListComp elt [⟨.Name x px,iter,ifs,0⟩] scope pos) scope X.env _ (newList []) false (eval iter X.env) (some (assign (.Name z pz) X.env))) _ _ s;refine ua (uj (K1 (use:=some (assign (.Name z pz) X.env)) (Q:=λ_ s'=>SP X pins D .next s') (QV:=λv H'=>D.nx (σ.set i (some v)) H') L I (hi pins s σ H _ I h) ht he hs λD' C H' s' m IX fC hn q=>?_) (λ_ s' hq=>ud (ud hq)) λ_ _ e=>e);show wpAny _ X.A (assign (.Name z pz) X.env (.ref D')) _ _ s';refine UX (We IX hN hi' hz (show RelV (.ref D') (.ref D') from rfl) (λs2 I2 hch=>?_) hf);obtain⟨a,sb,ha⟩:=hch
 have hCa:C≠a:=by
  rcases ha with e | e
  ·rw [e];exact fC.2.1
  ·intro z';exact fC.2.2.2.2.1 _ _ e z'.symm
 refine⟨m,hn.sameBut sb hCa,λh' hs'=>?_⟩;exact⟨_,H',I2.turned (t':=s2.toks) (λb o hb e=>hs'.extBut b o hb e) fC.1 fC.2.1 fC.2.2.2.1 fC.2.2.2.2.1 fC.2.2.2.2.2,q⟩
theorem zj0 (L:QJ X x scope)(hi:PI X (.Name x px) iter wi)(ht:∀ cl C s3 H3 fp,PTs (blk X x scope cl C s3 H3 fp) ifs tt)(he:∀ cl C s3 H3 fp,PE (blk X x scope cl C s3 H3 fp) elt te) (hs:∀ x,foldedSetIterable iter X.env x=pure x:=by intro _;rfl):PE X (.ListComp elt [⟨.Name x px,iter,ifs,0⟩] scope pos) (tLC wi tt te):=by intro pins s σ H Q I h;rw [eval_ListComp];refine K1 (use:=none) (QV:=Q) L I (hi pins s σ H _ I h) ht he hs λD C H' s' m IX fC hn q=>?_;refine⟨m,hn,λh' hs'=>⟨.ref D,H',IX.turned (t':=s'.toks) (λb o hb e=>hs'.extBut b o hb e) fC.1 fC.2.1 fC.2.2.2.1 fC.2.2.2.2.1 fC.2.2.2.2.2,rfl,q⟩⟩
end
noncomputable def S (l:Lc):Str:=⟨l.toArray⟩
theorem zbV (l:Lc):(S l).cps.toList=l:=rfl
theorem y3 (l:Lc):(S l).length=l.length:=by simp [S,Str.length]
theorem Q8 (l:Lc):(S l).cps.size=l.length:=by simp [S]
theorem zbW (l:Lc)(i:Nat):(S l).cps[i]? = l[i]?:=by simp [S]
theorem Qj {a b:Lc}:S a=S b↔a=b:=⟨λh=>by have:=congrArg (λx=>x.cps.toList) h;simpa [S] using this,λh=>by rw [h]⟩
theorem zj1 (a b:Lc):S a++S b=S (a++b):=by show Str.append (S a) (S b)=_;simp [S,Str.append]
theorem zj2 {a b:Lc}:(V.str (S a)=V.str (S b))=(a=b):=by rw [V.str.injEq,Qj]
section
variable {X:Cx} {a b e:Expr} {ta tb te:TE} {pos:Pos}
theorem pe_S {x:Str}{l:Lc}{j pos}(h:x=S l):PE X (.Constant (.str x) j pos) (tC (.str (S l))):=by subst h;exact V7
theorem xc:OpR X (binaryOp .Add) (λx y H Q=>∃ i j,x=.str (S i)/\y=.str (S j)/\i.length+j.length<=sizeLine/\Q (.str (S (i++j))) H):=by intro pins s σ H x y v u Q I rx ry h;obtain⟨i,j,rfl,rfl,hz,q⟩:=h;exact Yh pins s σ H _ _ v u Q I rx ry ⟨S i,S j,rfl,rfl,by rw [y3,y3];exact hz,by rw [zj1];exact q⟩
theorem qP:OpR X (binaryOp .Mult) (rI IntMulOk λi j=>.int (i * j)):=opI λ_ _ _ _ _ _ _ hc q=>mul_int q hc
theorem wU:OpR X (compareOp .In) (λx y H Q=>∃ c l,x=.str (S [c])/\y=.str (S l)/\Q (.bl (decide (c∈l))) H):=by intro pins s σ H x y v u Q I rx ry h;obtain⟨c,l,rfl,rfl,q⟩:=h;refine zaR pins s σ H _ _ v u Q I rx ry ⟨S [c],S l,rfl,rfl,?_⟩;rw [show S [c]=⟨#[c]⟩ from rfl,StrLaws.found_one];exact q
theorem Wm:OpR X (compareOp .NotIn) (λx y H Q=>∃ c l,x=.str (S [c])/\y=.str (S l)/\Q (.bl (!decide (c∈l))) H):=by intro pins s σ H x y v u Q I rx ry h;obtain⟨c,l,rfl,rfl,q⟩:=h;refine WN pins s σ H _ _ v u Q I rx ry ⟨S [c],S l,rfl,rfl,?_⟩;rw [show S [c]=⟨#[c]⟩ from rfl,StrLaws.found_one];exact q
noncomputable def zeL:R2:=λx y H Q=>∃ l i c,x=.str (S l)/\y=.int i/\l.length<=sizeLine/\atI l i=some c/\Q (.str (S [c])) H
theorem ix_S:IxR X zeL:=by intro value slice pins s σ H x y v u Q I rx ry h hs;obtain⟨l,i,c,rfl,rfl,hz,he,q⟩:=h;exact zg9 value slice pins s σ H _ _ v u Q I rx ry ⟨S l,i,c,rfl,rfl,by rw [y3];exact hz,he,q⟩ hs
theorem ZF:qV X (.builtin "len") (λxs H Q=>∃ l,xs=[.str (S l)]/\l.length<=sizeLine/\Q (.int l.length) H):=by intro pins s σ H xs us Q I r h;obtain⟨l,rfl,hz,q⟩:=h;exact WU pins s σ H _ us Q I r ⟨S l,rfl,by rw [y3];exact hz,by rw [y3];exact q⟩
end
section
variable {X:Cx} {a b e:Expr} {ta tb te:TE} {pos:Pos}
noncomputable def rJoin (K:Le):V->List V->Hp->VK->Prop:=λx vs H Q=>∃ (D:Addr) (ls:List (Lc)),x=.str (S [])/\vs=[.ref D]/\SqL K H D (ls.map λl=>V.str (S l))/\ls.flatten.length<=16777216/\Q (.str (S ls.flatten)) H
noncomputable def zhd:V->List V->Hp->VK->Prop:=λx vs H Q=>∃ l c,x=.str (S l)/\vs=[.str (S [c])]/\c∈l/\∀ i:Nat,l[i]? = some c->Q (.int (i:Int)) H
noncomputable def dg (n:Nat):Lc:=if n<10 then [48+n] else [48+n / 10,48+n % 10]
theorem za0 {i:Int}(h0:0<=i)(h1:i<1000000):i.natAbs.log2<1920:=by
 have:i.natAbs<2 ^ 20:=by lia
 by_cases hz:i.natAbs=0
 ·rw [hz];decide
 ·have:=(Nat.log2_lt hz).mpr this;lia
noncomputable def dg2 (n:Nat):Lc:=[48+n / 10,48+n % 10]
noncomputable def zhe:V->List V->Hp->VK->Prop:=λx vs H Q=>∃ n:Nat,x=.str (S (dg n))/\vs=[.int 2]/\n<100/\Q (.str (S (dg2 n))) H
noncomputable def vy (c:Nat):Bool:=48<=c&&c<=57
theorem za1:qV X (.type "int") (λxs H Q=>∃ c d:Nat,xs=[.str (S [c,d])]/\vy c=true/\vy d=true/\Q (.int (((c - 48) * 10+(d - 48):Nat):Int)) H):=by
 intro pins s σ H xs us Q I r h;obtain⟨c,d,rfl,hc,hd,q⟩:=h;obtain⟨u,rfl,t,rfl⟩:=vals1 r;unfold vy at hc hd;simp only [uI,Uj] at hc hd
 have hn:PySem.intText? (S [c,d])=some (((c - 48) * 10+(d - 48):Nat):Int):=by
  rw [intText_digits (x:=S [c,d]) (λz hz=>?_) (by simp [S]) (by rw [y3];show 2<=4300;decide)]
  ·rw [zbV];simp [NumText.digitsVal]
  ·rw [zbV] at hz;simp at hz;rcases hz with rfl | rfl
   ·exact hc
   ·exact hd
 exact PySem.W.KIN.call_text hn (by rw [y3];show 2<=640;decide) ⟨.int _,H,I.tok _,⟨_,rfl⟩,q⟩
end
structure OkF (P:Program)(w:World)(K:Le)(mg:La)(base:Heap)(k:Nat)(x:Str)(ps:Lh)(sp:Sp):Prop where
 ex:∃ (f:Addr) (fd:FuncData),PySem.W.keepIn K (.ref f)=true/\Binds K fd ps []/\(mg x=some (.ref f)/\∃ oc od osl,K.lookup f=some ⟨oc,od,.func fd,osl⟩)/\FnOk P w K mg base CX0 k f fd ps sp
structure Df (K:Le)(mg:La)(x:Str)(st:Stmt)(ps:Lh):Prop where
 ex:∃ (f:Addr) (fd:FuncData),Fun K x x st f fd/\Binds K fd ps []/\mg x=some (.ref f)
section
variable {P:Program} {w:World} {K:Le} {mg:La} {base:Heap}
theorem Df.ok {x:Str}{st:Stmt}{ps N:Lh}{k:Nat}{sp:Sp}(D:Df K mg x st ps)(Sc:zo N ps (zg st))(len:∀ vs H Q E,sp vs H Q E->vs.length=ps.length) (hbody:∀ (f:Addr) (cdv:Value) (A:Around) (outer:List Env) (s:Shared) (H:Hp) (vs:List V) (Q:VK) (E:XK),Room k (A.deeper (envOfC x (zg st) s.heap.objs.size f cdv))->sp vs H Q E -> ∃ t,PSs (cxOf CX0 P w K mg base N x (zg st) f cdv A outer s H E).nox (zQ st) t/\t { nx:=λ_ H'=>Q .non H',rt:=Q } (start N vs) H):OkF P w K mg base (k+1) x ps sp:=by obtain⟨f,fd,F,b,m⟩:=D.ex;refine⟨f,fd,F.kp,b,⟨m,?_⟩,F.ok Sc len (λcdv A outer s H vs Q E hr h=>hbody f cdv A outer s H vs Q E hr h)⟩;obtain⟨oc,od,kV,doc,pm,an,cdv,ct,osl,rfl,lk,hcd⟩:=F.ex;exact⟨oc,od,osl,lk⟩
theorem OkF.mono {j k:Nat}{x:Str}{ps:Lh}{sp:Sp}(F:OkF P w K mg base j x ps sp)(h:j<=k):OkF P w K mg base k x ps sp:=by obtain⟨f,fd,kp,b,m,G⟩:=F.ex;exact⟨f,fd,kp,b,m,G.mono h⟩
theorem OkF.imp {k:Nat}{x:Str}{ps:Lh}{sp sp':Sp}(F:OkF P w K mg base k x ps sp)(h:∀ vs H Q E,sp' vs H Q E->sp vs H Q E):OkF P w K mg base k x ps sp':=by obtain⟨f,fd,kp,b,m,G⟩:=F.ex;exact⟨f,fd,kp,b,m,G.imp h⟩
end
section
variable {P:Program} {w:World} {K:Le} {mg:La} {base:Heap}
theorem zj3 {h:Heap}{x:Str}{st:Stmt}{ps:Lh}{f:Addr}{oc:Value}{od an:Option Addr}{osl:Array (Option Value)}{kV doc pm cdv ct:Value}(X:K.In h)(G:h.Ns mainGlobals mg) (b:∀ (kV doc pm:Value) (an:Option Addr) (cdv ct:Value) (us:Lf),us.length=ps.length->bindArgs (PySem.W.fnOf x x (qx st) (zQ st) (zg st) .none kV doc pm an cdv ct) ⟨us,[]⟩=pure (ps.zip us)) (a:PySem.W.nsIn K mainGlobals x=some (some (.ref f))) (l:K.lookup f=some ⟨oc,od,.func (PySem.W.fnOf x x (qx st) (zQ st) (zg st) .none kV doc pm an cdv ct),osl⟩) (c:PySem.W.codeIn K cdv x=true) (k:PySem.W.keepIn K (.ref f)=true):Df K mg x st ps:= ⟨f,_,yk l c k,(yk l c k).binds b,ui X G a⟩
theorem zhf {st:Stmt}{x:Str}{k:Nat}{fa:Addr}{sp:Sp}(D:Df K mg "law" st [x])(hfa:mg "law" = some (.ref fa)) (hb:∀ (kV doc pm:Value) (an:Option Addr) (cdv ct:Value) (s:Shared) (u:Value),BindsTo s (PySem.W.fnOf "law" "law" (qx st) (zQ st) (zg st) .none kV doc pm an cdv ct) ⟨[u],[]⟩ [(x,u)]) (F:∀ base:Heap,OkF P w K mg base k "law" [x] sp) : ∃ fd:FuncData,(∀ (s:Shared) (v:Value),BindsTo s fd ⟨[v],[]⟩ [(x,v)])/\∀ base:Heap,K.In base->base.Ns mainGlobals mg->FnOk P w K mg base CX0 k fa fd [x] sp:=by
 obtain⟨f,fd,G,b,m⟩:=D.ex;have e:f=fa:=by rw [hfa] at m;cases m;rfl
 subst e;obtain⟨oc,od,kV,doc,pm,an,cdv,ct,osl,rfl,lk,hcd⟩:=G.ex;refine⟨_,λs v=>hb kV doc pm an cdv ct s v,λbase _ _=>?_⟩;obtain⟨f',fd',_,_,⟨m',oc',od',osl',lk'⟩,ok⟩:=(F base).ex;have e:f' = f:=by rw [hfa] at m';cases m';rfl
 subst e;rw [lk] at lk';cases lk';exact ok
end
section
variable {X:Cx} {k j:Nat} {x:Str} {ps:Lh} {sp:Sp} {p pos:Pos} {e:Expr} {es:Lg} {t:TA}
theorem zbX (F:OkF X.prog X.w X.K X.mg X.base k x ps sp)(hr:Room j X.A)(hk:k<=j)(ha:PA X (e::es) t)(hg:Gl X x:=by rfl) (hdb:(x == ("__debug__":Str))=false:=by decide) (he:starEach (e::es) X.env=(false,eval e X.env)::starEach es X.env:=by rfl) (hpl:(backTo pos (starEach es X.env)).any (·.1)=false:=by rfl):PE X (.Call (.Name x p) (e::es) [] pos) (Zc sp [] E0 t):=by obtain⟨f,fd,kp,b,m,G⟩:=F.ex;exact zdM G (hr.mono hk) hg m.1 kp b .nil zbT ha hdb he hpl
theorem za2 (F:OkF X.prog X.w X.K X.mg X.base k x ps sp)(hr:Room j X.A)(hk:k<=j)(hg:Gl X x:=by rfl) (hdb:(x == ("__debug__":Str))=false:=by decide):PE X (.Call (.Name x p) [] [] pos) (Zc sp [] E0 tNil):=by obtain⟨f,fd,kp,b,m,G⟩:=F.ex;exact zbJ G (hr.mono hk) hg m.1 kp b .nil zbT hdb
theorem zj4 {v:V}{pos:Pos}(h:∃ u,X.mg x=some u/\RelV v u)(hg:Gl X x:=by rfl) (hd:(x == ("__debug__":Str))=false:=by decide):PE X (.Name x pos) (tC v):=by obtain⟨u,m,r⟩:=h;exact KJ hg m r hd
theorem zhg {v:V}{u:Value}{pos:Pos}(hm:X.mg x=none)(hv:bootBuiltins x=some u)(r:RelV v u)(hg:Gl X x:=by rfl) (hn:x≠"__name__":=by decide) (hd:(x == ("__debug__":Str))=false:=by decide):PE X (.Name x pos) (tC v):=
 zdB hg hm hv r hn hd
theorem lcs {N:Lh}{sc scope:Scope}(e1:X.N=N)(e2:X.env.scope=sc)(c:X.calm=true) (h:x∉N/\N.Nodup/\scope.kind=.function/\(∀ y∈scope.names,y.2≠.cell)/\(∀ y∈scope.names,y.2=.local->scope.names.lookup y.1=some .local)/\scope.names.lookup x=some .local /\ (∀ y∈scope.names,y.2=.free->sc.names.lookup y.1=some .cell)/\(∀ y∈N,scope.names.lookup y≠some .local)):QJ X x scope:=by subst e1 e2;obtain⟨h1,h2,h3,h4,h5,h6,h7,h8⟩:=h;exact⟨h1,h2,h3,h4,h5,h6,h7,h8,c⟩
theorem zdZ:OpR X (binaryOp .Add) (λx y H Q=>(∃ i j,x=.int i/\y=.int j/\Q (.int (i+j)) H)\/∃ i j,x=.str (S i)/\y=.str (S j)/\i.length+j.length<=sizeLine/\Q (.str (S (i++j))) H):=vk.or xc
section
variable {K:Le} {o:Expr} {to:TE} {name:Str} {apos cpos:Pos} {T id:String} {r:V->List V->Hp->VK->Prop}
theorem zhh (hK:X.K=K)(pa:PlainAttrs T)(slot:Slot T name id)(hty:typeOf (.builtin id)=pure (.type "method_descriptor"))(hm:MtR X id r)(ho:PE X o to)(ha:PA X (e::es) t) (hbase:attributeBase o name X.env (eval o X.env)=eval o X.env:=by rfl) (hfew:((backTo cpos (starEach (e::es) X.env)).all (λx=>!x.1)&&(backToKw cpos (keywordEach [] X.env)).all (λx=>x.1.isSome) && decide ((e::es).length+([]:List Keyword).length+(if ([]:List Keyword).isEmpty then 0 else 1)<30))=true:=by rfl) (hline:(apos.endLine == cpos.line)=true:=by rfl) (hs:starEach (e::es) X.env=(false,eval e X.env)::starEach es X.env:=by rfl) (hplain:(backTo cpos (starEach es X.env)).any (·.1)=false:=by rfl) : PE X (.Call (.Attribute o name apos) (e::es) [] cpos) (tBM K T r to t):=by subst hK;exact zjY pa slot hty hm ho ha hbase hfew hline hs hplain
theorem jU (hK:X.K=K):IxR X (rIxL K):=by subst hK;exact zdU
theorem zx (hK:X.K=K):IxR X (rIxT K):=by subst hK;exact zg8
noncomputable def zeM (K:Le):List V->Hp->VK->Prop:=λxs H Q=>∃ p ys,xs=[.ref p]/\(SqL K H p ys\/SqT K H p ys)/\Q (.int ys.length) H
theorem qZ (hK:X.K=K):qV X (.builtin "len") (zeM K):=by subst hK;exact WT
theorem zbY {tg l:Expr}{tl:TE}(hK:X.K=K)(hl:PE X l tl):PI X tg l (KN K tl):=by subst hK;exact zdG hl
end
end
theorem xq:bootBuiltins "len" = some (.builtin "len"):=by decide +kernel
theorem zhi:bootBuiltins "max" = some (.builtin "max"):=by decide +kernel
theorem zhj:bootBuiltins "min" = some (.builtin "min"):=by decide +kernel
theorem Q9:bootBuiltins "int" = some (.type "int"):=by decide +kernel
theorem zV:bootBuiltins "isinstance" = some (.builtin "isinstance"):=by decide +kernel
noncomputable def sg:Lc:=[32,33,34,35,36,38,39,40,41,42,43,44,45,46,47,48,49,50,51,52,53,54,55,56,57,58,59,60,61,62,63,64,65,66,67,68,69,70,71,72,73,74,75,76,77,78,79,80,81,82,83,84,85,86,87,88,89,90,91,92,93,94,95,96,97,98,99,100,101,102,103,104,105,106,107,108,109,110,111,112,113,114,115,116,117,118,119,120,121,122,123,124,125,126]
noncomputable def fg:Lc:=[48,49,50,51,52,53,54,55,56,57]
theorem Yo:sg.length=94:=by decide
theorem WX (c:Nat):c∈fg↔vy c=true:=by unfold fg vy;simp only [uy,List.mem_nil_iff,or_false,uI,Uj];omega
theorem Qk {α:Type}(xs:List α)(i:Nat):atI xs (i:Int)=xs[i]?:=by
 cases h:xs[i]? with
 | some v=>exact zdT h
 | none=>have h1:xs.length<=i:=Ur.mp h;unfold atI ixN;rw [uf (by omega),ub (by omega)];rfl
theorem zb {H:Hp}{a:Addr}{o:HO}(h:H a=none):Same H (upd H a o):=λb u e=>by rw [zr (zE e h)];exact e
def yR (J:It)(g:TG)(tb:TS)(D:Ends)(σ:St)(H1:Hp):Prop:=∃ W:Nat->Nat->St->Hp->Prop,(∃ m,W 0 m σ H1)/\∀ i m σ H,W i m σ H ->
 (J.stop i H/\D.nx σ H)\/(J.go i H/\∃ N:St->Hp->Prop,(∀ σ' H',N σ' H'->∃ m',m' < m/\W (i+1) m' σ' H')/\∀ x H',J.yld i H x H'->g x σ H' λσ2 H2=>tb { D with nx:=N,ct:=N,bk:=D.nx } σ2 H2)
theorem zd0 (wi:TI)(g:TG)(tb:TS):tFor wi g tb=λD σ H=>wi σ H λJ H1=>yR J g tb D σ H1:=rfl
def zhk (c:TT)(tb:TS)(D:Ends)(σ:St)(H:Hp):Prop:=∃ W:Nat->St->Hp->Prop,(∃ m,W m σ H)/\∀ m σ H,W m σ H ->
 c σ H λb H1=>if b=true then ∃ N:St->Hp->Prop,(∀ σ' H',N σ' H'->∃ m',m' < m/\W m' σ' H')/\tb { D with nx:=N,ct:=N,bk:=D.nx } σ H1 else D.nx σ H1
theorem za3 (c:TT)(tb:TS):zgX c tb=λD σ H=>zhk c tb D σ H:=rfl
theorem zhl {l:Lc}{g:TG}{tb:TS}{D:Ends}{σ:St}{H:Hp}(Pv:Nat->St->Hp->Prop)(h0:Pv 0 σ H)
  (hs:∀ i c σ H,l[i]? = some c->Pv i σ H->g (.str (S [c])) σ H λσ2 H2=>tb { D with nx:=Pv (i+1),ct:=Pv (i+1),bk:=D.nx } σ2 H2) (hd:∀ σ H,Pv l.length σ H->D.nx σ H):yR (Its (S l)) g tb D σ H:=
 zdW (x:=S l) Pv h0 (λi c σ H e p=>hs i c σ H (by rw [zbW] at e;exact e) p) (λσ H p=>hd σ H (by rw [Q8] at p;exact p))
theorem Zg {K:Le}{a:Addr}{xs:List V}{g:TG}{tb:TS}{D:Ends}{σ:St}{H:Hp}(Pv:Nat->St->Hp->Prop)(h0:Pv 0 σ H)(hl:∀ i σ H,i<=xs.length->Pv i σ H->SqL K H a xs)
  (hs:∀ i x σ H,xs[i]? = some x->Pv i σ H->g x σ H λσ2 H2=>tb { D with nx:=Pv (i+1),ct:=Pv (i+1),bk:=D.nx } σ2 H2) (hd:∀ σ H,Pv xs.length σ H->D.nx σ H):yR (Itl K a) g tb D σ H:=zbA Pv h0 hl hs hd
theorem Ja {n:Nat}{g:TG}{tb:TS}{D:Ends}{σ:St}{H:Hp}(Pv:Nat->St->Hp->Prop)(h0:Pv 0 σ H) (hs:∀ i σ H,i<n->Pv i σ H->g (.int (i:Int)) σ H λσ2 H2=>tb { D with nx:=Pv (i+1),ct:=Pv (i+1),bk:=D.nx } σ2 H2) (hd:∀ σ H,Pv n σ H->D.nx σ H):yR (Itr 0 n) g tb D σ H:=by
 refine⟨λi m σ H=>m=n - i/\i<=n/\Pv i σ H,⟨n,by simp,Uo _,h0⟩,?_⟩;rintro i m σ H ⟨rfl,hi,p⟩;by_cases hlt:i<n
 ·refine .inr ⟨hlt,Pv (i+1),λσ' H' p'=>⟨n - (i+1),by lia,rfl,hlt,p'⟩,λx H' y=>?_⟩;obtain⟨rfl,rfl⟩:=y;rw [Int.zero_add];exact hs i σ _ hlt p
 ·have e:i=n:=by lia
  subst e;exact .inl ⟨uk _,hd σ H p⟩
theorem take_snoc {α:Type}{l:List α}{i:Nat}{c:α}(h:l[i]? = some c):l.take (i+1)=l.take i++[c]:=by rw [List.take_succ,h];rfl
theorem qb {α:Type}(c:α)(l:List α):atI (c::l) 0=some c:=by rw [show(0:Int)=((0:Nat):Int) from rfl,Qk];rfl
theorem yl {α:Type}(c d:α)(l:List α):atI (c::d::l) 1=some d:=by rw [show(1:Int)=((1:Nat):Int) from rfl,Qk];rfl
theorem zd1 {α:Type}{xs:List α}{i:Int}(h0:0<=i)(h1:i<xs.length):∃ v,atI xs i=some v/\xs[i.toNat]? = some v:=by
 obtain⟨n,rfl⟩:=Int.eq_ofNat_of_zero_le h0;have hn:n<xs.length:=by lia
 refine⟨xs[n],?_,?_⟩
 ·rw [show((n:Nat):Int)=((n:Nat):Int) from rfl];rw [Qk,uw hn]
 ·rw [Int.toNat_natCast,uw hn]
theorem Jb {ns:List Int}{i:Int}(h0:0<=i)(h1:i<ns.length):∃ n,atI (ns.map V.int) i=some (.int n)/\n∈ns:=by
 obtain⟨v,h2,h3⟩:=zd1 (xs:=ns.map V.int) h0 (by rw [uS];exact h1);rw [Um] at h3;cases e:ns[i.toNat]? with
 | none=>rw [e] at h3;cases h3
 | some n=>rw [e] at h3;cases h3;exact⟨n,h2,uZ e⟩
theorem xZ {i j:Int}(h:-(2 ^ 64)<i/\i<2 ^ 64):IntMulOk i j:=CMul.ok (.inl h)
theorem yS {i j:Int}(h:-(2 ^ 64)<j/\j<2 ^ 64):IntMulOk i j:=CMul.ok (.inr h)
theorem vH {a m:Int}(h:0<m):0<=a % m/\a % m<m:=⟨Int.emod_nonneg _ (by lia),Int.emod_lt_of_pos _ h⟩
theorem zhm {tc:TT}{t rest:TS}{D:Ends}{σ:L2.St}{H:Hp}(hr:rest D σ H)(h:∀ N:L2.St->Hp->Prop,N σ H->tIfS tc t XW { D with nx:=N } σ H):tSeq (tIfS tc t XW) rest D σ H:=h _ hr
theorem cpow {i j:Int}(h:0<=j/\j<=1000000/\i.natAbs<2 ^ 64):CPow i j:=h
noncomputable def told (l:Lc):Option Nat:=match l with
 | [c,d]=>if vy c=true/\vy d=true then sg[(c - 48) * 10+(d - 48)]? else none
 | _=>none
theorem zd2 {l:Lc}(h:l.length≠2):told l=none:=by
 match l,h with
 | [],_=>rfl
 | [_],_=>rfl
 | [_,_],h=>exact absurd rfl h
 | _::_::_::_,_=>rfl
noncomputable def oV:Option Nat->V
 | some c=>.str (S [c])
 | none=>.non
noncomputable def zj5:R2:=λx y H Q=>∃ (l:Lc) (n:Int),x=.str (S l)/\y=.int n/\0<=n/\n<=100000/\l.length * n.toNat<=16777216/\Q (.str (S (List.replicate n.toNat l).flatten)) H
noncomputable def ws:Lc:=[97,98,99,100,101,102,103,104,105,106,107,108,109,110,111,112,113,114,115,116,117,118,119,120,121,122,48,49,50,51,52,53,54,55,56,57,45]
def Fly (p:Prop)(h:Heap)(e T:Addr)(cls:Value)(d:Option Addr)(fl:Value):Prop:= ∃ sl vs oT ts,h.get? e=some ⟨cls,d,.fields vs,sl⟩/\vs[1]? = some (.ref T)/\T≠e/\h.get? T=some oT/\oT.data=.fields ts/\ts[3]? = some fl/\(p->vs[2]? = some .none)
structure Kp (ch fs:Ld)(h h':Heap):Prop where
 keep:∀ b o,b∉ch->b∉fs->h.get? b=some o->h'.get? b=some o
 slot:∀ b o,b∉ch->h.get? b=some o->∃ sl,h'.get? b=some { o with slots:=sl }
theorem Kp.trans {ch ch' fs:Ld}{h h1 h2:Heap}(a:Kp ch fs h h1)(b:Kp ch' fs h1 h2):Kp (ch++ch') fs h h2 where
 keep:=λx o hx hf q=>b.keep x o (λz=>hx (uE _ z)) hf (a.keep x o (λz=>hx (uW _ z)) hf q)
 slot:=λx o hx q=>by
  obtain⟨sl,q1⟩:=a.slot x o (λz=>hx (uW _ z)) q
  obtain⟨sl',q2⟩:=b.slot x _ (λz=>hx (uE _ z)) q1
  exact⟨sl',q2⟩
theorem Kp.mono {ch ch' fs fs':Ld}{h h1:Heap}(a:Kp ch fs h h1)(h1':∀ b∈ch,b∈ch')(h2':∀ b∈fs,b∈fs'):Kp ch' fs' h h1:= ⟨λb o hx hf q=>a.keep b o (λz=>hx (h1' b z)) (λz=>hf (h2' b z)) q,λb o hx q=>a.slot b o (λz=>hx (h1' b z)) q⟩
section
variable {M:Model} {A:Around} {E:Value->Shared->Prop} {s:Shared}
theorem Wn {base:Heap}{env:Env}{outer:List Env}{L e:Addr}{cls head:Value}{d:Option Addr}{vs:Array Value}{sl:Array (Option Value)}{nx:Bool}{p:Prop}{Q:Unit->Shared->Prop}
  (hfr:A.frames=some (env::outer)) (hl:s.heap.FunFrames base (env::outer)) (hf:env.frame=some L) (he:s.heap.get? e=some ⟨cls,d,.fields vs,sl⟩) (hv:1<vs.size) (hp:p->vs[2]? = some .none)
  (k:∀ h' T,s.heap.objs.size<=T->Fly p h' e T cls d (rawInt L)->Kp [e] (frs (env::outer)) s.heap h'->Q () { s with heap:=h' }) :
  wpAny M A (do let a ← frameOf env;let pl ← entryPlaceOf L nx;let b ← EntryCells.newEntry head a .none (rawInt L) .none pl;setField (.ref e) 1 b) Q E s:=by
 have ne:e∉(env::outer).filterMap (·.frame):=λhm=>by
  obtain⟨_,o,ho,hn⟩:=hl.mem hm
  rw [he] at ho
  cases ho
  exact hn vs rfl
 refine ua (wpAny_frameOf_fun hfr hl hf λg hg=>ua (wpAny_entryPlaceOf λpl hpl=>?_))
 have e1:g.get? e=some ⟨cls,d,.fields vs,sl⟩:=(hg.2.1 e ne).trans he
 unfold EntryCells.newEntry newFields
 refine ua (Uh ?_ (hpl.sizeOk5 _ _ _ _ _))
 generalize hT:({ cls:=.type "traceback",dict:=none,data:=.fields ([head,.ref L,.none,rawInt L,.none]++(if pl.isEmpty then List.replicate 6 Value.none else pl)).toArray }:Obj)=tb
 have e2:=uc (h:=g) tb e1
 have tn:g.objs.size≠e:=Ge (ue e1)
 refine Ut e2 rfl hv (k _ g.objs.size ?_ ?_ ?_)
 ·rw [hg.1];exact uk _
 ·refine⟨sl,_,tb,([head,.ref L,.none,rawInt L,.none]++(if pl.isEmpty then List.replicate 6 Value.none else pl)).toArray,uU _ e2 (by rfl),by simp [hv],tn,?_,by rw [← hT],by simp,λz=>by simpa [UC] using hp z⟩
  rw [uo _ _ (Ne.symm tn)]
  exact um g (by rw [← hT];rfl)
 ·refine⟨λb o hb hfs q=>?_,λb o hb q=>?_⟩
  ·have hbe:b≠e:=λz=>hb (by simp [z])
   rw [uo _ _ (Ne.symm hbe)]
   exact uc _ ((hg.2.1 b hfs).trans q)
  ·have hbe:b≠e:=λz=>hb (by simp [z])
   obtain⟨sl',q'⟩:=hg.2.2 b o q
   refine⟨sl',?_⟩
   rw [uo _ _ (Ne.symm hbe)]
   exact uc _ q'
theorem km {base:Heap}{env:Env}{outer:List Env}{L e:Addr}{cls:Value}{d:Option Addr}{vs:Array Value}{sl:Array (Option Value)}{p:Prop}{Q:Unit->Shared->Prop} (hfr:A.frames=some (env::outer)) (hl:s.heap.FunFrames base (env::outer)) (hf:env.frame=some L) (he:s.heap.get? e=some ⟨cls,d,.fields vs,sl⟩) (hv:vs[1]? = some .none) (hp:p->vs[2]? = some .none) (k:∀ h' T,s.heap.objs.size<=T->Fly p h' e T cls d (rawInt L)->Kp [e] (frs (env::outer)) s.heap h'->Q () { s with heap:=h' }):wpAny M A (noteFrame (.ref e) env) Q E s:=by unfold noteFrame;simp only [hf];refine ua (uJ he rfl hv ?_);rw [ub (by decide)];exact Wn hfr hl hf he (u6.mp hv).1 hp k
theorem Wo {base:Heap}{env:Env}{outer:List Env}{L e T:Addr}{cls:Value}{d:Option Addr}{p:Prop}{Q:Unit->Shared->Prop} (hfr:A.frames=some (env::outer)) (hl:s.heap.FunFrames base (env::outer)) (hf:env.frame=some L) (F:Fly p s.heap e T cls d .none) (k:∀ h' T',s.heap.objs.size<=T'->Fly p h' e T' cls d (rawInt L)->Kp [T,e] (frs (env::outer)) s.heap h'->Q () { s with heap:=h' }):wpAny M A (noteFrame (.ref e) env) Q E s:=by
 obtain⟨sl,vs,oT,ts,he,hv,tn,hT,hd,h3,hp⟩:=F;unfold noteFrame;simp only [hf];refine ua (uJ he rfl hv ?_);rw [uf (show(Value.ref T != Value.none)=true by simp)];refine ua (uJ hT hd h3 ?_);rw [ub (show ¬ (Value.none == rawInt L)=true by simp [rawInt])];refine ua (Ut hT hd (u6.mp h3).1 ?_);have oth:∀ b,b≠T->(s.heap.update T (Obj.mapFields (·.setIfInBounds 3 Value.none))).get? b=s.heap.get? b:=λb hb=>uo _ _ (Ne.symm hb);have nT:∀ b o,s.heap.get? b=some o->(∀ ws,o.data≠.fields ws)->b≠T:=λb o q hn z=>by rw [z,hT] at q;cases q;exact hn ts hd
 have hsz:(s.heap.update T (Obj.mapFields (·.setIfInBounds 3 Value.none))).objs.size=s.heap.objs.size:=(GL s.heap T _).1;refine Wn (base:=base) hfr (hl.of_keeps λb o q hn=>⟨o,(oth b (nT b o q hn)).trans q,rfl⟩) hf ((oth e (Ne.symm tn)).trans he) (u6.mp hv).1 hp λh' T' g1 g2 g3=>?_;refine k h' T' (by rw [← hsz];exact g1) g2 ⟨λb o hb hfs q=>?_,λb o hb q=>?_⟩
 ·exact g3.keep b o (λz=>hb (uP _ z)) hfs ((oth b λz=>hb (by simp [z])).trans q)
 ·exact g3.slot b o (λz=>hb (uP _ z)) ((oth b λz=>hb (by simp [z])).trans q)
theorem jE {e T:Addr}{cls fl:Value}{d:Option Addr}{p:Prop}{Q:Unit->Shared->Prop}(F:Fly p s.heap e T cls d fl)(k:∀ h',Fly p h' e T cls d .none->Kp [T] [] s.heap h'->h'.objs.size=s.heap.objs.size->Q () { s with heap:=h' }):wpAny M A (setFlight (.ref e) none) Q E s:=by obtain⟨sl,vs,oT,ts,he,hv,tn,hT,hd,h3,hp⟩:=F;have h3':=(u6.mp h3).1;unfold setFlight;refine ua (uJ he rfl hv ?_);rw [uf (show(Value.ref T != Value.none)=true by simp)];have oth:∀ b,b≠T->(s.heap.update T (Obj.mapFields (·.setIfInBounds 3 Value.none))).get? b=s.heap.get? b:=λb hb=>uo _ _ (Ne.symm hb);refine Ut hT hd h3' (k _ ⟨sl,vs,_,_,(oth e (Ne.symm tn)).trans he,hv,tn,uU _ hT (GB (UQ hd _)),UQ hd _,by simp [h3'],hp⟩ ?_ (GL s.heap T _).1);exact⟨λb o hb _ q=>(oth b λz=>hb (by simp [z])).trans q,λb o hb q=>⟨o.slots,(oth b λz=>hb (by simp [z])).trans q⟩⟩
theorem ZG {env:Env}{L e T:Addr}{cls:Value}{d:Option Addr}{p:Prop}{Q:Unit->Shared->Prop}(hf:env.frame=some L)(F:Fly p s.heap e T cls d (rawInt L))(k:Q () s):wpAny M A (noteFrame (.ref e) env) Q E s:=by obtain⟨sl,vs,oT,ts,he,hv,tn,hT,hd,h3,hp⟩:=F;unfold noteFrame;simp only [hf];refine ua (uJ he rfl hv ?_);rw [uf (show(Value.ref T != Value.none)=true by simp)];refine ua (uJ hT hd h3 ?_);rw [uf (show(rawInt L == rawInt L)=true from Uq _)];exact ud k
theorem za4 {env:Env}{L e T:Addr}{cls fl:Value}{d:Option Addr}{p:Prop}{Q:Unit->Shared->Prop}(hf:env.frame=some L)(F:Fly p s.heap e T cls d fl)(k:∀ h',Fly p h' e T cls d (rawInt L)->Kp [T] [] s.heap h'->Q () { s with heap:=h' }):wpAny M A (setFlight (.ref e) env.frame) Q E s:=by obtain⟨sl,vs,oT,ts,he,hv,tn,hT,hd,h3,hp⟩:=F;have h3':=(u6.mp h3).1;unfold setFlight;rw [hf];refine ua (uJ he rfl hv ?_);rw [uf (show(Value.ref T != Value.none)=true by simp)];have oth:∀ b,b≠T->(s.heap.update T (Obj.mapFields (·.setIfInBounds 3 (rawInt L)))).get? b=s.heap.get? b:=λb hb=>uo _ _ (Ne.symm hb);refine Ut hT hd h3' (k _ ⟨sl,vs,_,_,(oth e (Ne.symm tn)).trans he,hv,tn,uU _ hT (GB (UQ hd _)),UQ hd _,by simp [h3'],hp⟩ ?_);exact⟨λb o hb _ q=>(oth b λz=>hb (by simp [z])).trans q,λb o hb q=>⟨o.slots,(oth b λz=>hb (by simp [z])).trans q⟩⟩
theorem Yp {env:Env}{L e T:Addr}{cls:Value}{d:Option Addr}{p:Prop}{Q:Unit->Shared->Prop}(hf:env.frame=some L)(F:Fly p s.heap e T cls d (rawInt L))(k:∀ h',Fly p h' e T cls d .none->Kp [T] [] s.heap h'->Q () { s with heap:=h' }):wpAny M A (leaving env (.ref e)) Q E s:=by unfold leaving;exact ua (ZG hf F (jE F λh2 f1 f2 f3=>k h2 f1 f2))
theorem X1 {base:Heap}{env:Env}{outer:List Env}{L e:Addr}{cls:Value}{d:Option Addr}{vs:Array Value}{sl:Array (Option Value)}{p:Prop}{Q:Unit->Shared->Prop} (hfr:A.frames=some (env::outer)) (hl:s.heap.FunFrames base (env::outer)) (hf:env.frame=some L) (he:s.heap.get? e=some ⟨cls,d,.fields vs,sl⟩) (hv:vs[1]? = some .none) (hp:p->vs[2]? = some .none) (k:∀ h' T,s.heap.objs.size<=T->Fly p h' e T cls d .none->Kp [e] (frs (env::outer)) s.heap h'->Q () { s with heap:=h' }):wpAny M A (leaving env (.ref e)) Q E s:=by
 unfold leaving;refine ua (km hfr hl hf he hv hp λh1 T g1 g2 g3=>jE (s:={ s with heap:=h1 }) g2 λh2 f1 f2 f3=>k h2 T g1 f1 ⟨λb o hb hfs q=>?_,λb o hb q=>?_⟩)
 all_goals
  have hbT:b≠T:=λz=>absurd (ue q) (by rw [z];exact GH.mpr g1)
 ·exact f2.keep b o (by simpa using hbT) (by simp) (g3.keep b o hb hfs q)
 ·obtain⟨sl',q'⟩:=g3.slot b o hb q;obtain⟨sl2,q2⟩:=f2.slot b _ (by simpa using hbT) q';exact⟨sl2,q2⟩
theorem Yq {base:Heap}{env:Env}{outer:List Env}{L e T:Addr}{cls:Value}{d:Option Addr}{p:Prop}{Q:Unit->Shared->Prop} (hfr:A.frames=some (env::outer)) (hl:s.heap.FunFrames base (env::outer)) (hf:env.frame=some L) (F:Fly p s.heap e T cls d .none) (k:∀ h' T',s.heap.objs.size<=T'->Fly p h' e T' cls d .none->Kp [T,e] (frs (env::outer)) s.heap h'->Q () { s with heap:=h' }):wpAny M A (leaving env (.ref e)) Q E s:=by
 unfold leaving;refine ua (Wo hfr hl hf F λh1 T' g1 g2 g3=>jE (s:={ s with heap:=h1 }) g2 λh2 f1 f2 f3=>k h2 T' g1 f1 ⟨λb o hb hfs q=>?_,λb o hb q=>?_⟩)
 all_goals
  have hbT:b≠T':=λz=>absurd (ue q) (by rw [z];exact GH.mpr g1)
 ·exact f2.keep b o (by simpa using hbT) (by simp) (g3.keep b o hb hfs q)
 ·obtain⟨sl',q'⟩:=g3.slot b o hb q;obtain⟨sl2,q2⟩:=f2.slot b _ (by simpa using hbT) q';exact⟨sl2,q2⟩
end
end L2
namespace L2
open PySem PySem.Spec PySem.Calls PyProof.Rows PySem.W
noncomputable abbrev vBM:Lf:=[.type "ValueError",.type "Exception",.type "BaseException",.type "object"]
noncomputable def wV (K:Frag)(C:Addr):Bool:=match K.lookup C with
 | none=>false
 | some o=>o.cls == .type "type"&&match o.data with
  | .cls c=>(match c.mro,o.slots.toList with | .ref B::m,[_,_,_,_,some (.builtin n),_]=>B == C&&n == "ValueError.__new__"&&!c.hasDel&&tailIn K vBM m&&nsOkIn K c.ns | _,_=>false)
  | _=>false
noncomputable def Ql (K:Frag)(C:Addr):Option (Option Value):=(clsIn K C).bind λc=>nsIn K c.ns "__init__"
theorem Yr {K:Frag}{h:Heap}{N:Addr}{x:Str}{v:Value}(X:K.In h)(e:nsOkIn K N=true)(q:nsIn K N x=some (some v)):h.nsMap N x=some v:=by
 obtain⟨o,es,ep,ho,hd,_,hf⟩:=(Heap.Ns.of_isNs (isNs_of_in X e):h.Ns N (h.nsMap N))
 unfold nsIn at q;split at q
 ·rename_i c d es' n' sl z;have:=X _ _ z;rw [ho] at this;cases this;cases hd;split at q
  ·rename_i en he;rw [← hf];unfold nsFind findBy;rw [← Array.find?_toList,he];cases q;rfl
  ·split at q<;>cases q
 ·cases q
theorem ye {K:Frag}{h:Heap}{C:Addr}(X:K.In h)(e:wV K C=true):∃ nm q N bs bm hd sn sub ab col dd k0 k1 k2 k3 k5 cd, h.get? C=some (excClassObj nm q C N bs bm hd sn sub ab col dd k0 k1 k2 k3 k5 "ValueError.__new__")/\clsIn K C=some cd/\cd.mro=.ref C::bm/\cd.ns=N/\cd.hasDict=hd/\OwnTail h vBM bm/\nsOkIn K N=true:=by
 unfold wV at e;cases hl:K.lookup C with
 | none=>rw [hl] at e;cases e
 | some o=>
  rw [hl] at e;simp only [uI,Uk] at e;obtain⟨hc,e⟩:=e;cases hd:o.data with
  | cls c=>
   rw [hd] at e;simp only at e;split at e
   ·rename_i B m k0 k1 k2 k3 n k5 hm hs;simp only [uI,Uk,Bool.not_eq_true'] at e;obtain⟨⟨⟨⟨hB,rfl⟩,hdel⟩,ht⟩,hok⟩:=e;obtain rfl:C=B:=hB.symm;have hci:clsIn K C=some c:=by unfold clsIn;obtain⟨oc,od,oda,osl⟩:=o;dsimp only at hd;subst hd;rw [hl]
    obtain⟨oc,od,oda,osl⟩:=o;dsimp only at hc hd hs;subst hc hd;have z:osl = #[k0,k1,k2,k3,some (.builtin "ValueError.__new__"),k5]:=by obtain⟨l⟩:=osl;simp only at hs;rw [hs]
    subst z;have hh:=X _ _ hl;obtain⟨nm,bs,mro,ns,qn,hdc,sn,sub,ab,col,del⟩:=c;dsimp only at hm hdel hok;subst hm hdel;exact⟨nm,qn,ns,bs,m,hdc,sn,sub,ab,col,od,k0,k1,k2,k3,k5,⟨nm,bs,.ref C::m,ns,qn,hdc,sn,sub,ab,col,false⟩,hh,hci,rfl,rfl,rfl,tail_of_in X ht,hok⟩
   ·cases e
  | _=>rw [hd] at e;simp at e
section
variable {prog:Program} {w:World} {A:Around} {E:Value->Shared->Prop} {K:Frag} {C:Addr}
theorem zd3 {h:Heap}{g:Array GenState}{d:Drawn}{t:Nat}{os:OsState}{rest:Lf}{fI:Addr}{oI:Obj}{Q:Fin->Shared->Prop}(X:K.In h)(e:wV K C=true)(hi:Ql K C=some (some (.ref fI)))(hf:K.lookup fI=some oI) (hfc:oI.cls=.type "function") (hr:rest.length<=sizeLine) (hq:∀ h' x,h.objs.size<=x->Heap.MadeExcOf h h' x (.ref C) rest->wpAny (model prog w) A (call (.ref fI) (.ref x::rest)) (λr s'=>r=.none/\Q (.done (.ret (.ref x))) s') E ⟨h',g,d,t,os⟩) : wpAny (model prog w) A (Builtin.«type.__call__» ⟨.ref C::rest,[]⟩) Q E ⟨h,g,d,t,os⟩:=by
 obtain⟨nm,q,N,bs,bm,hd,sn,sub,ab,col,dd,k0,k1,k2,k3,k5,cd,hC,hcd,hmro,hns,_,T,hok⟩:=ye X e;have F:=GI;have hi':nsIn K N "__init__" = some (some (.ref fI)):=by unfold Ql at hi;rw [hcd] at hi;rw [← hns];exact hi
 have hn:h.Ns N (h.nsMap N):=Heap.Ns.of_isNs (isNs_of_in X hok);have hm:=Yr X hok hi';have hfI:=X _ _ hf;generalize h.nsMap N=mN at hn hm
 repeat (first | (with_reducible refine uG hC ?_) | (with_reducible refine wpAny_madeBy_exc hC ?_) | wp_step)
 refine codeAny_call_builtin_code (Code.quiet_builtin _ F.quiet) (wpAny_check_new_subT F T hC (codeAny_exc_new_subT F T hC ?_ hr));show wpAny (model prog w) _ _ _ _ _;have up:∀ b o,h.get? b=some o->((h.push ({ cls:=.type "tuple",data:=.seq rest.toArray }:Obj)).push ({ cls:=.ref C,data:=.fields #[.ref h.objs.size,.none,.none,.none,.bool false,.none] }:Obj)).get? b=some o:=λb o z=>uc ({ cls:=.ref C,data:=.fields #[.ref h.objs.size,.none,.none,.none,.bool false,.none] }:Obj) (uc ({ cls:=.type "tuple",data:=.seq rest.toArray }:Obj) z);have hC1:=up _ _ hC;have hfI1:=up _ _ hfI;have hn1:((h.push ({ cls:=.type "tuple",data:=.seq rest.toArray }:Obj)).push ({ cls:=.ref C,data:=.fields #[.ref h.objs.size,.none,.none,.none,.bool false,.none] }:Obj)).Ns N mN:=hn.keeps up;have T1:=T.keeps up;have hget:((h.push ({ cls:=.type "tuple",data:=.seq rest.toArray }:Obj)).push ({ cls:=.ref C,data:=.fields #[.ref h.objs.size,.none,.none,.none,.bool false,.none] }:Obj)).get? (h.objs.size+1)=some ({ cls:=.ref C,data:=.fields #[.ref h.objs.size,.none,.none,.none,.bool false,.none] }:Obj):=by have:=um (h.push ({ cls:=.type "tuple",data:=.seq rest.toArray }:Obj)) (o:=({ cls:=.ref C,data:=.fields #[.ref h.objs.size,.none,.none,.none,.bool false,.none] }:Obj)) rfl;rwa [gN] at this
 have hcC:(Value.ref C::bm).contains (.ref C)=true:=by simp
 unfold isInstance
 repeat (first | (with_reducible refine uG hget ?_) | (with_reducible refine UO hC1 ?_;rw [hcC]) | wp_step)
 show wpAny (model prog w) _ (typeLookup (.ref C) _) _ _ _;refine wpAny_typeLookup_tail hC1 hn1 T1 F.mroIs F.init.lookup ?_;rw [hm];refine uX (ua ?_);unfold bindSpecial;refine ua (gm (T:="function") ⟨_,hfI1,hfc⟩ ?_);rw [uf (by decide)];refine ud (ua (uj (hq _ (h.objs.size+1) (Gu _) ⟨up,gi (Gu _),h.objs.size,hget,gi (uk _),?_⟩) (λr s' z=>?_) λ_ _ z=>z))
 ·exact uc _ (um h rfl)
 ·obtain⟨rfl,z⟩:=z
  wp_walk;exact z
theorem X2 {s:Shared}{rest:Lf}{fI:Addr}{oI:Obj}{Q:Value->Shared->Prop}(X:K.In s.heap)(e:wV K C=true)(hi:Ql K C=some (some (.ref fI)))(hf:K.lookup fI=some oI)(hfc:oI.cls=.type "function")(hr:rest.length<=sizeLine) (hq:∀ h' x,s.heap.objs.size<=x->Heap.MadeExcOf s.heap h' x (.ref C) rest->wpAny (model prog w) (A.under (.builtin "type.__call__" ⟨.ref C::rest,[]⟩)) (call (.ref fI) (.ref x::rest)) (λr s'=>r=.none/\Q (.ref x) s') E { s with heap:=h' }) : wpAny (model prog w) A (call (.ref C) rest) Q E s:=by
 obtain⟨h,g,d,t,os⟩:=s;obtain⟨nm,q,N,bs,bm,hd,sn,sub,ab,col,dd,k0,k1,k2,k3,k5,cd,hC,_⟩:=ye X e;have f1:=tc_lookup;have f2:=tc_bind (.ref C);have hT:(⟨h,g,d,t,os⟩:Shared).TypeIs (.ref C) "type":=⟨_,hC,rfl⟩
 refine Ua (codeAny_of_tree ?_);show wpAny (model prog w) _ (callAny (.ref C) _) _ _ _
 repeat (any_goals (first | assumption | (with_reducible refine uG hC ?_) | wp_step))
 exact⟨rfl,codeAny_call_builtin_at (Code.quiet_builtin _ (by decide +kernel)) entry_typeCall (wpAny_check_type_call_sub hC (zd3 X e hi hf hfc hr λh' x y z=>hq h' x y z))⟩
end
end L2
namespace L2
open PySem PySem.Spec PySem.Calls PyProof.Rows PySem.W Builtin Builtin.ObjectAttr
section
variable {prog:Program} {w:World} {A:Around} {E:Value->Shared->Prop} {K:Frag} {C x:Addr} {s:Shared}
theorem zbZ {rest:Lf}{vs:Array Value}{sl:Array (Option Value)}{dd:Option Addr}{Q:Value->Shared->Prop}(X:K.In s.heap)(e:wV K C=true)(hx:s.heap.get? x=some ⟨.ref C,dd,.fields vs,sl⟩){t0:Addr}(h0:vs[0]? = some (.ref t0))(hr:rest.length<=sizeLine) (hq:∀ h',(∀ b o,b≠x->s.heap.get? b=some o->h'.get? b=some o)->h'.get? x=some ⟨.ref C,dd,.fields (vs.setIfInBounds 0 (.ref s.heap.objs.size)),sl⟩->Q .none { s with heap:=h' }) : wpAny (model prog w) A (call (.builtin "ValueError.__init__") (.ref x::rest)) Q E s:=by
 obtain⟨h,g,d,t,os⟩:=s;obtain⟨nm,q,N,bs,bm,hd,sn,sub,ab,col,dd',k0,k1,k2,k3,k5,cd,hC,hcd,hmro,hns,_,T,hok⟩:=ye X e;have F:=GI;refine Ua (gn F.init.plain F.initEntry (wpAny_check_init_subT F T hC hx rfl ?_));have hx1:(h.push ({ cls:=.type "tuple",data:=.seq rest.toArray }:Obj)).get? x=some ⟨.ref C,dd,.fields vs,sl⟩:=uc _ hx;have hz:0<vs.size:=(u6.mp h0).1
 repeat (first | (with_reducible refine uJ hx1 rfl h0 ?_) | (with_reducible refine Ut hx1 rfl hz ?_) | wp_step)
 refine hq _ (λb o hb z=>?_) ?_
 ·exact(uo _ _ (Ne.symm hb)).trans (uc _ z)
 ·exact uU _ hx1 rfl
theorem zd4 {h:Heap}{self:Value}{l:Lf}(T:OwnTail h vBM l):refuseLoop self "__setattr__" l=pure ():=by
 induction T with
 | base=>exact PySem.F.store_ValueError.passes self
 | own _ _ _ _ ih=>rw [refuseLoop_ref];exact ih
theorem K2 {ox:Obj}{od:Option Obj}{name:Str}{tk:Tok}{v:Value}{R:Result->Shared->Prop}(X:K.In s.heap)(I:InstAt s.heap x ox C od)(e:wV K C=true)(ha:findIn K (.ref C) name=some none)
  (h:∀ b,wpAny (model prog w) A.in1 (storeInOwnDict (.ref x) (.ref C) (.str name tk) name v b)
   (λfin s'=>match fin with | .done f=>R (.ok f) s' | .again c'=>c'.quiet=true/\codeAny (model prog w) A c' R s') (λe s'=>R (.error e) s') s) :
  codeAny (model prog w) A (.call (.builtin "object.__setattr__") ⟨[.ref x,.str name tk,v],[]⟩) R s:=by
 have SF:=PySem.F.store_object
 obtain⟨nm,q,N,bs,bm,hd,sn,sub,ab,col,dd',k0,k1,k2,k3,k5,cd,hC,hcd,hmro,hns,_,T,hok⟩:=ye X e
 have hobj:cd.mro.contains (.type "object")=true:=by rw [hmro,UW,T.hasType (X:="object") (b:=true) (by decide +kernel),Uz]
 have sub:Looks (model prog w) s.heap (isInstance (.ref x) (.type "object")) true:=I.type.andThen (gU X (by unfold mroIn;rw [hcd,UJ,ub (by rw [hmro];simp),hobj]))
 refine gn SF.slot.plain SF.entry (@check_slot (model prog w) _ _ s "object.__setattr__" "object" "__setattr__" (.ref x) [.str name tk,v] [] _ SF.kind SF.split sub (SF.args (.ref x) (.str name tk) v) ?_)
 have hm:Looks (model prog w) s.heap (mroOf (.ref C)) cd.mro:=(looks_clsIn X hcd).andThen .now
 rw [osa_eq,refuse_eq]
 refine ua (ua (I.type.here (ua (hm.here ?_))))
 rw [hmro,refuseLoop_ref,zd4 T]
 exact ud (ua (I.type.here (ua ((gL X ha).here (ua (ud (h _)))))))
theorem X3 {M:Model}{d:Addr}{mA:La}{ns:Lh}{name:Str}{tk:Tok}{v:Value}{Q:Fin->Shared->Prop}(hns:s.heap.Ns1 d mA)(hw:Within mA ns)(hz:ns.length<sizeLine) (hq:∀ h' tk',h'.Ns1 d (λy=>if y=name then some v else mA y)->Heap.SameBut d s.heap h'->Q (.done (.ret .none)) { s with heap:=h',toks:=tk' }):wpAny M A (storeInDict d (.str name tk) name v) Q E s:=by obtain⟨h,g,dr,t,os⟩:=s;unfold storeInDict newKeyGuard;refine ua (ud (ua (wpAny_nsSet1 hns λh' hn' hs=>?_)));obtain⟨oD,es,ep,ho,hd,hc⟩:=hn'.count (Within.cons name v hw);refine ua (wpAny_lookBehind ho (by rw [hd];exact pastItsLine_dict (ux hc (by rw [uu];lia))) ?_);exact ud (hq h' _ hn' hs)
theorem zd5 {M:Model}{vs:Array Value}{sl:Array (Option Value)}{Q:Option Addr->Shared->Prop}(X:K.In s.heap)(hx:s.heap.get? x=some ⟨.ref C,none,.fields vs,sl⟩)(e:wV K C=true)(hh:hasDictIn K C=true) (hq:Q (some s.heap.objs.size) { s with heap:=(s.heap.push ({ cls:=.type "dict",data:=.dict #[] }:Obj)).update x λo=>{ cls:=o.cls,dict:=some s.heap.objs.size,data:=o.data,slots:=o.slots } }):wpAny M A (ownDictForStores (.ref x)) Q E s:=by
 obtain⟨h,g,dr,t,os⟩:=s;obtain⟨nm,q,N,bs,bm,hd,sn,sub,ab,col,dd',k0,k1,k2,k3,k5,cd,hC,hcd,hmro,hns,hdd,T,hok⟩:=ye X e;have hT:hd=true:=by obtain⟨cd',hc',hd'⟩:=gy hh;rw [hcd] at hc';cases hc';rw [← hdd];exact hd'
 subst hT;have hx1:(h.push ({ cls:=.type "dict",data:=.dict #[] }:Obj)).get? x=some ⟨.ref C,none,.fields vs,sl⟩:=uc _ hx
 repeat (first | (with_reducible refine uG hx ?_) | (with_reducible refine uG hC ?_) | (with_reducible refine wpAny_update' hx1 ?_) | wp_step)
 exact hq
theorem zd6 {M:Model}{vs:Array Value}{sl:Array (Option Value)}{d:Addr}{Q:Option Addr->Shared->Prop}(X:K.In s.heap)(hx:s.heap.get? x=some ⟨.ref C,some d,.fields vs,sl⟩)(e:wV K C=true)(hh:hasDictIn K C=true) (hq:Q (some d) s):wpAny M A (ownDictForStores (.ref x)) Q E s:=by
 obtain⟨h,g,dr,t,os⟩:=s;obtain⟨nm,q,N,bs,bm,hd,sn,sub,ab,col,dd',k0,k1,k2,k3,k5,cd,hC,hcd,hmro,hns,hdd,T,hok⟩:=ye X e;have hT:hd=true:=by obtain⟨cd',hc',hd'⟩:=gy hh;rw [hcd] at hc';cases hc';rw [← hdd];exact hd'
 subst hT
 repeat (first | (with_reducible refine uG hx ?_) | (with_reducible refine uG hC ?_) | wp_step)
 exact hq
theorem zb0 {vs:Array Value}{sl:Array (Option Value)}{name:Str}{v:Value}{Q:Unit->Shared->Prop}(X:K.In s.heap)(hx:s.heap.get? x=some ⟨.ref C,none,.fields vs,sl⟩)(e:wV K C=true)(hh:hasDictIn K C=true) (hsa:findIn K (.ref C) "__setattr__" = some (some (.builtin "object.__setattr__"))) (ha:findIn K (.ref C) name=some none) (hq:∀ h' d tk,s.heap.objs.size<=d->h'.get? x=some ⟨.ref C,some d,.fields vs,sl⟩->h'.Ns1 d (λy=>if y=name then some v else none)->(∀ b o,b≠x->s.heap.get? b=some o->h'.get? b=some o)->Q () { s with heap:=h',toks:=tk }) : wpAny (model prog w) A (setAttr (.ref x) name v) Q E s:=by
 have I:InstAt s.heap x ⟨.ref C,none,.fields vs,sl⟩ C none:=⟨hx,rfl,rfl,trivial⟩
 refine Gf X I hsa (K2 (s:={ s with toks:=s.toks+1 }) X I e ha λb=>?_);have hxs:x≠s.heap.objs.size:=Uc (ue hx);have hx1:(s.heap.push ({ cls:=.type "dict",data:=.dict #[] }:Obj)).get? x=some ⟨.ref C,none,.fields vs,sl⟩:=uc _ hx;unfold storeInOwnDict;refine ua (ud ?_);rw [ub (show ¬ (Value.ref C == Value.type "module")=true from λz=>by cases Uk.mp z)];refine ua (zd5 (s:={ s with toks:=s.toks+1 }) X hx e hh ?_)
 have hgd:((s.heap.push ({ cls:=.type "dict",data:=.dict #[] }:Obj)).update x λo=>{ cls:=o.cls,dict:=some s.heap.objs.size,data:=o.data,slots:=o.slots }).get? s.heap.objs.size=some ({ cls:=.type "dict",data:=.dict #[] }:Obj):=
  (GN _ _ _ _ hxs.symm).trans (um _ rfl)
 have hnd:Heap.Ns ((s.heap.push ({ cls:=.type "dict",data:=.dict #[] }:Obj)).update x λo=>{ cls:=o.cls,dict:=some s.heap.objs.size,data:=o.data,slots:=o.slots }) s.heap.objs.size (λ_=>none):=
  ⟨_,#[],_,hgd,rfl,λe he=>absurd he (by simp),λ_=>rfl⟩
 refine X3 (ns:=[]) (GR hnd) Within.nil (by rw [uH];decide) λh' tk' hn hs=>?_;refine hq h' s.heap.objs.size _ (uk _) ((hs.2 x hxs).trans (uU _ hx1 rfl)) hn λb o hb z=>?_;exact(hs.2 b (Uc (ue z))).trans ((GN _ _ _ _ hb).trans (uc _ z))
theorem zb1 {vs:Array Value}{sl:Array (Option Value)}{name:Str}{v:Value}{d:Addr}{mA:La}{ns:Lh}{Q:Unit->Shared->Prop}(X:K.In s.heap)(hx:s.heap.get? x=some ⟨.ref C,some d,.fields vs,sl⟩)(e:wV K C=true)(hh:hasDictIn K C=true) (hsa:findIn K (.ref C) "__setattr__" = some (some (.builtin "object.__setattr__"))) (ha:findIn K (.ref C) name=some none) (hd:s.heap.Ns1 d mA) (hw:Within mA ns) (hz:ns.length<sizeLine) (hq:∀ h' tk,h'.Ns1 d (λy=>if y=name then some v else mA y)->(∀ b o,b≠d->s.heap.get? b=some o->h'.get? b=some o)->Q () { s with heap:=h',toks:=tk }) : wpAny (model prog w) A (setAttr (.ref x) name v) Q E s:=by
 obtain⟨od,es,ep,hod,hrest⟩:=id hd;have I:InstAt s.heap x ⟨.ref C,some d,.fields vs,sl⟩ C (some od):=⟨hx,rfl,rfl,hod⟩
 refine Gf X I hsa (K2 (s:={ s with toks:=s.toks+1 }) X I e ha λb=>?_);unfold storeInOwnDict;refine ua (ud ?_);rw [ub (show ¬ (Value.ref C == Value.type "module")=true from λz=>by cases Uk.mp z)];refine ua (zd6 (s:={ s with toks:=s.toks+1 }) X hx e hh ?_);exact X3 (s:={ s with toks:=s.toks+1 }) hd hw hz λh' tk' hn hs=>hq h' _ hn λb o hb z=>(hs.2 b hb).trans z
end
structure XCl (K:Frag)(C:Addr):Prop where
 sh:wV K C=true
 hd:hasDictIn K C=true
 ga:findIn K (.ref C) "__getattribute__" = some (some (.builtin "BaseException.__getattribute__"))
 gt:findIn K (.ref C) "__getattr__" = some none
 sa:findIn K (.ref C) "__setattr__" = some (some (.builtin "object.__setattr__"))
 ca:findIn K (.ref C) "__class__" = some (some (.builtin "object.__class__"))
 cg:specialIn K (.builtin "object.__class__") "__get__" = some (some (.builtin "getset_descriptor.__get__"))
 ct:takesIn K (.builtin "object.__class__")=some true
noncomputable def zeN (K:Frag)(C:Addr):Bool:=wV K C&&hasDictIn K C&&findIn K (.ref C) "__getattribute__" == some (some (.builtin "BaseException.__getattribute__"))&&findIn K (.ref C) "__getattr__" == some none && findIn K (.ref C) "__setattr__" == some (some (.builtin "object.__setattr__"))&&findIn K (.ref C) "__class__" == some (some (.builtin "object.__class__"))&&specialIn K (.builtin "object.__class__") "__get__" == some (some (.builtin "getset_descriptor.__get__"))&&takesIn K (.builtin "object.__class__") == some true
theorem ZH {K:Frag}{C:Addr}(e:zeN K C=true):XCl K C:=by simp only [zeN,uI,Uk] at e;obtain⟨⟨⟨⟨⟨⟨⟨a,b⟩,c⟩,d⟩,e⟩,f⟩,g⟩,h⟩:=e;exact⟨a,b,c,d,e,f,g,h⟩
theorem XCl.mro {K:Frag}{h:Heap}{C:Addr}(c:XCl K C)(X:K.In h)(T:String)(ht:vBM.contains (.type T)=true):mroIn K C (.type T)=some true:=by obtain⟨nm,q,N,bs,bm,hd,sn,sub,ab,col,dd',k0,k1,k2,k3,k5,cd,hC,hcd,hmro,hns,hdd,OT,hok⟩:=ye X c.sh;unfold mroIn;rw [hcd,UJ,ub (by rw [hmro];simp),hmro,UW,OT.hasType (X:=T) ht,Uz]
section
variable {prog:Program} {w:World} {A:Around} {E:Value->Shared->Prop} {K:Frag} {C x:Addr} {s:Shared} {ox:Obj} {od:Option Obj} {name:Str} {tk:Tok} {fill expr:Bool}
theorem zb2 {Q:Value->Shared->Prop}(X:K.In s.heap)(I:InstAt s.heap x ox C od)(c:XCl K C)
  (h:wpAny (model prog w) A.in1 (Builtin.«object.__getattribute__» ⟨[.ref x,.str name tk],[]⟩) (λfin s'=>match fin with | .done (.ret v)=>wpAny (model prog w) A (handedOut v) Q E s' | _=>False) (λ_ _=>False) s) :
  wpAny (model prog w) A (getAttrBy (.ref x) (.str name tk) fill expr) Q E s:=by
 have L0:=I.type (M:=model prog w)
 unfold getAttrBy
 refine uX (ua (L0.here (ua ((gL X c.ga).here ?_))))
 dsimp only
 have ne:(Value.builtin "BaseException.__getattribute__" == Value.builtin "object.__getattribute__")=false:=by decide +kernel
 rw [ne,U1,ub (by decide)]
 unfold getAttrByItsOwn
 refine ua ((looks_hook (mc:=.ref C) X (r:=none) (by rw [uf (show onTheHeap (.ref C)=true from rfl)];exact c.gt)).here (ua (wpAny_attempt (uX ?_))))
 unfold callGetattribute
 rw [show(expr&&onTheHeap (Value.builtin "BaseException.__getattribute__"))=false from U1 _,ub (by decide)]
 unfold boundAndCalled
 rw [GV.ga.bind]
 refine ua (ud ?_)
 show wpAny _ _ (call (.builtin "BaseException.__getattribute__") [.ref x,.str name tk]) _ _ _
 refine Ua (gn GV.ga.plain PySem.F.entry_bexc_ga ?_)
 refine @check_slot (model prog w) _ _ s "BaseException.__getattribute__" "BaseException" "__getattribute__" (.ref x) [.str name tk] [] _ (by decide +kernel) (by decide +kernel) (L0.andThen (gU X (c.mro X "BaseException" (by decide +kernel)))) (PySem.F.args_bexc_ga _ _) ?_
 refine uj h (λfin s' z=>?_) λ_ _ z=>z.elim
 rcases fin with(_ | _ | _ | _) | _<;>first | exact z | exact z.elim
theorem zd7 {v:Value}{Q:Value->Shared->Prop}(X:K.In s.heap)(I:InstAt s.heap x ox C od)(c:XCl K C)(hf:findObj K C od name=some (.value v))(hh:handedIn v=true)(h:Q v { s with toks:=s.toks+1 }) : wpAny (model prog w) A (getAttr (.ref x) name expr) Q E s:=by refine ua (wpAny_mkText (zb2 (s:={ s with toks:=s.toks+1 }) X I c ?_));have L0:=I.type (M:=model prog w);have L1:=looks_find (M:=model prog w) X I hf;unfold Builtin.«object.__getattribute__»;refine ua (ud (ua (ud (ua (L0.here (s:={ s with toks:=s.toks+1 }) (ua (L1.here (s:={ s with toks:=s.toks+1 }) ?_)))))));refine ud ?_;show wpAny _ _ (handedOut v) _ _ _;rw [handedOut_of hh];exact ud h
theorem za5 {Q:Option Value->Shared->Prop}(X:K.In s.heap)(I:InstAt s.heap x ox C od)(c:XCl K C)(h:Q (some (.ref C)) { s with toks:=s.toks+1 }):wpAny (model prog w) A (getAttr? (.ref x) "__class__") Q E s:=by
 have hf:findObj K C od "__class__" = some (.bind (.builtin "getset_descriptor.__get__") (.builtin "object.__class__")):=by obtain⟨cd,hc,_⟩:=gy c.hd;simp only [findObj,hc,c.ca,c.cg,c.ct,UJ]
 refine ua (wpAny_mkText ?_);unfold getAttrBy?;refine ua (wpAny_attempt (zb2 (s:={ s with toks:=s.toks+1 }) X I c ?_));have L0:=I.type (M:=model prog w);have L1:=looks_find (M:=model prog w) X I hf;unfold Builtin.«object.__getattribute__»;refine ua (ud (ua (ud (ua (L0.here (s:={ s with toks:=s.toks+1 }) (ua (L1.here (s:={ s with toks:=s.toks+1 }) ?_)))))));show wpAny _ _ (holding [.builtin "object.__class__"] (call (.builtin "getset_descriptor.__get__") [.builtin "object.__class__",.ref x,.ref C]) >>= ret) _ _ _;refine ua (uX (Ua (class_get (s:={ s with toks:=s.toks+1 }) (ox:=ox) (od:=od) X I (c.mro X "object" (by decide +kernel)) ?_)));exact ud (handed_on rfl (ud h))
theorem K3 (c:XCl K C):KitX K (.ref x) (.ref C) (λh=>InstAt h x ox C od) where
 ty:=λ_ _ _ I=>I.type
 it:=λ_ h X _=>by
  obtain⟨nm,q,N,bs,bm,hd,sn,sub,ab,col,dd',k0,k1,k2,k3,k5,cd,hC,_⟩:=ye X c.sh
  intro A' Q' E' s' k z
  unfold isType loadHead
  exact ua (wpAny_loadPart (k _ _ hC) (ud z))
 ne:=λh tp dd its n sl X htp=>by
  obtain⟨nm,q,N,bs,bm,hd,sn,sub,ab,col,dd',k0,k1,k2,k3,k5,cd,hC,_⟩:=ye X c.sh
  refine Bool.eq_false_iff.mpr λz=>?_
  have e:C=tp:=Ub (Uk.mp z)
  subst e
  have y:=uB (hC.symm.trans htp)
  injection y with y1
  injection y1 with y1
  exact absurd y1 (by decide)
 ca:=λX I k=>za5 X I c k
theorem za6 {D:Addr}{b:Bool}{Q:Bool->Shared->Prop}(X:K.In s.heap)(hx:s.heap.get? x=some ox)(hxc:ox.cls=.ref C)(c:XCl K C)(d:XCl K D)(hb:mroIn K C (.ref D)=some b)(h:Q b s):wpAny (model prog w) A (excMatches (.ref x) (.ref D)) Q E s:=by
 obtain⟨nm,q,N,bs,bm,hd,sn,sub,ab,col,dd',k0,k1,k2,k3,k5,cd,hD,hcd,hmro,hns,hdd,OT,hok⟩:=ye X d.sh;obtain⟨hp,g,dr,t,os⟩:=s;have f:=tc_notTuple;have L1:=gU (M:=model prog w) X hb;have hcB:(Value.ref D::bm).contains (.type "BaseException")=true:=by rw [UW,OT.hasType (X:="BaseException") (b:=true) (by decide +kernel),Uz]
 have hT:(⟨hp,g,dr,t,os⟩:Shared).TypeIs (.ref D) "type":=⟨_,hD,rfl⟩
 unfold excMatches
 repeat (first | assumption | (with_reducible refine uG hx ?_;rw [hxc]) | (with_reducible refine uG hD ?_) | (with_reducible refine L1.at ?_) | (with_reducible refine UO hD ?_;rw [hcB]) | wp_step)
 cases b<;>(wp_walk;exact h)
theorem Wq {env:Env}{y:Sem Value}{Q:Flow->Shared->Prop}(hh:A.handled=none) (h:wpAny (model prog w) A y (λv s₁=>∃ x dd vs sl,v=.ref x/\K.In s₁.heap/\XCl K C/\s₁.heap.get? x=some ⟨.ref C,dd,.fields vs,sl⟩/\vs[1]? = some .none/\E (.ref x) s₁) E s):wpAny (model prog w) A (raiseStmt env (some y) none) Q E s:=by
 unfold raiseStmt;refine ua (uj h (λv s₁ z=>?_) λ_ _ z=>z);obtain⟨x,dd,vs,sl,rfl,X,c,he,h1,hE⟩:=z;obtain⟨nm,q,N,bs,bm,hd,sn,sub,ab,col,dd',k0,k1,k2,k3,k5,cd,hC,hcd,hmro,hns,hdd,OT,hok⟩:=ye X c.sh;obtain⟨hp,g,d,tk,os⟩:=s₁;have hcB:(Value.ref C::bm).contains (.type "BaseException")=true:=by rw [UW,OT.hasType (X:="BaseException") (b:=true) (by decide +kernel),Uz]
 repeat (first | (with_reducible refine uG he ?_) | (with_reducible refine uG hC ?_) | (with_reducible refine uJ he rfl h1 ?_) | (with_reducible refine UO hC ?_;rw [hcB]) | wp_step)
 exact wpAny_raiseNew_none hh hE
end
end L2
namespace L2
open PySem PySem.Spec PyProof.Rows
noncomputable abbrev XS:=Value->Option Addr->St->Hp->Prop
def One (H:Hp)(d:Option Addr):Prop:=∃ a f v,d=some a/\H a=some (.xd [(f,v)])
def Nw (p:Prop)(h:Heap)(e:Addr)(c:Value)(d:Option Addr):Prop:=∃ sl vs,h.get? e=some ⟨c,d,.fields vs,sl⟩/\vs[1]? = some .none/\(p->vs[2]? = some .none)
def Fl (X:Cx)(E:XS)(e:Value)(s':Shared):Prop:=∃ (ea:Addr) (c:Value) (d:Option Addr) (H':Hp) (pins:List (Addr×Obj)) (σ:St),e=.ref ea/\Inv X pins σ H' s'/\X.s₀.heap.objs.size<=ea/\H' ea=none/\(∀ q∈X.pn,q.1≠ea) /\ (Nw (One H' d) s'.heap ea c d\/∃ T fl,Fly (One H' d) s'.heap ea T c d fl/\(fl=.none\/∃ L,X.env.frame=some L/\fl=rawInt L)/\X.s₀.heap.objs.size<=T/\H' T=none/\∀ q∈X.pn,q.1≠T)/\E c d σ H'
def Thr (X:Cx)(E:XS):Prop:=∀ e s',Fl X E e s'->X.xe e s'
noncomputable def CXE (P:Program)(w:World):CXT:=λouter H s E e s'=>∃ (ea T:Addr) (c:Value) (d:Option Addr) (H':Hp),e=.ref ea/\s.heap.objs.size<=ea/\s.heap.objs.size<=T/\Fly (One H' d) s'.heap ea T c d .none/\H' ea=none/\H' T=none /\ s'.os=s.os/\AllBare s'.gens/\Un (frs outer) [] H H' s.heap s'.heap/\HOk P w H' s'.heap/\E c d H'
section
variable {X:Cx} {pins:List (Addr×Obj)} {σ:St} {H:Hp} {s s':Shared}
theorem Un.kp {fs fs' ch:Ld}{H H':Hp}{h h1 h2:Heap}(u:Un fs [] H H' h h1)(k:Kp ch fs' h1 h2)(hc:∀ b∈ch,h.objs.size<=b)(hf:∀ b∈fs',b∈fs\/h.objs.size<=b):Un fs [] H H' h h2:=by
 have nc:∀ b o,h.get? b=some o->b∉ch:=λb o q z=>absurd (uq (ue q) (hc b z)) (uM _);refine⟨λb o q n hb _=>?_,λb o q n hb _=>?_,u.free,λb o q _=>?_,u.tups,u.frzs,u.tbls⟩
 ·refine k.keep b o (nc b o q) (λz=>?_) (u.keep b o q n hb (by simp));rcases hf b z with z | z
  ·exact hb z
  ·exact absurd (uq (ue q) z) (uM _)
 ·obtain⟨sl,e1⟩:=u.slot b o q n hb (by simp);obtain⟨sl',e2⟩:=k.slot b _ (nc b o q) e1;exact⟨sl',e2⟩
 ·obtain⟨o',e1⟩:=u.there b o q (by simp);obtain⟨sl',e2⟩:=k.slot b _ (nc b o q) e1;exact⟨_,e2⟩
theorem HOk.kp {P:Program}{w:World}{fs ch:Ld}{h1 h2:Heap}(x:HOk P w H h1)(k:Kp ch fs h1 h2)(hc:∀ b∈ch,H b=none)(hf:∀ b∈fs,H b=none):HOk P w H h2:=λa o q=>
 (x a o q).stay (λb u hb z=>by
  have t:∃ v,H b=some v:=by
   rcases hb with rfl | hb
   ·exact⟨o,q⟩
   ·exact⟨_,hb⟩
  obtain⟨v,t⟩:=t
  exact k.keep b u (λy=>by rw [hc b y] at t;cases t) (λy=>by rw [hf b y] at t;cases t) z) (λ_ z=>z) λ_ _ z=>z
theorem Inv.frame (I:Inv X pins σ H s):X.stack=X.outer\/(X.A.frames=some (X.env::X.outer)/\s.heap.FunFrames X.base (X.env::X.outer)/\X.env.frame=some X.env.locals/\frs (X.env::X.outer)=X.env.locals::X.fs):=by
 rcases I.ok.stk with e | ⟨e,hf⟩
 ·exact .inl e
 ·refine .inr ⟨by rw [← e];exact I.ok.frames,by rw [← e];exact I.stack,hf,?_⟩;unfold frs;rw [gb,hf];rfl
theorem zM {P:Program}{w:World}{K:Le}{mg:La}{base:Heap}{N:Lh}{qual:Str}{scope:Scope}{f:Addr}{cd:Value}{A:Around}{outer:List Env}{s:Shared}{H:Hp}{E:XK} : Thr (cxOf (CXE P w) P w K mg base N qual scope f cd A outer s H E) (λc d _ H'=>E c d H'):=by
 intro e s' hF;obtain⟨ea,c,d,H',pins,σ,rfl,I,hea,hHe,_,hv,hE⟩:=hF;have hst:(cxOf (CXE P w) P w K mg base N qual scope f cd A outer s H E).stack=(cxOf (CXE P w) P w K mg base N qual scope f cd A outer s H E).env::outer:=rfl;have hfr:=I.ok.frames;have hl:=I.stack;have hsub:=I.stkSub;have hfree:=I.stkFree;rw [hst] at hfr hl hsub hfree
 have fin:∀ (h':Heap) (T:Addr) (ch:Ld),(s.heap.objs.size<=T/\H' T=none)->Fly (One H' d) h' ea T c d .none->Kp ch (frs ((cxOf (CXE P w) P w K mg base N qual scope f cd A outer s H E).env::outer)) s'.heap h'->(∀ b∈ch,s.heap.objs.size<=b/\H' b=none) ->
   CXE P w outer H s E (.ref ea) { s' with heap:=h' }:=λh' T ch g1 g2 g3 g4=>by
  refine⟨ea,T,c,d,H',rfl,hea,g1.1,g2,hHe,g1.2,I.os,I.bare,?_,I.hok.kp g3 (λb hb=>(g4 b hb).2) hfree,hE⟩
  refine Un.kp (fs:=frs outer) I.base g3 (λb hb=>(g4 b hb).1) λb hb=>?_
  rcases uy.mp (hsub b hb) with z | z
  ·rw [z];exact .inr I.ok.above
  ·exact .inl z
 rcases hv with⟨sl,vs,he,h1,hp⟩ | ⟨T0,fl,hF,hfl,hT,hHT,_⟩
 ·exact X1 hfr hl rfl he h1 hp λh' T g1 g2 g3=>fin h' T [ea] ⟨ux I.sz g1,I.hok.fresh g1⟩ g2 g3 λb hb=>by
   obtain rfl:b=ea:=by simpa using hb
   exact⟨hea,hHe⟩
 ·rcases hfl with hfl | ⟨L,hL,rfl⟩;rotate_left
  ·exact Yp hL hF λh2 f1 f2=>fin h2 T0 [T0] ⟨hT,hHT⟩ f1 (f2.mono (λ_ z=>z) λb z=>absurd z (by simp)) λb hb=>by
    obtain rfl:b=T0:=by simpa using hb
    exact⟨hT,hHT⟩
  subst hfl
  exact Yq hfr hl rfl hF λh' T g1 g2 g3=>fin h' T [T0,ea] ⟨ux I.sz g1,I.hok.fresh g1⟩ g2 g3 λb hb=>by
   rcases uy.mp hb with z | z
   ·subst z;exact⟨hT,hHT⟩
   ·obtain rfl:b=ea:=by simpa using z
    exact⟨hea,hHe⟩
theorem zd8 {E:XS}{e:Value}(I:Inv X pins σ H s)(h:CXE X.prog X.w X.stack H s (λc d H'=>E c d σ H') e s'):Fl X E e s':=by
 obtain⟨ea,T,c,d,H',rfl,h1,h2,hF,n1,n2,ho,hg,hu,hk,hE⟩:=h;have np:∀ a,s.heap.objs.size<=a->∀ q∈X.pn,q.1≠a:=λa z q hq y=>by have:=(I.pin q (uW _ hq)).1;exact absurd (uq (ue this) (y ▸ z)) (uM _)
 exact⟨ea,c,d,H',pins,σ,rfl,I.call' ho hu hk hg (λb z=>absurd z (by simp)),ux I.sz h1,n1,np ea h1,.inr ⟨T,_,hF,.inl rfl,ux I.sz h2,n2,np T h2⟩,hE⟩
end
structure OkX (P:Program)(w:World)(K:Le)(mg:La)(base:Heap)(k:Nat)(x:Str)(ps:Lh)(sp:Sp):Prop where
 ex:∃ (f:Addr) (fd:FuncData),PySem.W.keepIn K (.ref f)=true/\Binds K fd ps []/\mg x=some (.ref f)/\FnOk P w K mg base (CXE P w) k f fd ps sp
section
variable {P:Program} {w:World} {K:Le} {mg:La} {base:Heap}
theorem Df.okX {x:Str}{st:Stmt}{ps N:Lh}{k:Nat}{sp:Sp}(D:Df K mg x st ps)(Sc:zo N ps (zg st))(len:∀ vs H Q E,sp vs H Q E->vs.length=ps.length) (hbody:∀ (f:Addr) (cdv:Value) (A:Around) (outer:List Env) (s:Shared) (H:Hp) (vs:List V) (Q:VK) (E:XK),Room k (A.deeper (envOfC x (zg st) s.heap.objs.size f cdv))->sp vs H Q E -> ∃ t,PSs (cxOf (CXE P w) P w K mg base N x (zg st) f cdv A outer s H E) (zQ st) t/\t { nx:=λ_ H'=>Q .non H',rt:=Q } (start N vs) H):OkX P w K mg base (k+1) x ps sp:=by obtain⟨f,fd,F,b,m⟩:=D.ex;refine⟨f,fd,F.kp,b,m,?_⟩;obtain⟨oc,od,kV,doc,pm,an,cdv,ct,osl,rfl,lk,hcd⟩:=F.ex;exact KS lk hcd Sc len λA outer s H vs Q E hr h=>hbody f cdv A outer s H vs Q E hr h
end
section
variable {X:Cx} {k j:Nat} {x:Str} {ps:Lh} {sp:Sp} {p pos:Pos} {e:Expr} {es:Lg} {t:TA} {E:XS}
noncomputable def Ys (sp:Sp)(E:XS)(t:TA):TE:=λσ H Q=>t σ H λvs H1=>sp vs H1 Q λc d H'=>E c d σ H'
theorem K4 {f:Addr}{fd:FuncData}{pins:List (Addr×Obj)}{σ:St}{H:Hp}{s:Shared}{Q:VK}{us:Lf}{vs:List V}(F:FnOk X.prog X.w X.K X.mg X.base (CXE X.prog X.w) k f fd ps sp)(hr:Room k X.A)(hb:Binds X.K fd ps [])(hx:Thr X E) (I:Inv X pins σ H s) (r:Vals vs us) (h:sp vs H Q λc d H'=>E c d σ H'):wpAny (model X.prog X.w) X.A (call (.ref f) us) (EP X pins σ Q) X.xe s:=by
 have hl:(us++[]).length=ps.length:=by rw [uz,← r.length];exact F.len _ _ _ _ h
 have hb':=hb s us I.kIn hl;rw [uz] at hb';refine Ua (Ue (F.run X.A X.stack s H ⟨us,[]⟩ us vs Q (λc d H'=>E c d σ H') hr I.env0 hb' r h) λr s' hq=>?_);rcases r with e | (u | _ | _ | _)
 ·exact hx e s' (zd8 I hq)
 all_goals first | exact I.after hq | exact False.elim hq
theorem zb3 (hx:Thr X E)(F:OkX X.prog X.w X.K X.mg X.base k x ps sp)(hr:Room j X.A)(hk:k<=j)(ha:PA X (e::es) t)(hg:Gl X x:=by rfl) (hdb:(x == ("__debug__":Str))=false:=by decide) (he:starEach (e::es) X.env=(false,eval e X.env)::starEach es X.env:=by rfl) (hpl:(backTo pos (starEach es X.env)).any (·.1)=false:=by rfl):PE X (.Call (.Name x p) (e::es) [] pos) (Ys sp E t):=by intro pins s σ H Q I h;obtain⟨f,fd,kp,b,m,G⟩:=F.ex;refine uV (jR I hg m ?_ hdb);refine Ug (h₀:=X.base) I.ok.mod.kin kp (thn (ha pos pins s σ H _ I h) λus s1 ⟨vs,H1,I1,r,q⟩=>⟨I1.kIn,?_⟩) he hpl;exact K4 G (hr.mono hk) b hx I1 r q
end
end L2
namespace L2
open PySem PySem.Spec PyProof.Rows PySem.W
noncomputable def ExN (C a:Addr):HO:=.ext λh=>∃ (vs:Array Value) (sl:Array (Option Value)) (t:Addr),h.get? a=some ⟨.ref C,none,.fields vs,sl⟩/\vs[0]? = some (.ref t)/\vs[1]? = some .none/\vs[2]? = some .none/\vs.size=6
noncomputable def ExD (C d a:Addr):HO:=.ext λh=>∃ (vs:Array Value) (sl:Array (Option Value)),h.get? a=some ⟨.ref C,some d,.fields vs,sl⟩/\vs[1]? = some .none/\vs[2]? = some .none/\vs.size=6
theorem zhn {H:Hp}{a:Addr}{o:HO}(e:H a=some o):upd H a o=H:=by
 funext b;unfold upd;split
 ·rename_i z;rw [z,e]
 ·rfl
section
variable {P:Program} {w:World} {H:Hp} {h:Heap} {C d a:Addr}
theorem Yt {vs:Array Value}{sl:Array (Option Value)}{t:Addr}(e:h.get? a=some ⟨.ref C,none,.fields vs,sl⟩)(h0:vs[0]? = some (.ref t))(h1:vs[1]? = some .none/\vs[2]? = some .none/\vs.size=6):jr P w H h a (ExN C a):= ⟨⟨vs,sl,t,e,h0,h1⟩,⟨_,e⟩,λ_ _ ⟨vs,sl,t,e,r⟩ k=>⟨vs,sl,t,k _ e,r⟩⟩
theorem zho {vs:Array Value}{sl:Array (Option Value)}(e:h.get? a=some ⟨.ref C,some d,.fields vs,sl⟩)(h1:vs[1]? = some .none/\vs[2]? = some .none/\vs.size=6):jr P w H h a (ExD C d a):= ⟨⟨vs,sl,e,h1⟩,⟨_,e⟩,λ_ _ ⟨vs,sl,e,r⟩ k=>⟨vs,sl,k _ e,r⟩⟩
end
section
variable {X:Cx} {C B:Addr} {b self name:Str} {e a1:Expr} {es:Lg} {te:TE} {t:TA} {np p1 apos cpos pos pos':Pos} {i:Nat}
noncomputable def Wr (C:Addr):List V->Hp->VK->Prop:=λxs H Q=>∃ a v,xs=[.ref a,v]/\H a=some (ExN C a)/\Q .non H
theorem za7 (c:XCl X.K C):qV X (.builtin "ValueError.__init__") (Wr C):=by
 intro pins s σ H xs us Q I r h;obtain⟨a,v,rfl,ea,q⟩:=h;obtain⟨u1,u2,rfl,r1,r2⟩:=vals2 r;obtain rfl:u1=Value.ref a:=r1;obtain⟨⟨vs,sl,t,e,h0,h1⟩,_⟩:=I.hok a _ ea;refine zbZ I.kIn c.sh e h0 (by show 1<=_;rw [uH];decide) λh' k z=>⟨.non,H,?_,rfl,q⟩
 have I':=I.write (x:=a) (e:=a) (o:=ExN C a) (h':=h') (t':=s.toks) (by rw [ea];exact True.intro) (.inl rfl) k ⟨_,z⟩ (Yt (t:=s.heap.objs.size) z (by
  have:0<vs.size:=(u6.mp h0).1
  simp [this]) (by simpa [UC] using h1))
 rw [zhn ea] at I';exact I'
noncomputable def upIn (K:Frag)(B:Addr):Bool:=specialIn K (.ref B) "__getattribute__" == some (some (.builtin "type.__getattribute__"))&&readsIn K B (.type "type")&&(match findCls K (.ref B) (.type "type") "__init__" with | some (.val v)=>v == .builtin "ValueError.__init__" | _=>false)
theorem Zh {pl:Sem Bool}(hm:X.mg b=some (.ref B))(hu:upIn X.K B=true)(c:XCl X.K C)(ha:PA X (a1::es) t)(hg:Gl X b:=by rfl) (hd:(b == ("__debug__":Str))=false:=by decide)
  (hst:starEach (a1::es) X.env=(false,eval a1 X.env)::starEach es X.env:=by rfl) (hpl:(backTo cpos (starEach es X.env)).any (·.1)=false:=by rfl)
  (ht:eval (.Call (.Attribute (.Name b np) "__init__" apos) (a1::es) [] cpos) X.env=(do
   let ov ← eval (.Name b np) X.env
   standAt apos.atName
   let (f,first) ← holding [ov] (getMethod ov "__init__" pl)
   callWith cpos f first (backTo cpos (starEach (a1::es) X.env)) (backToKw cpos (keywordEach [] X.env))):=by rfl):PE X (.Call (.Attribute (.Name b np) "__init__" apos) (a1::es) [] cpos) (tCB (Wr C) t):=by
 intro pins s σ H Q I h
 simp only [upIn,uI,Uk] at hu
 obtain⟨⟨u1,u2⟩,u3⟩:=hu
 split at u3
 ·rename_i v hv
  obtain rfl:v=.builtin "ValueError.__init__":=Uk.mp u3
  refine UG (pl:=pl) (jR I hg hm (method_cls I.kIn u1 (cls_value I.kIn u2 hv rfl ?_)) hd) ht
  exact callWith_builtin1 (thn (ha cpos pins _ σ H _ (I.tok _) h) λus s1 ⟨vs,H1,I1,r1,q1⟩=>za7 c pins s1 σ H1 vs us Q I1 r1 q1) hst hpl
 ·cases u3
noncomputable def X4 (K:Frag)(C:Addr)(ta tv:TE)(name:Str):TS:=λD σ H=>tv σ H λy H1=>ta σ H1 λx H2=>∃ a,x=.ref a/\H2 a=some (ExN C a)/\∀ d,H2 d=none->d≠a->D.nx σ (upd (upd H2 a (ExD C d a)) d (.xd [(name,y)]))
theorem Zi {o value:Expr}{ta tv:TE}(c:XCl X.K C)(hn:findIn X.K (.ref C) name=some none)(ha:PE X o ta)(hv:PE X value tv)(hs:swapsWith value (some (.Attribute o name pos')) pos.line X.env=pure false:=by rfl) : PS X (.Assign [.Attribute o name pos'] value pos) (X4 X.K C ta tv name):=by
 intro pins s σ H D I h;refine UL (thn (hv pins s σ H _ I h) λu s1 ⟨y,H1,I1,ry,q⟩=>thn (ha pins s1 σ H1 _ I1 q) λov s2 ⟨x,H2,I2,rx,a,ex,ea,q2⟩=>?_) hs;subst ex;obtain rfl:ov=Value.ref a:=rx;obtain⟨⟨vs,sl,t,e,h0,h1⟩,_⟩:=I2.hok a _ ea;refine zb0 I2.kIn e c.sh c.hd c.sa hn λh' d tk g1 g2 g3 g4=>?_;have hn:=I2.hok.fresh g1;have nd:d≠a:=λz=>by rw [z,ea] at hn;cases hn
 refine⟨σ,_,?_,q2 d hn nd⟩
 have u:Un X.fs [] H2 (upd (upd H2 a (ExD C d a)) d (.xd [(name,y)])) s2.heap h':=by
  have na:∀ b,H2 b=none->b≠a:=λb z y=>by rw [y,ea] at z;cases z
  have nd':∀ b o,s2.heap.get? b=some o->b≠d:=λb o z y=>absurd (uq (ue z) (y ▸ g1)) (uM _);have nx:∀ b o,H2 b=some o->b≠d:=λb o z y=>by rw [y,hn] at z;cases z
  refine⟨λb o z n _ _=>g4 b o (na b n) z,λb o z n _ _=>⟨o.slots,g4 b o (na b n) z⟩,λb o z n _=>by rw [zr (nd' b o z),zr (na b n)];exact n,λb o z _=>?_,λb xs z=>?_,λb o u z=>?_,λb ps z=>⟨#[],?_⟩⟩
  ·by_cases hb:b=a
   ·rw [hb];exact⟨_,g2⟩
   ·exact⟨o,g4 b o hb z⟩
  all_goals
   have nb:b≠a:=λy=>by rw [y,ea] at z;cases z
   rw [zr (nx b _ z),zr nb,z]
  simp
 refine I2.un u λb o z=>?_;by_cases hb:b=d
 ·subst hb;rw [zd] at z;cases z;refine⟨_,g3,λf=>?_⟩;by_cases hf:f=name
  ·subst hf;simp only [uf];simpa [List.lookup,RelO] using ry
  ·have:(f == name)=false:=uT.mpr hf;simp only [ub hf,List.lookup,this];trivial
 ·rw [zr hb] at z;by_cases hb2:b=a
  ·subst hb2;rw [zd] at z;cases z;exact zho g2 h1
  ·rw [zr hb2] at z;have nown:∀ c y,H2 c=some (.own y)->c≠a:=λc y r q=>by rw [q,ea] at r;cases r
   have ntup:∀ c y,H2 c=some (.tup y)->c≠a:=λc y r q=>by rw [q,ea] at r;cases r
   have nx:∀ b o,H2 b=some o->b≠d:=λb o z y=>by rw [y,hn] at z;cases z
   refine(I2.hok b o z).stay (λc v hc q=>g4 c v ?_ q) (λc q=>by rw [zr (nx c _ q),zr (nown c _ q)];exact q) λc xs q=>by rw [zr (nx c _ q),zr (ntup c _ q)];exact q
   rcases hc with rfl | hc
   ·exact hb2
   ·exact nown c _ hc
noncomputable def tFs (te:TE):TE:=λσ H Q=>te σ H λv H1=>((∃ n:Int,v=.int n/\0<=n/\n<1000000)\/∃ z:Str,v=.str z/\z.length<=1000000)/\∀ y,Q (.str y) H1
theorem zb4 {a:Str}{j:Nat}{q1 q2 q3:Pos}(he:PE X e te)(ha:a.length<=1000:=by decide +kernel):PE X (.JoinedStr [.Constant (.str a) j q1,.FormattedValue e (-1) none q2] q3) (tFs te):=by
 intro pins s σ H Q I h;refine JoinedStr_many (GC (Calls.Constant_str ⟨?_,?_⟩))
 ·rw [gW,uH];show 0+a.length<=_;lia
 refine GC (FormattedValue_plain (thn (he pins _ σ H _ (I.tok _) h) λu s1 ⟨v,H1,I1,r,hv,q⟩=>?_))
 have fin:∀ (y:Str) (tk:Nat),y.length<=1000001->(Str.empty++a++y).length<=sizeLine/\wpAny (model X.prog X.w) X.A (joinParts (Str.empty++a++y) []) (EP X pins σ Q) X.xe { s1 with toks:=tk }:=λy tk hy=>by
  have hz:(Str.empty++a++y).length<=sizeLine:=by rw [gW,gW,uH];show 0+a.length+y.length<=_;lia
  exact⟨hz,joinParts_nil ⟨.str _,H1,I1.tok _,⟨_,rfl⟩,q _⟩ hz⟩
 rcases hv with⟨n,rfl,n0,n1⟩ | ⟨z,rfl,hz⟩
 ·obtain⟨tk,rfl⟩:=r;refine formatField_int_small (za0 n0 n1) (fin _ _ ?_);have e1:=int_text_length_le10 (a:=n) (k:=7) (by decide) (by lia);show(Str.ofString (toString n)).length<=_;rw [PySem.ofString_length];lia
 ·obtain⟨tk,rfl⟩:=r;exact formatField_str (λt' tk'=>fin _ _ (by lia)) (by rw [uH];lia)
end
noncomputable def K5 (C:Addr)(f:Str)(pay:V->Prop):Sp:=λvs H Q _=>∃ a v,vs=[.ref a,v]/\H a=some (ExN C a)/\pay v/\∀ d,H d=none->d≠a->Q .non (upd (upd H a (ExD C d a)) d (.xd [(f,v)]))
def payT (v:V):Prop:=(∃ n:Int,v=.int n/\0<=n/\n<1000000)\/∃ z:Str,v=.str z/\z.length<=1000000
structure Err (P:Program)(w:World)(K:Frag)(mg:La)(base:Heap)(x:Str)(C:Addr)(f:Str)(pay:V->Prop):Prop where
 gl:mg x=some (.ref C)
 cl:XCl K C
 kp:keepIn K (.ref C)=true
 ex:∃ (fI:Addr) (fd:FuncData) (oI:Obj) (ps:Lh),Ql K C=some (some (.ref fI))/\K.lookup fI=some oI/\oI.cls=.type "function"/\Binds K fd ps []/\FnOk P w K mg base CX0 1 fI fd ps (K5 C f pay)
theorem za8 {K:Frag}{C:Addr}{f p:Str}{a:Addr}{v:V}{H:Hp}{Q:VK}(ea:H a=some (ExN C a))(hp:payT v)(q:∀ d,H d=none->d≠a->Q .non (upd (upd H a (ExD C d a)) d (.xd [(f,v)]))) :
  tSeq (QZ (tCB (Wr C) (yi (tVar 0) (yi (tFs (tVar 1)) tNil)))) (X4 K C (tVar 0) (tVar 1) f) { nx:=λ_ H'=>Q .non H',rt:=Q } (start ["self",p] [.ref a,v]) H:=
 ⟨.ref a,rfl,v,rfl,hp,λy=>⟨a,.str y,rfl,ea,v,rfl,.ref a,rfl,a,rfl,ea,λd h1 h2=>q d h1 h2⟩⟩
section
variable {X:Cx} {E:XS} {C:Addr} {x f:Str} {pay:V->Prop} {e:Expr} {es:Lg} {t:TA} {np cpos pos:Pos} {j:Nat}
noncomputable def Yu (C:Addr)(f:Str)(pay:V->Prop)(E:XS)(t:TA):TS:=λ_ σ H=>t σ H λvs H1=>∃ v,vs=[v]/\pay v/\∀ d H2,Same H1 H2->H1 d=none->H2 d=some (.xd [(f,v)])->E (.ref C) (some d) σ H2
theorem zb5 (hx:Thr X E)(R:Err X.prog X.w X.K X.mg X.base x C f pay)(hr:Room j X.A)(hj:2<=j)(ha:PA X (e::es) t)(hg:Gl X x:=by rfl) (hdb:(x == ("__debug__":Str))=false:=by decide) (he:starEach (e::es) X.env=(false,eval e X.env)::starEach es X.env:=by rfl) (hpl:(backTo cpos (starEach es X.env)).any (·.1)=false:=by rfl) : PS X (.Raise (some (.Call (.Name x np) (e::es) [] cpos)) none pos) (Yu C f pay E t):=by
 intro pins s σ H D I h;have c:=R.cl;rw [gO];refine ua (u5 (Wq (C:=C) (K:=X.K) hr.hd ?_));refine ua (uj (Q:=λv s₁=>∃ x dd vs sl,v=.ref x/\X.K.In s₁.heap/\XCl X.K C/\s₁.heap.get? x=some ⟨.ref C,dd,.fields vs,sl⟩/\vs[1]? = some .none/\X.xe (.ref x) s₁) ?_ (λv s₁ h₁=>ua (u5 (ud h₁))) λ_ _ z=>z);refine uV (jR I hg R.gl ?_ hdb);refine Ug (h₀:=X.base) I.ok.mod.kin R.kp (thn (ha cpos pins s σ H _ I h) λus s1 ⟨vs,H1,I1,r,v,hvs,hp,q⟩=>⟨I1.kIn,?_⟩) he hpl;subst hvs;obtain⟨u,rfl,rv⟩:=vals1 r;obtain⟨fI,fd,oI,ps,i1,i2,i3,hb,F⟩:=R.ex;refine X2 I1.kIn c.sh i1 i2 i3 (by show 1<=_;rw [uH];decide) λh' a g1 g2=>?_;obtain⟨t0,z1,_,_⟩:=g2.there;have n1:=I1.hok.fresh g1;have I2:Inv X pins σ (upd H1 a (ExN C a)) { s1 with heap:=h' }:=I1.laid (t':=s1.toks) g2.keeps g1 (Yt (t:=t0) z1 rfl ⟨rfl,rfl,rfl⟩)
 have hsp:K5 C f pay [.ref a,v] (upd H1 a (ExN C a)) (λw2 H2=>w2=.non/\∃ d,upd H1 a (ExN C a) d=none/\d≠a/\H2=upd (upd (upd H1 a (ExN C a)) a (ExD C d a)) d (.xd [(f,v)])) E0:=
  ⟨a,v,rfl,zd,hp,λd q1 q2=>⟨rfl,d,q1,q2,rfl⟩⟩
 have r2:Vals [V.ref a,v] [Value.ref a,u]:=.cons rfl (.cons rv .nil);have hb':=hb { s1 with heap:=h' } [.ref a,u] I2.kIn (by rw [← F.len _ _ _ _ hsp];rfl);refine Ua (Ue (F.run (X.A.under (.builtin "type.__call__" ⟨.ref C::[u],[]⟩)) X.stack { s1 with heap:=h' } _ ⟨[.ref a,u],[]⟩ _ _ _ _ ((hr.mono hj).make C [u] []) (I2.env0.make C [u] []) hb' (by simpa using r2) hsp) λr s' hq=>?_);rcases r with er | fl
 ·exact False.elim hq
 cases fl with
 | next=>exact False.elim hq
 | brk=>exact False.elim hq
 | cont=>exact False.elim hq
 | ret w2=>
  obtain⟨v2,H2,I3,rv2,rfl,d,q1,q2,rfl⟩:=I2.after hq;refine⟨rv2,a,some d,?_⟩;have hx1:jr X.prog X.w (upd (upd (upd H1 a (ExN C a)) a (ExD C d a)) d (.xd [(f,v)])) s'.heap a (ExD C d a):=I3.hok a _ (by rw [zr (Ne.symm q2),zd]);obtain⟨⟨vs',sl',e1,e2⟩,_⟩:=hx1;refine⟨vs',sl',rfl,I3.kIn,c,e1,e2.1,hx _ _ ?_⟩;have np:∀ q∈X.pn,q.1≠a:=λq hq y=>by have:=(I1.pin q (uW _ hq)).1;exact absurd (uq (ue this) (y ▸ g1)) (uM _)
  have q1':H1 d=none:=by rw [zr q2] at q1;exact q1
  have sa:Same H1 (λb=>if b=a then none else upd (upd (upd H1 a (ExN C a)) a (ExD C d a)) d (.xd [(f,v)]) b):=λb o hb=>by
   have ba:b≠a:=λy=>by rw [y,n1] at hb;cases hb
   have bd:b≠d:=λy=>by rw [y,q1'] at hb;cases hb
   simp only [ub ba];rw [zr bd,zr ba,zr ba];exact hb
  refine⟨a,.ref C,some d,_,[],σ,rfl,?_,ux I1.sz g1,?_,np,.inl ⟨sl',vs',e1,e2.1,λ_=>e2.2.1⟩,q d _ sa q1' ?_⟩
  ·have I4:Inv X [] σ (upd (upd (upd H1 a (ExN C a)) a (ExD C d a)) d (.xd [(f,v)])) s':=I3.pins_of λp hp=>absurd hp (by simp)
   have key:∀ b o,(λb=>if b=a then none else upd (upd (upd H1 a (ExN C a)) a (ExD C d a)) d (.xd [(f,v)]) b) b=some o->b≠a/\upd (upd (upd H1 a (ExN C a)) a (ExD C d a)) d (.xd [(f,v)]) b=some o:=λb o z=>by
    by_cases hb:b=a
    ·simp [hb] at z
    ·simp only [ub hb] at z;exact⟨hb,z⟩
   have back:∀ b o,b≠a->upd (upd (upd H1 a (ExN C a)) a (ExD C d a)) d (.xd [(f,v)]) b=some o->(λb=>if b=a then none else upd (upd (upd H1 a (ExN C a)) a (ExD C d a)) d (.xd [(f,v)]) b) b=some o:=λb o hb z=>by simp only [ub hb];exact z
   have nex:∀ b o,upd (upd (upd H1 a (ExN C a)) a (ExD C d a)) d (.xd [(f,v)]) b=some o->(∀ φ,o≠.ext φ)->b≠a:=λb o z no y=>by rw [y,zr (Ne.symm q2),zd] at z;cases z;exact no _ rfl
   refine I4.step (h':=s'.heap) (g':=s'.gens) (t':=s'.toks) (d':=s'.drawn) (ch:=[]) (λ_ z=>absurd z (by simp)) (λb o _ _ _ z _=>z) (λb o _ _ _ z _=>⟨o.slots,z⟩) (λb o _ _ z=>?_) (λb o _ z=>⟨o,z⟩) (λb xs z=>back b _ (nex b _ z λ_ y=>by cases y) z) (λb o u z=>back b _ (nex b _ z λ_ y=>by cases y) z)
    (λb ps z=>⟨#[],by rw [Gd];exact back b _ (nex b _ z λ_ y=>by cases y) z⟩) (λm z=>z) (λb o z=>?_) I4.bare
   ·by_cases hb:b=a
    ·simp [hb]
    ·simp only [ub hb];exact z
   ·obtain⟨hb,z⟩:=key b o z;exact(I4.hok b o z).stay (λ_ _ _ y=>y) (λc y=>back c _ (nex c _ y λ_ y=>by cases y) y) λc xs y=>back c _ (nex c _ y λ_ y=>by cases y) y
  ·simp
  ·simp only [ub q2];rw [zd]
end
section
variable {X:Cx} {pins:List (Addr×Obj)} {σ:St} {H:Hp} {s:Shared}
def Ours (X:Cx)(b:Addr):Prop:=X.s₀.heap.objs.size<=b/\b≠X.env.locals/\(∀ x c,X.env.cells.lookup x=some c->c≠b)/\∀ p∈X.pn,p.1≠b
theorem vI (I:Inv X pins σ H s){b:Addr}{o:Obj}{vs:Array Value}(e:s.heap.get? b=some o)(hd:o.data=.fields vs)(h0:X.s₀.heap.objs.size<=b)(hp:∀ p∈X.pn,p.1≠b):Ours X b:=by
 refine⟨h0,λz=>?_,λx c hc z=>?_,hp⟩
 ·obtain⟨m,⟨o',es,ep,e',d',_⟩,_⟩:=I.loc;rw [← z,e] at e';cases e';rw [hd] at d';cases d'
 ·obtain⟨v,o',e',d'⟩:=I.cell x c hc;rw [z,e] at e';cases e';rw [hd] at d';cases d'
theorem Jc (I:Inv X pins σ H s){b:Addr}(h:s.heap.objs.size<=b):Ours X b:=by
 refine⟨ux I.sz h,λz=>absurd I.lt (by rw [← z];exact GH.mpr h),λx c hc z=>?_,λp hp z=>?_⟩
 ·obtain⟨v,o',e',d'⟩:=I.cell x c hc;exact absurd (uq (ue e') (z ▸ h)) (uM _)
 ·have:=(I.pin p (uW _ hp)).1;exact absurd (uq (ue this) (z ▸ h)) (uM _)
theorem Inv.kp {h':Heap}{H':Hp}{ch:Ld}(I:Inv X [] σ H s)(k:Kp ch (frs X.stack) s.heap h')(hc:∀ b∈ch,Ours X b/\H b=none)(hH:∀ b,b∉ch->H' b=H b)(hok:HOk X.prog X.w H' h'):Inv X [] σ H' { s with heap:=h' }:=by
 have nt:∀ b o,H b=some o->b∉ch:=λb o z y=>by rw [(hc b y).2] at z;cases z
 refine I.step (h':=h') (g':=s.gens) (t':=s.toks) (d':=s.drawn) (ch:=ch) (λb hb=>?_) (λb o n1 n2 n3 z _=>?_) (λb o n1 n2 n3 z _=>k.slot b o n3 z) (λb o n3 z n=>by rw [hH b n3];exact n) (λb o n3 z=>let ⟨sl,q⟩:=k.slot b o n3 z;⟨_,q⟩)
  (λb xs z=>by rw [hH b (nt b _ z)];exact z) (λb o u z=>by rw [hH b (nt b _ z)];exact z) (λb ps z=>⟨#[],by rw [hH b (nt b _ z),Gd];exact z⟩) (λm hm=>?_) hok I.bare
 ·obtain⟨a1,a2,a3,a4⟩:=(hc b hb).1;exact⟨.inr a1,a2,a3,λp hp=>(UA.mp hp).elim (a4 p) λz=>absurd z (by simp)⟩
 ·exact k.keep b o n3 (λy=>(uy.mp (I.stkSub b y)).elim n1 n2) z
 ·obtain⟨o,es,ep,ho,r⟩:=hm;obtain⟨sl,q⟩:=k.slot _ o (λz=>(hc _ z).1.2.1 rfl) ho;exact⟨_,es,ep,q,r⟩
theorem Inv.lost {h':Heap}{tk:Nat}{m':La}(I:Inv X pins σ H s)(hn:h'.Ns X.env.locals m')(hs:Heap.SameBut X.env.locals s.heap h'):Inv X pins (σ.map λ_=>none) H { s with heap:=h',toks:=tk }:=by
 have lt:∀ b o,X.s₀.heap.get? b=some o->b≠X.env.locals:=λb o e=>Uc (uq (ue e) I.ok.above);refine⟨I.ok,I.os,I.bare,⟨λb o e n hb hx=>?_,λb o e n hb hx=>?_,I.base.free,λb o e hx=>?_,I.base.tups,I.base.frzs,I.base.tbls⟩,⟨_,hn,λj y v' e1 e2 e3=>?_⟩,λy c e=>?_,I.free,I.freeC,λp hp=>?_,λb ob e=>?_,by simpa using I.len⟩
 ·exact(hs.2 b (lt b o e)).trans (I.base.keep b o e n hb hx)
 ·obtain⟨sl,e1⟩:=I.base.slot b o e n hb hx;exact⟨sl,(hs.2 b (lt b o e)).trans e1⟩
 ·obtain⟨o',e1⟩:=I.base.there b o e hx;exact⟨o',(hs.2 b (lt b o e)).trans e1⟩
 ·rw [Um] at e2;cases q:σ[j]? with
  | none=>rw [q] at e2;cases e2
  | some z=>rw [q] at e2;cases e2
 ·obtain⟨w',z⟩:=I.cell y c e;exact⟨w',z.sameBut hs (I.cne y c e)⟩
 ·obtain⟨e,n,ne,nf,d⟩:=I.pin p hp;exact⟨(hs.2 p.1 ne).trans e,n,ne,nf,d⟩
 ·refine(I.hok b ob e).stay (λc w' hc q=>(hs.2 c ?_).trans q) (λ_ q=>q) λ_ _ q=>q;rintro rfl;rcases hc with rfl | hc
  ·rw [I.free] at e;cases e
  ·rw [I.free] at hc;cases hc
noncomputable abbrev Cx.tryIn (X:Cx)(pn:List (Addr×Obj))(xe:Value->Shared->Prop):Cx:={ X with pn:=pn,xe:=xe }
noncomputable abbrev Cx.exInG (X:Cx)(pn:List (Addr×Obj))(ea:Addr)(xe:Value->Shared->Prop):Cx:={ X with pn:=pn,A:=X.A.mark (some (.ref ea)),calm:=false,xe:=xe }
noncomputable abbrev Cx.exIn (X:Cx)(pn:List (Addr×Obj))(ea:Addr):Cx:=X.exInG pn ea λ_ _=>False
theorem Cx.Ok.tryIn (ok:X.Ok)(pn:List (Addr×Obj))(xe:Value->Shared->Prop):(X.tryIn pn xe).Ok:= ⟨ok.mod,ok.kind,ok.glob,ok.blt,ok.above,ok.inj,ok.has,ok.cab,ok.hd,ok.frames,ok.stk,ok.exf,ok.bs,ok.bsz,ok.noex,ok.exfs,ok.funs,ok.frf⟩
theorem Cx.Ok.exIn (ok:X.Ok)(pn:List (Addr×Obj))(ea:Addr)(xe:Value->Shared->Prop):(X.exInG pn ea xe).Ok:=
 ⟨ok.mod,ok.kind,ok.glob,ok.blt,ok.above,ok.inj,ok.has,ok.cab,λz=>absurd (show false=true from z) (by decide),ok.frames,ok.stk,ok.exf,ok.bs,ok.bsz,ok.noex,ok.exfs,ok.funs,ok.frf⟩
theorem Inv.tryIn (I:Inv X pins σ H s)(xe:Value->Shared->Prop):Inv (X.tryIn (X.pn++pins) xe) [] σ H s:=⟨I.ok.tryIn _ _,I.os,I.bare,I.base,I.loc,I.cell,I.free,I.freeC,λp hp=>I.pin p (by simpa using hp),I.hok,I.len⟩
theorem Inv.untry {xe:Value->Shared->Prop}(ok:X.Ok)(I:Inv (X.tryIn (X.pn++pins) xe) [] σ H s):Inv X pins σ H s:=⟨ok,I.os,I.bare,I.base,I.loc,I.cell,I.free,I.freeC,λp hp=>I.pin p (by simpa using hp),I.hok,I.len⟩
theorem Inv.toEx {xe xe':Value->Shared->Prop}(ok:X.Ok)(ea:Addr)(I:Inv (X.tryIn (X.pn++pins) xe) [] σ H s):Inv (X.exInG (X.pn++pins) ea xe') [] σ H s:=⟨ok.exIn _ _ _,I.os,I.bare,I.base,I.loc,I.cell,I.free,I.freeC,I.pin,I.hok,I.len⟩
theorem Inv.unEx {ea:Addr}{xe:Value->Shared->Prop}(ok:X.Ok)(I:Inv (X.exInG (X.pn++pins) ea xe) [] σ H s):Inv X pins σ H s:=⟨ok,I.os,I.bare,I.base,I.loc,I.cell,I.free,I.freeC,λp hp=>I.pin p (by simpa using hp),I.hok,I.len⟩
end
def vn (H:Hp)(a C:Addr)(d:Option Addr):Prop:=∃ o,H a=some (.frz o (.own a))/\o.cls=.ref C/\o.dict=d/\∃ vs,o.data=.fields vs
def Pla (H:Hp)(a:Addr):Prop:=∃ o vs,H a=some (.frz o (.own a))/\o.data=.fields vs/\vs[2]? = some .none
def FlN (X:Cx)(E:XS)(e:Value)(s':Shared):Prop:=∃ (ea:Addr) (c:Value) (d:Option Addr) (H':Hp) (σ:St),e=.ref ea/\Inv X [] σ H' s'/\X.s₀.heap.objs.size<=ea/\H' ea=none/\(∀ q∈X.pn,q.1≠ea)/\Nw (One H' d) s'.heap ea c d/\E c d σ H'
noncomputable abbrev zb6 (D:Ends):Ends:={ nx:=λσ2 H2=>D.nx (σ2.map λ_=>none) H2,rt:=D.rt,bk:=λσ2 H2=>D.bk (σ2.map λ_=>none) H2,ct:=λσ2 H2=>D.ct (σ2.map λ_=>none) H2 }
noncomputable def tTry (K:Frag)(Dc:Addr)(i:Nat)(tb:XS->TS)(th:TS):TS:=λD σ H=>
 tb (λc d σ' H'=>∃ C,c=.ref C/\XCl K C/\mroIn K C (.ref Dc)=some true/\∀ ea H2,Same H' H2->vn H2 ea C d->th { nx:=λσ2 H2=>D.nx (σ2.map λ_=>none) H2,rt:=D.rt,bk:=λσ2 H2=>D.bk (σ2.map λ_=>none) H2,ct:=λσ2 H2=>D.ct (σ2.map λ_=>none) H2 } (σ'.set i (some (.ref ea))) H2) D σ H
noncomputable def zb7 (K:Frag)(Dc:Addr)(i:Nat)(tb:XS->TS)(th:Addr->TS):TS:=λD σ H=>
 tb (λc d σ' H'=>∃ C,c=.ref C/\XCl K C/\mroIn K C (.ref Dc)=some true/\One H' d/\∀ ea H2,Same H' H2->vn H2 ea C d->Pla H2 ea->th ea (zb6 D) (σ'.set i (some (.ref ea))) H2) D σ H
section
variable {X:Cx} {Dc:Addr} {x n:Str} {i:Nat} {tb:XS->TS} {th:TS} {body suite:List Stmt} {b₀:Stmt} {np hpos pos:Pos}
def Outs (X:Cx)(ea:Addr)(n:Str)(hpos:Pos)(e:Value)(s3:Shared):Prop:=
 wpAny (model X.prog X.w) (X.A.mark (some (.ref ea))) (noteFrame e X.env) (λ_ s4=>wpAny (model X.prog X.w) (X.A.mark (some (.ref ea))) (do bindName X.env n .none;unbindBehindTheSuite X.env n hpos)
  (λ_ s5=>wpAny (model X.prog X.w) (X.A.mark (some (.ref ea))) (PySem.passOn "try.except-as" e X.env:Sem Flow) (λ_ _=>False) (notedBy (model X.prog X.w) (X.A.mark (some (.ref ea))) X.env (cameBackBy (model X.prog X.w) X.A X.env X.xe)) s5)
  (λy s5=>wpAny (model X.prog X.w) (X.A.mark (some (.ref ea))) (setFlight e none) (λ_ s6=>(notedBy (model X.prog X.w) (X.A.mark (some (.ref ea))) X.env (cameBackBy (model X.prog X.w) X.A X.env X.xe)) y s6) (notedBy (model X.prog X.w) (X.A.mark (some (.ref ea))) X.env (cameBackBy (model X.prog X.w) X.A X.env X.xe)) s5) s4)
  (notedBy (model X.prog X.w) (X.A.mark (some (.ref ea))) X.env (cameBackBy (model X.prog X.w) X.A X.env X.xe)) s3
theorem za9 {pins:List (Addr×Obj)}{ea:Addr}{E:XS}{e:Value}{s3:Shared}(ok:X.Ok)(hl:X.env.scope.names.lookup n=some .local)(hst:X.stack=X.env::X.outer)(hf:X.env.frame=some X.env.locals)(hx:Thr X E) (h:FlN (X.exIn (X.pn++pins) ea) (λc d σ H=>E c d (σ.map λ_=>none) H) e s3):Outs X ea n hpos e s3:=by
 obtain⟨x,c,d,H',σ,rfl,I,hx0,hHx,hpn,⟨sl,vs,he,h1,hp⟩,hE⟩:=h;have hfr:(X.A.mark (some (.ref ea))).frames=some (X.env::X.outer):=by rw [← hst];exact ok.frames
 have hlf:s3.heap.FunFrames X.base (X.env::X.outer):=by rw [← hst];exact I.stack
 have hfree:∀ b∈frs (X.env::X.outer),H' b=none:=by rw [← hst];exact I.stkFree
 have ox:=vI I he rfl hx0 hpn;refine km (p:=One H' d) hfr hlf hf he h1 hp λh4 T g1 g2 g3=>?_;have oT:=Jc I g1;have nT:=I.hok.fresh g1;have xT:x≠T:=λz=>absurd (ue he) (by rw [z];exact GH.mpr g1);have I4:Inv (X.exIn (X.pn++pins) ea) [] σ H' { s3 with heap:=h4 }:=I.kp (by rw [hst];exact g3) (λb hb=>by rw [show b=x by simpa using hb];exact⟨ox,hHx⟩) (λ_ _=>rfl) (I.hok.kp g3 (λb hb=>by rw [show b=x by simpa using hb];exact hHx) hfree);obtain⟨m,hn,_⟩:=I4.loc;refine wpAny_nameGoes hl hn (by rw [I4.ok.kind];rfl) λh5 m' z1 z2=>?_;have I5:Inv X [] (σ.map λ_=>none) H' { s3 with heap:=h5,toks:=s3.toks+1 }:=((I4.unEx ok).lost z1 z2).pins_of λp hp=>absurd hp (by simp);have F5:Fly (One H' d) h5 x T c d (rawInt X.env.locals):=by obtain⟨sl',vs',oT',ts,he',hv',tn,hT',hd',h3'⟩:=g2;exact⟨sl',vs',oT',ts,(z2.2 x ox.2.1).trans he',hv',tn,(z2.2 T oT.2.1).trans hT',hd',h3'⟩
 have tail:∀ (h6:Heap),Inv X [] (σ.map λ_=>none) H' { s3 with heap:=h6,toks:=s3.toks+1 }->Fly (One H' d) h6 x T c d (rawInt X.env.locals)->∀ (Q:Unit->Shared->Prop) (A:Around) (E':Value->Shared->Prop),(∀ h7,Inv X [] (σ.map λ_=>none) H' { s3 with heap:=h7,toks:=s3.toks+1 }->Fly (One H' d) h7 x T c d (rawInt X.env.locals)->Q () { s3 with heap:=h7,toks:=s3.toks+1 }) ->
   wpAny (model X.prog X.w) A (setFlight (.ref x) X.env.frame) Q E' { s3 with heap:=h6,toks:=s3.toks+1 }:=λh6 J F Q A E' k=>
  za4 (s:={ s3 with heap:=h6,toks:=s3.toks+1 }) hf F λh7 f1 f2=>k h7 (Inv.kp (s:={ s3 with heap:=h6,toks:=s3.toks+1 }) J (f2.mono (λ_ z=>z) λb z=>absurd z (by simp)) (λb hb=>by rw [show b=T by simpa using hb];exact⟨⟨oT.1,oT.2.1,oT.2.2.1,λp hp=>oT.2.2.2 p (uW _ hp)⟩,nT⟩) (λ_ _=>rfl)
   (J.hok.kp (fs:=[]) f2 (λb hb=>by rw [show b=T by simpa using hb];exact nT) λb z=>absurd z (by simp))) f1
 obtain⟨sl5,vs5,oT5,ts5,he5,hv5,_⟩:=id F5;unfold PySem.passOn;refine ua (uJ he5 rfl hv5 ?_);rw [ub (show ¬ (Value.ref T == Value.none)=true by simp)];refine ua (tail h5 I5 F5 _ _ _ λh6 I6 F6=>wpAny_throw ?_);refine ZG hf F6 ?_;obtain⟨sl6,vs6,oT6,ts6,he6,hv6,_⟩:=id F6;unfold cameBackBy;refine ua (uJ he6 rfl hv6 ?_);rw [ub (show ¬ (Value.ref T == Value.none)=true by simp)];refine tail h6 I6 F6 _ _ _ λh7 I7 F7=>hx _ _ ⟨x,c,d,H',[],_,rfl,I7,hx0,hHx,λq hq=>hpn q (uW _ hq),.inr ⟨T,_,F7,.inr ⟨_,hf,rfl⟩,oT.1,nT,λq hq=>oT.2.2.2 q (uW _ hq)⟩,hE⟩
theorem K6 {th:Addr->TS}{xe':List (Addr×Obj)->Addr->Value->Shared->Prop}{pins:List (Addr×Obj)}{s:Shared}{σ:St}{H:Hp}{D:Ends}{Ex:XS}(hm:X.mg x=some (.ref Dc))(cD:XCl X.K Dc)(hN:X.N.Nodup)(hi:X.N[i]? = some n)(hl:X.env.scope.names.lookup n=some .local)(hst:X.stack=X.env::X.outer)(hf:X.env.frame=some X.env.locals) (hb:∀ (E:XS) (pn:List (Addr×Obj)) (xe:Value->Shared->Prop),PassesOwn (model X.prog X.w) X.A X.env xe->Thr (X.tryIn pn xe) E->PSs (X.tryIn pn xe) body (tb E)) (hh:∀ pn ea,PSs (X.exInG pn ea (xe' pn ea)) (b₀::suite) (th ea)) (hxe:∀ ea e s3,xe' (X.pn++pins) ea e s3->Outs X ea n hpos e s3) (hg:Gl X x) (hdb:(x == ("__debug__":Str))=false) (I:Inv X pins σ H s) (h:tb Ex D σ H) (hE:∀ c d σ' H',Ex c d σ' H'->∃ C,c=.ref C/\XCl X.K C/\mroIn X.K C (.ref Dc)=some true/\∀ ea H2,Same H' H2->vn H2 ea C d->(One H' d->Pla H2 ea)->th ea (zb6 D) (σ'.set i (some (.ref ea))) H2) : wpAny (model X.prog X.w) X.A (exec (.Try body [.ExceptHandler (some (.Name x np)) (some n) (b₀::suite) hpos] [] [] pos) X.env) (SP X pins D) X.xe s:=by
 refine wpAny_Try_except ?_
 refine uj (hb _ (X.pn++pins) (λe s₁=>wpAny (model X.prog X.w) X.A (noteFrame e X.env) (λ_ s₂=>wpAny (model X.prog X.w) X.A (setFlight e none) (λ_ s₃=>
  wpAny (model X.prog X.w) X.A (handleBy e X.env [.ExceptHandler (some (.Name x np)) (some n) (b₀::suite) hpos]) (SP X pins D) X.xe s₃) X.xe s₂) X.xe s₁) PassesOwn.looking ?_ [] s σ H D (I.tryIn _) h) (λf s1 q=>?_) λe s1 z=>z
 ·intro e s' hF;obtain⟨ea,c,d,H',pins',σ',rfl,I1',hea,hHe,hpn,hv,hEx⟩:=hF;obtain⟨C,rfl,cC,hmr,hth⟩:=hE _ _ _ _ hEx;have I1:Inv (X.tryIn (X.pn++pins) _) [] σ' H' s':=I1'.pins_of λp hp=>absurd hp (by simp);clear I1';have hfr:X.A.frames=some (X.env::X.outer):=by rw [← hst];exact I.ok.frames
  have hlf:s'.heap.FunFrames X.base (X.env::X.outer):=by rw [← hst];exact I1.stack
  have hfree:∀ b∈frs (X.env::X.outer),H' b=none:=by rw [← hst];exact I1.stkFree
  have go:∀ (h2:Heap) (T:Addr) (ch:Ld),(s'.heap.objs.size<=T\/True)->Fly (One H' d) h2 ea T (.ref C) d .none->Kp ch (frs (X.env::X.outer)) s'.heap h2->ea∈ch->T∈ch->(∀ b∈ch,Ours (X.tryIn (X.pn++pins) λ_ _=>True) b/\H' b=none) ->
    wpAny (model X.prog X.w) X.A (handleBy (.ref ea) X.env [.ExceptHandler (some (.Name x np)) (some n) (b₀::suite) hpos]) (SP X pins D) X.xe { s' with heap:=h2 }:=by
   intro h2 T ch g1 g2 g3 m1 m2 g4
   have I2:Inv (X.tryIn (X.pn++pins) _) [] σ' H' { s' with heap:=h2 }:=I1.kp (by rw [hst];exact g3) (λb hb=>⟨(g4 b hb).1,(g4 b hb).2⟩) (λ_ _=>rfl) (I1.hok.kp g3 (λb hb=>(g4 b hb).2) hfree)
   have I3:=I2.toEx (xe':=xe' (X.pn++pins) ea) I.ok ea
   obtain⟨sl,vs,oT,ts,he,hv1,tn,hT,hd,h3,_⟩:=id g2
   refine wpAny_handleBy_cons (codeAny_handlers_test (jR (X:=X.exInG (X.pn++pins) ea (xe' (X.pn++pins) ea)) I3 hg hm ?_ hdb)) (by intro q;cases q)
   refine za6 (s:={ s' with heap:=h2 }) I3.kIn he rfl cC cD hmr ?_
   refine codeAny_handlers_suite_as ?_
   refine jE (s:={ s' with heap:=h2 }) g2 λh4 f1 f2 f3=>?_
   obtain⟨sl4,vs4,oT4,ts4,he4,_,_,_,_,_,hp4⟩:=id f1
   have I4:Inv (X.exInG (X.pn++pins) ea (xe' (X.pn++pins) ea)) [] σ' (upd H' ea (.frz ⟨.ref C,d,.fields vs4,sl4⟩ (.own ea))) { s' with heap:=h4 }:=by
    have k:Kp [ea,T] (frs X.stack) h2 h4:=f2.mono (λb hb=>uP _ hb) (λb hb=>absurd hb (by simp))
    refine Inv.kp (s:={ s' with heap:=h2 }) I3 k (λb hb=>?_) (λb hb=>?_) λb o z=>?_
    ·have:b∈ch:=by
      rcases uy.mp hb with z | z
      ·rw [z];exact m1
      ·rw [show b=T by simpa using z];exact m2
     exact⟨(g4 b this).1,(g4 b this).2⟩
    ·exact zr λz=>hb (by simp [z])
    ·by_cases hb:b=ea
     ·subst hb
      rw [zd] at z
      cases z
      exact⟨he4,⟨_,he4⟩⟩
     ·rw [zr hb] at z
      have nT:∀ c u,H' c=some u->c∉[T]:=λc u q y=>by
       rw [show c=T by simpa using y,(g4 T m2).2] at q;cases q
      have ne:∀ c u,H' c=some u->c≠ea:=λc u q y=>by rw [y,hHe] at q;cases q
      refine(I2.hok b o z).stay (λc u hc q=>?_) (λc q=>by rw [zr (ne c _ q)];exact q) λc xs q=>by rw [zr (ne c _ q)];exact q
      rcases hc with rfl | hc
      ·exact f2.keep _ u (nT _ _ z) (by simp) q
      ·exact f2.keep _ u (nT _ _ hc) (by simp) q
   refine yh (X:=X.exInG (X.pn++pins) ea (xe' (X.pn++pins) ea)) I4 hN hi (.inl hl) (v:=.ref ea) rfl (λs5 I5=>?_) (.inr hl)
   have hsm:Same H' (upd H' ea (.frz ⟨.ref C,d,.fields vs4,sl4⟩ (.own ea))):=λb o q=>by rw [zr λy=>by rw [y,hHe] at q;cases q];exact q
   refine uj (hh (X.pn++pins) ea [] s5 _ _ _ I5 (hth ea _ hsm ⟨_,zd,rfl,rfl,_,rfl⟩ λz=>⟨_,_,zd,rfl,hp4 z⟩)) (λf s6 q=>?_) λe s6 z=>hxe ea e s6 z
   have gone:∀ σ6 H6,Inv (X.exInG (X.pn++pins) ea (xe' (X.pn++pins) ea)) [] σ6 H6 s6->(∀ s7,Inv X pins (σ6.map λ_=>none) H6 s7->SP X pins D f s7)->wpAny (model X.prog X.w) X.A (do bindName X.env n .none;unbindBehindTheSuite X.env n hpos) (λ_ s7=>SP X pins D f s7) X.xe s6:=by
    intro σ6 H6 J k
    obtain⟨m,hn,_⟩:=J.loc
    exact wpAny_nameGoes hl hn (by rw [J.ok.kind];rfl) λh' m' z1 z2=>k _ ((J.unEx I.ok).lost z1 z2)
   cases f with
   | next=>obtain⟨σ6,H6,J,q⟩:=q;exact gone σ6 H6 J λs7 J'=>⟨_,H6,J',q⟩
   | brk=>obtain⟨σ6,H6,J,q⟩:=q;exact gone σ6 H6 J λs7 J'=>⟨_,H6,J',q⟩
   | cont=>obtain⟨σ6,H6,J,q⟩:=q;exact gone σ6 H6 J λs7 J'=>⟨_,H6,J',q⟩
   | ret u=>obtain⟨v,σ6,H6,J,r,q⟩:=q;exact gone σ6 H6 J λs7 J'=>⟨v,_,H6,J',r,q⟩
  rcases hv with⟨sl,vs,he,h1,hp⟩ | ⟨T0,fl,hF,hfl,hT,hHT,hpT⟩
  ·refine km hfr hlf hf he h1 hp λh1' T g1 g2 g3=>jE (s:={ s' with heap:=h1' }) g2 λh2 f1 f2 f3=>?_;refine go h2 T ([ea]++[T]) (.inr trivial) f1 (g3.trans (f2.mono (λ_ z=>z) λb z=>absurd z (by simp))) (by simp) (by simp) λb hb=>?_;rcases UA.mp hb with z | z
   ·rw [show b=ea by simpa using z];exact⟨vI I1 he rfl hea hpn,hHe⟩
   ·rw [show b=T by simpa using z];exact⟨Jc I1 g1,I1.hok.fresh g1⟩
  ·obtain⟨sl,vs,oT,ts,he,hv1,tn,hTT,hd,h3,_⟩:=id hF;rcases hfl with hfl | ⟨L,hL,rfl⟩;rotate_left
   ·refine ZG (by exact hL) hF (jE hF λh2 f1 f2 f3=>go h2 T0 [T0,ea] (.inr trivial) f1 (f2.mono (λb z=>by rw [show b=T0 by simpa using z];exact .head _) λb z=>absurd z (by simp)) (by simp) (by simp) λb hb=>?_);rcases uy.mp hb with z | z
    ·rw [z];exact⟨vI I1 hTT hd hT hpT,hHT⟩
    ·rw [show b=ea by simpa using z];exact⟨vI I1 he rfl hea hpn,hHe⟩
   subst hfl;refine Wo hfr hlf hf hF λh1' T g1 g2 g3=>jE (s:={ s' with heap:=h1' }) g2 λh2 f1 f2 f3=>?_;refine go h2 T ([T0,ea]++[T]) (.inr trivial) f1 (g3.trans (f2.mono (λ_ z=>z) λb z=>absurd z (by simp))) (by simp) (by simp) λb hb=>?_;rcases UA.mp hb with z | z
   ·rcases uy.mp z with z | z
    ·rw [z];exact⟨vI I1 hTT hd hT hpT,hHT⟩
    ·rw [show b=ea by simpa using z];exact⟨vI I1 he rfl hea hpn,hHe⟩
   ·rw [show b=T by simpa using z];exact⟨Jc I1 g1,I1.hok.fresh g1⟩
 ·cases f with
  | next=>obtain⟨σ',H',I',q⟩:=q;exact U4 ⟨σ',H',I'.untry I.ok,q⟩
  | brk=>obtain⟨σ',H',I',q⟩:=q;exact⟨σ',H',I'.untry I.ok,q⟩
  | cont=>obtain⟨σ',H',I',q⟩:=q;exact⟨σ',H',I'.untry I.ok,q⟩
  | ret u=>obtain⟨v,σ',H',I',r,q⟩:=q;exact⟨v,σ',H',I'.untry I.ok,r,q⟩
theorem zhp (hm:X.mg x=some (.ref Dc))(cD:XCl X.K Dc)(hN:X.N.Nodup)(hi:X.N[i]? = some n)(hl:X.env.scope.names.lookup n=some .local)(hst:X.stack=X.env::X.outer)(hf:X.env.frame=some X.env.locals)
  (hb:∀ (E:XS) (pn:List (Addr×Obj)) (xe:Value->Shared->Prop),PassesOwn (model X.prog X.w) X.A X.env xe->Thr (X.tryIn pn xe) E->PSs (X.tryIn pn xe) body (tb E))
  (hh:∀ pn ea,PSs (X.exIn pn ea) (b₀::suite) th) (hg:Gl X x:=by rfl) (hdb:(x == ("__debug__":Str))=false:=by decide) :
  PS X (.Try body [.ExceptHandler (some (.Name x np)) (some n) (b₀::suite) hpos] [] [] pos) (tTry X.K Dc i tb th):=λpins s σ H D I h=>
 K6 (th:=λ_=>th) (xe':=λ_ _ _ _=>False) hm cD hN hi hl hst hf hb hh (λ_ _ _ z=>z.elim) hg hdb I h λ_ _ _ _ ⟨C,e,a,b,k⟩=>⟨C,e,a,b,λea H2 z1 z2 _=>k ea H2 z1 z2⟩
theorem zd9 {th:Addr->TS}{E:XS}(hx:Thr X E)(hm:X.mg x=some (.ref Dc))(cD:XCl X.K Dc)(hN:X.N.Nodup)(hi:X.N[i]? = some n)(hl:X.env.scope.names.lookup n=some .local)(hst:X.stack=X.env::X.outer)(hf:X.env.frame=some X.env.locals)
  (hb:∀ (E:XS) (pn:List (Addr×Obj)) (xe:Value->Shared->Prop),PassesOwn (model X.prog X.w) X.A X.env xe->Thr (X.tryIn pn xe) E->PSs (X.tryIn pn xe) body (tb E))
  (hh:∀ pn ea,PSs (X.exInG pn ea (FlN (X.exIn pn ea) λc d σ H=>E c d (σ.map λ_=>none) H)) (b₀::suite) (th ea)) (hg:Gl X x:=by rfl) (hdb:(x == ("__debug__":Str))=false:=by decide) :
  PS X (.Try body [.ExceptHandler (some (.Name x np)) (some n) (b₀::suite) hpos] [] [] pos) (zb7 X.K Dc i tb th):=λpins s σ H D I h=>
 K6 hm cD hN hi hl hst hf hb hh (λea e s3 z=>za9 I.ok hl hst hf hx z) hg hdb I h λ_ _ _ _ ⟨C,e,a,b,o,k⟩=>⟨C,e,a,b,λea H2 z1 z2 z3=>k ea H2 z1 z2 (z3 o)⟩
end
structure Got (K:Frag)(H:Hp)(a C:Addr)(fs:List (Str×V)):Prop where
 cl:XCl K C
 ex:∃ d,vn H a C (some d)/\H d=some (.xd fs)
theorem vn.mono {H H':Hp}{a C:Addr}{d:Option Addr}(c:vn H a C d)(s:Same H H'):vn H' a C d:=by obtain⟨o,e,r⟩:=c;exact⟨o,s _ _ e,r⟩
theorem Got.mono {K:Frag}{H H':Hp}{a C:Addr}{fs:List (Str×V)}(g:Got K H a C fs)(s:Same H H'):Got K H' a C fs:=by obtain⟨d,c,e⟩:=g.ex;exact⟨g.cl,d,c.mono s,s _ _ e⟩
section
variable {X:Cx} {pins:List (Addr×Obj)} {σ:St} {H:Hp} {s:Shared} {a C:Addr} {fs:List (Str×V)}
theorem Jd (I:Inv X pins σ H s)(g:Got X.K H a C fs):∃ (ox od:Obj) (mA:La),InstAt s.heap a ox C (some od)/\(∀ f,lookIn f od=some (mA f))/\∀ f,RelO (fs.lookup f) (mA f):=by
 obtain⟨d,⟨o,e,h1,h2,vs,h3⟩,ed⟩:=g.ex;obtain⟨e',_⟩:=(show jr X.prog X.w H s.heap a (.frz o (.own a)) from I.hok a _ e)
 obtain⟨mA,n,r⟩:=(show jr X.prog X.w H s.heap d (.xd fs) from I.hok d _ ed)
 obtain⟨od,ho,hl⟩:=Wg n;obtain⟨oc,odi,oda,osl⟩:=o;dsimp only at h1 h2 h3;subst h1 h2 h3;exact⟨_,od,mA,⟨e',rfl,rfl,ho⟩,hl,r⟩
noncomputable def isC:V->Bool | .ref _=>true | .ty _=>true | _=>false
noncomputable def clsU:V->Value | .ref a=>.ref a | .ty n=>.type n | _=>.none
theorem K7 {v:V}{u:Value}(h:isC v=true)(r:RelV v u):u=clsU v:=by cases v<;>first | exact r | cases h
theorem X5:∀ {vs:List V} {us:Lf},vs.all isC=true->Vals vs us->us=vs.map clsU
 | _,_,_,.nil=>rfl
 | _,_,h,.cons r t=>by simp only [gZ,uI] at h;rw [uD,← K7 h.1 r,← X5 h.2 t]
noncomputable def rIsX (K:Frag):List V->Hp->VK->Prop:=λxs H Q=>∃ a c C fs b,xs=[.ref a,c]/\Got K H a C fs/\isC c=true/\kitOne K (.ref C) (clsU c)=some b/\Q (.bl b) H
noncomputable def zb8 (K:Frag):List V->Hp->VK->Prop:=λxs H Q=>∃ a p C fs ys b,xs=[.ref a,.ref p]/\H p=some (.tup ys)/\Got K H a C fs/\ys.all isC=true/\kitAny K (.ref C) (ys.map clsU)=some b/\Q (.bl b) H
theorem zb9:qV X (.builtin "isinstance") (rIsX X.K):=by intro pins s σ H xs us Q I r h;obtain⟨a,c,C,fs,b,rfl,g,hc,e,q⟩:=h;obtain⟨u1,u2,rfl,r1,r2⟩:=vals2 r;obtain rfl:u1=Value.ref a:=r1;obtain rfl:=K7 hc r2;obtain⟨ox,od,mA,J,_⟩:=Jd I g;exact kia_one (K3 g.cl) I.kIn J e (λz=>nomatch z) λtk=>⟨.bl b,H,I.tok _,rfl,q⟩
theorem zba:qV X (.builtin "isinstance") (zb8 X.K):=by
 intro pins s σ H xs us Q I r h;obtain⟨a,p,C,fs,ys,b,rfl,ep,g,hc,e,q⟩:=h;obtain⟨u1,u2,rfl,r1,r2⟩:=vals2 r;obtain rfl:u1=Value.ref a:=r1;obtain rfl:u2=Value.ref p:=r2;obtain⟨ox,od,mA,J,_⟩:=Jd I g;obtain⟨_,its,rv,o,ho,hoc,n,hod⟩:=(show jr X.prog X.w H s.heap p (.tup ys) from I.hok p _ ep)
 obtain rfl:=X5 hc rv;obtain⟨oc,odi,oda,osl⟩:=o;dsimp only at hoc hod;subst hoc hod;exact kia_tup (K3 g.cl) I.kIn J ho e (λz=>nomatch z) λtk=>⟨.bl b,H,I.tok _,rfl,q⟩
theorem xm {K:Frag}(hK:X.K=K):qV X (.builtin "isinstance") (rIsX K):=by subst hK;exact zb9
theorem vJ {K:Frag}(hK:X.K=K):qV X (.builtin "isinstance") (zb8 K):=by subst hK;exact zba
noncomputable def tAtX (K:Frag)(te:TE)(f:Str):TE:=λσ H Q=>te σ H λx H1=>∃ a C fs v,x=.ref a/\Got K H1 a C fs/\findIn K (.ref C) f=some none/\fs.lookup f=some v/\Q v H1
theorem zhq {K:Frag}{e:Expr}{te:TE}{f:Str}{pos:Pos}(hK:X.K=K)(he:PE X e te)(hb:attributeBase e f X.env (eval e X.env)=eval e X.env:=by rfl):PE X (.Attribute e f pos) (tAtX K te f):=by subst hK;intro pins s σ H Q I h;refine KR hb (thn (he pins s σ H _ I h) λu s1 ⟨x,H1,I1,rx,a,C,fs,v,ex,g,n,l,q⟩=>?_);subst ex;obtain rfl:u=Value.ref a:=rx;obtain⟨ox,od,mA,J,hl,hr⟩:=Jd I1 g;obtain⟨u,hu,ru⟩:=RelO.some_of (v:=v) (o:=mA f) (by rw [← l];exact hr f);exact zd7 I1.kIn J g.cl (findObj_own g.cl.hd n rfl (by rw [hl,hu])) (Wh ru) ⟨v,H1,I1.tok _,ru,q⟩
end
section
variable {X:Cx}
noncomputable def zhr:List V->Hp->VK->Prop:=λxs H Q=>(∃ i,xs=[.int i,.ty "int"]/\Q (.bl true) H)\/(∃ i,xs=[.bl i,.ty "int"]/\Q (.bl true) H)\/(∃ i,xs=[.str i,.ty "int"]/\Q (.bl false) H)\/(xs=[.non,.ty "int"]/\Q (.bl false) H)
noncomputable def zea:List V->Hp->VK->Prop:=λxs H Q=>(∃ i,xs=[.int i,.ty "bool"]/\Q (.bl false) H)\/(∃ i,xs=[.bl i,.ty "bool"]/\Q (.bl true) H)\/(∃ i,xs=[.str i,.ty "bool"]/\Q (.bl false) H)\/(xs=[.non,.ty "bool"]/\Q (.bl false) H)
noncomputable def zhs:List V->Hp->VK->Prop:=λxs H Q=>(∃ i,xs=[.int i,.ty "str"]/\Q (.bl false) H)\/(∃ i,xs=[.bl i,.ty "str"]/\Q (.bl false) H)\/(∃ i,xs=[.str i,.ty "str"]/\Q (.bl true) H)\/(xs=[.non,.ty "str"]/\Q (.bl false) H)
end
section
variable {X:Cx} {k j:Nat} {x:Str} {ps:Lh} {sp:Sp} {p pos:Pos} {e:Expr} {es:Lg} {t:TA} {a:Addr}
theorem K8 {P:Program}{w:World}:Passes (CXE P w) X E0:=λ_ _ _ _ _ _ _ h=>by obtain⟨_,_,_,_,_,_,_,_,_,_,_,_,_,_,_,z⟩:=h;exact z.elim
theorem zht (h:X.mg x=some (.ref a))(hg:Gl X x:=by rfl) (hd:(x == ("__debug__":Str))=false:=by decide):PE X (.Name x pos) (tC (.ref a)):=KJ hg h rfl hd
end
theorem JX:bootBuiltins "ValueError" = some (.type "ValueError"):=by decide +kernel
structure Ini (K:Frag)(C:Addr)(qual:Str)(st:Stmt)(ps:Lh):Prop where
 ex:∃ (fI:Addr) (fd:FuncData) (oI:Obj),Ql K C=some (some (.ref fI))/\K.lookup fI=some oI/\oI.cls=.type "function"/\Fun K "__init__" qual st fI fd/\Binds K fd ps []
theorem zhu {K:Frag}{C:Addr}{qual:Str}{st:Stmt}{ps:Lh}{f:Addr}{od an:Option Addr}{osl:Array (Option Value)}{kV doc pm cdv ct:Value} (b:∀ (kV doc pm:Value) (an:Option Addr) (cdv ct:Value) (us:Lf),us.length=ps.length->bindArgs (fnOf "__init__" qual (qx st) (zQ st) (zg st) .none kV doc pm an cdv ct) ⟨us,[]⟩=pure (ps.zip us)) (a:Ql K C=some (some (.ref f))) (l:K.lookup f=some ⟨.type "function",od,.func (fnOf "__init__" qual (qx st) (zQ st) (zg st) .none kV doc pm an cdv ct),osl⟩) (c:codeIn K cdv qual=true) (k:keepIn K (.ref f)=true):Ini K C qual st ps:= ⟨f,_,_,a,l,rfl,yk l c k,(yk l c k).binds b⟩
end L2
namespace L2
open PySem PySem.Spec PySem.Calls PyProof.Rows PySem.W
section
variable {X:Cx}
noncomputable def zeb:V->List V->Hp->VK->Prop:=λx vs H Q=>∃ l xs i y,x=.ref l/\vs=[.int i,y]/\H l=some (.lst xs)/\0<=i/\i<=xs.length/\xs.length<sizeLine/\Q .non (upd H l (.lst (xs.take i.toNat++y::xs.drop i.toNat)))
noncomputable def eqS (xs ys:List V):Bool:=(List.range (min xs.length ys.length)).all (λj=>eqV (xs.getD j .non) (ys.getD j .non))&&xs.length == ys.length
noncomputable def rEqS (K:Le):R2:=λx y H Q=>∃ a b xs ys,x=.ref a/\y=.ref b/\((SqL K H a xs/\SqL K H b ys)\/(SqT K H a xs/\SqT K H b ys))/\xs.all zH=true/\ys.all zH=true/\Q (.bl (eqS xs ys)) H
noncomputable def rNeS (K:Le):R2:=λx y H Q=>∃ a b xs ys,x=.ref a/\y=.ref b/\((SqL K H a xs/\SqL K H b ys)\/(SqT K H a xs/\SqT K H b ys))/\xs.all zH=true/\ys.all zH=true/\Q (.bl (!eqS xs ys)) H
theorem zca {A:Around}{s:Shared}{xs ys:List V}{us vs:Lf}(r1:Vals xs us)(r2:Vals ys vs)(f1:xs.all zH=true)(f2:ys.all zH=true) : ∀ j (h1:j<us.toArray.size) (h2:j<vs.toArray.size),SeqAt.EqAt A s us.toArray[j] vs.toArray[j] (eqV (xs.getD j .non) (ys.getD j .non)):=by intro j h1 h2;rw [uh] at h1 h2;have l1:=r1.length;have l2:=r2.length;have e1:xs[j]? = some xs[j]:=uw (by lia);have e2:ys[j]? = some ys[j]:=uw (by lia);obtain⟨u,hu,ru⟩:=r1.get e1;obtain⟨v,hv,rv⟩:=r2.get e2;rw [uw h1] at hu;rw [uw h2] at hv;rw [List.getElem_toArray,List.getElem_toArray,uB hu,uB hv,GJ,GJ,e1,e2];exact Yn ru rv (gB.mp f1 _ (UM _)) (gB.mp f2 _ (UM _))
theorem zhv (hu:X.A.units<cLine):OpR X (compareOp .Eq) (rEqS X.K):=by
 intro pins s σ H x y v u Q I rx ry h;obtain⟨a,b,xs,ys,rfl,rfl,hq,f1,f2,q⟩:=h;cases rx;cases ry;rcases hq with⟨ha,hb⟩ | ⟨ha,hb⟩
 ·obtain⟨its,r1,p1,_⟩:=I.list ha;obtain⟨its2,r2,p2,_⟩:=I.list hb;have l1:=r1.length;have l2:=r2.length;by_cases hl:xs.length=ys.length
  ·refine SeqAt.eq_listAt p1.isList p2.isList (by simp;lia) hu (zca r1 r2 f1 f2) ⟨.bl _,H,I,rfl,?_⟩;have:eqS xs ys=(List.range its.toArray.size).all (λj=>eqV (xs.getD j .non) (ys.getD j .non)):=by unfold eqS;rw [uh,← l1,hl,Nat.min_self];simp
   rw [← this];exact q
  ·refine SeqAt.eq_list_lengthsAt p1.isList p2.isList (by simp;lia) hu ⟨.bl _,H,I,rfl,?_⟩;have:eqS xs ys=false:=by unfold eqS;rw [show(xs.length == ys.length)=false by simp [hl],U1]
   rw [← this];exact q
 ·obtain⟨its,r1,p1,_⟩:=I.tuple ha;obtain⟨its2,r2,p2,_⟩:=I.tuple hb;have l1:=r1.length;have l2:=r2.length;refine SeqAt.eq_tupleAt p1 p2 hu (zca r1 r2 f1 f2) ⟨.bl _,H,I,rfl,?_⟩;rw [uh,uh,← l1,← l2];exact q
theorem zec {K:Frag}(hK:X.K=K)(hu:X.A.units<cLine):OpR X (compareOp .Eq) (rEqS K):=by subst hK;exact zhv hu
theorem X6 {A:Around}{k:Nat}(hr:Room k A):A.units<cLine:=Nat.lt_of_succ_lt (zjZ hr)
end
end L2
namespace L2
open PySem PySem.W
end L2
namespace L2
open PySem PySem.Spec PySem.Calls PyProof.Rows PySem.W
section
variable {X:Cx} {pins:List (Addr×Obj)} {σ:St} {H:Hp} {s:Shared} {h':Heap}
theorem Inv.turned2 {t':Nat}{e it:Addr}(I:Inv X pins σ H s)(k:∀ b o,b≠e->b≠it->s.heap.get? b=some o->h'.get? b=some o)(fe:FpOk X pins H e)(fi:FpOk X pins H it) : Inv X pins σ H { s with heap:=h',toks:=t' }:=by
 obtain⟨e0,e1,_,e3,e4,e5⟩:=fe;obtain⟨i0,i1,_,i3,i4,i5⟩:=fi;have hk:∀ b o,b∉[e,it]->s.heap.get? b=some o->h'.get? b=some o:=λb o hb q=>k b o (λz=>hb (by simp [z])) (λz=>hb (by simp [z])) q
 have nn:∀ b u,H b=some u->b∉[e,it]:=λb u q z=>by
  rcases uy.mp z with z | z
  ·rw [z,e0] at q;cases q
  ·rw [u7.mp z,i0] at q;cases q
 refine I.step (g':=s.gens) (d':=s.drawn) (ch:=[e,it]) ?_ (λb o _ _ hc q _=>hk b o hc q) (λb o _ _ hc q _=>⟨o.slots,hk b o hc q⟩) (λ_ _ _ _ n=>n) (λb o hc q=>⟨o,hk b o hc q⟩)
  (λ_ _ q=>q) (λ_ _ _ q=>q) (λb ps q=>⟨#[],by rw [q];simp⟩) ?_ ?_ I.bare
 ·intro b hb;rcases uy.mp hb with z | z
  ·rw [z];exact⟨e3,e1,e4,e5⟩
  ·rw [u7.mp z];exact⟨i3,i1,i4,i5⟩
 ·intro m hm;obtain⟨o,es,ep,ho,r⟩:=hm;exact⟨o,es,ep,k _ o (Ne.symm e1) (Ne.symm i1) ho,r⟩
 ·intro b u q;refine(I.hok b u q).stay (λc v hc z=>hk c v ?_ z) (λ_ z=>z) λ_ _ z=>z;rcases hc with z' | z'
  ·rw [z'];exact nn b u q
  ·exact nn c _ z'
end
noncomputable def Ite (go:Nat->Hp->Prop)(yv:Nat->Hp->V->Prop)(stop:Nat->Hp->Prop):It:=⟨go,λi H x H'=>∃ p v,H p=none/\yv i H v/\x=.ref p/\H' = upd H p (.tup [.int i,v]),stop⟩
theorem zbb {P:Program}{w:World}{K:Le}{elts:Lg}{ek:Nat}{epos:Pos}{e it:Addr}{go:Nat->Hp->Prop}{yv:Nat->Hp->V->Prop}{stop:Nat->Hp->Prop}{tn:Nat->Heap->Prop}(hne:e≠it)
  (hobj:∀ i h,tn i h->∃ o,h.get? it=some o/\∀ v,o.data≠.cell v)
  (hkeep:∀ i h h',tn i h->(∀ o,h.get? it=some o->h'.get? it=some o)->tn i h')
  (hitem:∀ (X:Cx),X.prog=P->X.w=w->X.K=K->X.calm=true->∀ (i:Nat) (pins:List (Addr×Obj)) (s:Shared) (σ:St) (H:Hp),Inv X pins σ H s->tn i s.heap->go i H->(∃ old,IsEnum s.heap e it i old) ->
   ∃ fp n Pd St,Draws P w X.A.in1 it fp n Pd St/\St i s.heap/\i<n/\e∉fp/\(∀ h,St (i+1) h->tn (i+1) h)/\∀ x,Pd i x->∃ v,RelV v x/\yv i H v)
  (hdone:∀ (X:Cx),X.prog=P->X.w=w->X.K=K->X.calm=true->∀ (i:Nat) (pins:List (Addr×Obj)) (s:Shared) (σ:St) (H:Hp),Inv X pins σ H s->tn i s.heap->stop i H ->
   ∃ fp n Pd St,Draws P w X.A.in1 it fp n Pd St/\St n s.heap) :
  Turn P w K (.Tuple elts ek epos) (Ite go yv stop) [e,it] e (λi h=>(∃ old,IsEnum h e it i old)/\tn i h) where
 mem:=by simp
 obj:=λi h st b hb=>by
  rcases uy.mp hb with z | z
  ·obtain⟨⟨old,q⟩,_⟩:=st
   rw [z]
   exact⟨_,q,λv z=>nomatch z⟩
  ·rw [u7.mp z]
   exact hobj i h st.2
 keep:=λi h h' st k=>by
  obtain⟨⟨old,q⟩,st⟩:=st
  exact⟨⟨old,k e (by simp) _ q⟩,hkeep i h h' st (k it (by simp))⟩
 item:=by
  intro X hP hw hK hc i pins s σ H E I hf st hg
  obtain⟨⟨old,q⟩,st⟩:=st
  obtain⟨fp,n,Pd,St,D,hs,hlt,hef,hst,hv⟩:=hitem X hP hw hK hc i pins s σ H I st hg ⟨old,q⟩
  refine wpAny_pyNext_enum_itemD D q hs hlt hne hef λx h1 tk hx ho hs1 hT hsz hk=>⟨_,rfl,?_⟩
  obtain⟨v,rv,yv'⟩:=hv x hx
  have helt:e<s.heap.objs.size:=ue q
  refine wpAny_letOwnedTupleGo_enum ho λh2 he2 hs2=>?_
  have hTe:s.heap.objs.size≠e:=Ge helt
  have hT2:h2.get? s.heap.objs.size=some { cls:=.type "tuple",data:=.seq #[.int i tk,x] }:=(hs2.2 _ hTe).trans hT
  have fe:=hf e (by simp)
  have fi:=hf it (by simp)
  have fresh:H s.heap.objs.size=none:=I.hok.fresh (uk _)
  have hit:s.heap.objs.size≠it:=by
   obtain⟨o,z⟩:=D.live _ _ hs
   exact Ge (ue z)
  have I0:=I.laid (t':=s.toks) (a:=s.heap.objs.size) (o:=.tup [.int i,v]) (h':=s.heap.push { cls:=.type "tuple",data:=.seq #[.int i tk,x] }) (λb o z=>uc _ z) (uk _) (by
   refine⟨by show 2<=sizeLine;decide,[.int i tk,x],.cons ⟨tk,rfl⟩ (.cons rv .nil),?_⟩
   exact⟨_,um _ rfl,rfl,_,rfl⟩)
  have fe0:FpOk X pins (upd H s.heap.objs.size (.tup [.int i,v])) e:=⟨by rw [zr (Ne.symm hTe)];exact fe.1,fe.2⟩
  have fi0:FpOk X pins (upd H s.heap.objs.size (.tup [.int i,v])) it:=⟨by rw [zr (Ne.symm hit)];exact fi.1,fi.2⟩
  have I2:=I0.turned2 (h':=h2) (t':=tk+1) (e:=e) (it:=it) (λb o hbe hbi z=>by
   by_cases hb:b=s.heap.objs.size
   ·rw [hb] at z ⊢
    have z':some ({ cls:=.type "tuple",data:=.seq #[.int i tk,x] }:Obj)=some o:=(um _ rfl).symm.trans z
    rw [hT2];exact z'
   ·have z':s.heap.get? b=some o:=by
     have z2:=z
     rw [Heap.get?_push_ne _ _ _ hb] at z2
     exact z2
    exact(hs2.2 b hbe).trans (hk b o hbe hbi z')) fe0 fi0
  refine⟨.ref s.heap.objs.size,upd H s.heap.objs.size (.tup [.int i,v]),I2,rfl,⟨_,v,fresh,yv',rfl,rfl⟩,⟨⟨_,he2⟩,?_⟩,λb hb=>?_⟩
  ·refine hkeep _ _ _ (hst h1 hs1) λo z=>(hs2.2 it (Ne.symm hne)).trans z
  ·rcases uy.mp hb with z | z
   ·rw [z];exact fe0.1
   ·rw [u7.mp z];exact fi0.1
 done:=by
  intro X hP hw hK hc i pins s σ H E I hf st hg
  obtain⟨⟨old,q⟩,st⟩:=st
  obtain⟨fp,n,Pd,St,D,hs⟩:=hdone X hP hw hK hc i pins s σ H I st hg
  have fi:=hf it (by simp)
  refine wpAny_pyNext_enum_endD D q hs λh1 hx=>⟨rfl,I.turned (t':=s.toks) (λb o hb z=>hx b o hb z) fi.1 fi.2.1 fi.2.2.2.1 fi.2.2.2.2.1 fi.2.2.2.2.2⟩
 self:=λA i s Q E st h=>by
  obtain⟨⟨old,q⟩,_⟩:=st
  exact GW q h
section
variable {X:Cx}
noncomputable def goS (x:Str):Nat->Hp->Prop:=λi _=>i<x.cps.size
noncomputable def yvS (x:Str):Nat->Hp->V->Prop:=λi _ v=>∃ c,x.cps[i]? = some c/\v=.str ⟨#[c]⟩
noncomputable def stS (x:Str):Nat->Hp->Prop:=λi _=>x.cps.size<=i
theorem Yv {P:Program}{w:World}{K:Le}{elts:Lg}{ek:Nat}{epos:Pos}{e it:Addr}(hne:e≠it)(x:Str)(t:Tok) : Turn P w K (.Tuple elts ek epos) (Ite (goS x) (yvS x) (stS x)) [e,it] e (λi h=>(∃ old,IsEnum h e it i old)/\(h.IsStrIter it (strIterType x) x t i/\i<=x.cps.size)):=by
 have dr:∀ A:Around,A.handled=none->Draws P w A it [it] x.cps.size (λi v=>∃ c u,x.cps[i]? = some c/\v=.str ⟨#[c]⟩ u) (λi h=>h.IsStrIter it (strIterType x) x t i):=λA hA=>by
  unfold strIterType;cases ha:x.cps.all (· < 128)
  ·exact Draws.strWide hA it x t
  ·exact Draws.strAscii hA it x t
 refine zbb hne ?_ ?_ ?_ ?_
 ·intro i h st;obtain⟨o,ho,_,hd⟩:=st.1;exact⟨o,ho,λv z=>by rw [hd] at z;cases z⟩
 ·intro i h h' st k;obtain⟨⟨o,ho,r⟩,hl⟩:=st;exact⟨⟨o,k o ho,r⟩,hl⟩
 ·intro X hP hw hK hc i pins s σ H I st hg he;refine⟨[it],_,_,_,dr X.A.in1 (I.ok.hd hc),st.1,hg,by simp [hne],λh z=>⟨z,hg⟩,λv hv=>?_⟩;obtain⟨c,u,hcu,rfl⟩:=hv;exact⟨.str ⟨#[c]⟩,⟨u,rfl⟩,c,hcu,rfl⟩
 ·intro X hP hw hK hc i pins s σ H I st hg;have hi:i=x.cps.size:=Nat.le_antisymm st.2 hg;subst hi;exact⟨[it],_,_,_,dr X.A.in1 (I.ok.hd hc),st.1⟩
noncomputable def Yw (ta:TA):TI:=λσ H R=>ta σ H λvs H1=>∃ z,vs=[.str z]/\R (Ite (goS z) (yvS z) (stS z)) H1
theorem zcb {a:Expr}{ta:TA}{p pos:Pos}{elts:Lg}{ek:Nat}{epos:Pos}(hg:Gl X "enumerate")(hm:X.mg "enumerate" = none)(ha:PA X [a] ta)(hs:starEach [a] X.env=[(false,eval a X.env)]:=by rfl) : PI X (.Tuple elts ek epos) (.Call (.Name "enumerate" p) [a] [] pos) (Yw ta):=by
 intro pins s σ H R I h;refine Call_ (QY I hg hm boot_enumerate (PyProof.Rows.callWith_type1 (thn (ha pos pins s σ H _ I h) λus s1 ⟨vs,H1,I1,r1,q1⟩=>?_) hs rfl));obtain⟨z,e,q⟩:=q1;subst e;obtain⟨u,rfl,t,rfl⟩:=r1.one;refine call_enumerate_str λh' he hit hsz hk=>GW he ?_;have hlt:s1.heap.objs.size<=s1.heap.objs.size+1:=Gu _;refine⟨s1.heap.objs.size+1,[s1.heap.objs.size+1,s1.heap.objs.size],_,_,H1,rfl,I1.kept (t':=s1.toks) hk,Yv (Nat.succ_ne_self _) z t,⟨⟨_,he⟩,hit,Uo _⟩,λb hb=>?_,q⟩
 have hb':s1.heap.objs.size<=b:=by
  rcases uy.mp hb with z | z
  ·rw [z];exact hlt
  ·rw [u7.mp z];exact uk _
 exact I1.fpOk hb' (I1.hok.fresh hb')
theorem zcc {K:Le}{l:Lc}{a b:Nat}{tb:TS}{D:Ends}{σ:St}{H:Hp}(Pv:Nat->St->Hp->Prop)(h0:Pv 0 σ H) (hs:∀ i c σ H,l[i]? = some c->Pv i σ H->∀ p,H p=none->tb { D with nx:=Pv (i+1),ct:=Pv (i+1),bk:=D.nx } ((σ.set a (some (.int i))).set b (some (.str (S [c])))) (upd H p (.tup [.int i,.str (S [c])]))) (hd:∀ σ H,Pv l.length σ H->D.nx σ H):yR (Ite (goS (S l)) (yvS (S l)) (stS (S l))) (gTup K 2 (XX (Qd a) (XX (Qd b) gNil))) tb D σ H:=by
 refine⟨λi m σ H=>m=l.length - i/\i<=l.length/\Pv i σ H,⟨l.length,by simp,Uo _,h0⟩,?_⟩;rintro i m σ H ⟨rfl,hi,p⟩;by_cases hlt:i<l.length
 ·refine .inr ⟨by show i<(S l).cps.size;rw [Q8];exact hlt,Pv (i+1),λσ' H' p'=>⟨l.length - (i+1),by lia,rfl,hlt,p'⟩,λx H' y=>?_⟩;obtain⟨q,v,hq,⟨c,hc,rfl⟩,rfl,rfl⟩:=y;rw [zbW] at hc;exact⟨q,_,rfl,SqT.of zd,rfl,_,_,rfl,_,_,rfl,rfl,hs i c σ H hc p q hq⟩
 ·have e:i=l.length:=by lia
  subst e;exact .inl ⟨by show(S l).cps.size<=l.length;rw [Q8];exact uk _,hd σ H p⟩
end
structure yf (k:Nat)(A:Around):Prop where
 dp:A.depth+3 * k+5<recursionLimit
 un:A.units+16 * k+200<cLine
theorem yf.mono {j k:Nat}{A:Around}(r:yf k A)(h:j<=k):yf j A:=⟨by have:=r.dp;lia,by have:=r.un;lia⟩
theorem yf.deeper {k:Nat}{A:Around}(r:yf (k+1) A)(env:Env):yf k (A.deeper env):=
 ⟨by have:=r.dp;show A.depth+1+3 * k+5<_;lia,by have:=r.un;show A.units+3+16 * k+200<_;lia⟩
theorem Room.marked {k:Nat}{A:Around}(r:Room k A)(v:Option Value):yf k (A.mark v):=⟨by have:=r.dp;exact this,by have:=r.un;exact this⟩
noncomputable abbrev Cx.hot (X:Cx):Cx:={ X with calm:=false }
structure zeO (P:Program)(w:World)(K:Le)(mg:La)(base:Heap)(k:Nat)(f:Addr)(fd:FuncData)(ps:Lh)(sp:Sp):Prop where
 len:∀ vs H Q E,sp vs H Q E->vs.length=ps.length
 run:∀ (A:Around) (outer:List Env) (s:Shared) (H:Hp) (args:Args) (us:Lf) (vs:List V) (Q:VK) (E:XK),yf k A->Env0 P w K mg base A outer s H->BindsTo s fd args (ps.zip us)->Vals vs us->sp vs H Q E ->
  codeAny (model P w) A (.call (.ref f) args) (CR CX0 outer P w H s Q E) s
theorem zhw {P:Program}{w:World}{K:Le}{mg:La}{base:Heap}{k:Nat}{f:Addr}{name qual:Str}{params:Arguments}{body:List Stmt}{scope:Scope}{dV kV doc pm cdv ct oc:Value}{an od:Option Addr} {osl:Array (Option Value)} {N ps:Lh} {sp:Sp} (lk:K.lookup f=some ⟨oc,od,.func (PySem.W.fnOf name qual params body scope dV kV doc pm an cdv ct),osl⟩) (hcd:PySem.W.codeIn K cdv qual=true) (S:zo N ps scope) (len:∀ vs H Q E,sp vs H Q E->vs.length=ps.length) (hbody:∀ (A:Around) (outer:List Env) (s:Shared) (H:Hp) (vs:List V) (Q:VK) (E:XK),yf k (A.deeper (envOfC qual scope s.heap.objs.size f cdv))->sp vs H Q E -> ∃ t,PSs (cxOf CX0 P w K mg base N qual scope f cdv A outer s H E).hot.nox body t/\t { nx:=λ_ H'=>Q .non H',rt:=Q } (start N vs) H) : zeO P w K mg base (k+1) f (PySem.W.fnOf name qual params body scope dV kV doc pm an cdv ct) ps sp:=by
 refine⟨len,λA outer s H args us vs Q E hr e0 hb r hsp=>?_⟩;have hl:=len _ _ _ _ hsp;have KX:K.In s.heap:=e0.mod.kin.keeps λb o e=>(e0.bs b o e).1;have lim:s.heap.NoLimit:=e0.mod.nolimit.keeps λb o e=>(e0.bs b o e).1
 have hkind:∀ y∈ps.zip us,scope.names.lookup y.1=some .local\/(scope.names.lookup y.1=some .cell/\((cellsFrom (s.heap.objs.size+1) scope.names []).lookup y.1).isSome=true):=λy hy=>by
  obtain⟨n,v⟩:=y;rcases S.par n (U8 hy).1 with q | q
  ·exact .inl q
  ·exact .inr ⟨q,UZ _ _ _ (.inl q)⟩
 have hdp:A.depth<recursionLimit:=by have:=hr.dp;lia
 refine gf hdp (KX _ _ lk) rfl S.co S.gen rfl (g8 KX hcd) (hb _ _ _ _ ?_);refine U0 S.kind hkind λenv he s1 x=>?_;subst he;refine⟨lim.keeps x.toInCall.keep,g9 ?_⟩;obtain⟨t,ht,hq⟩:=hbody A outer s H vs Q E (hr.deeper _) hsp;have e1:Env0 P w K mg base { A with handled:=none } outer s H:=⟨e0.frames,e0.mod,e0.bs,e0.bsz,e0.funs,e0.frf,e0.hok,e0.bare⟩
 have I0:Inv (cxOf CX0 P w K mg base N qual scope f cdv { A with handled:=none } outer s H E) [] (start N vs) H s1:=Wk S rfl e1 hl r x;have I:Inv (cxOf CX0 P w K mg base N qual scope f cdv A outer s H E).hot.nox [] (start N vs) H s1:=by obtain⟨ok,I1,I2,I3,I4,I5,I6,I7,I8,I9,I10⟩:=I0;exact⟨⟨ok.mod,ok.kind,ok.glob,ok.blt,ok.above,ok.inj,ok.has,ok.cab,λz=>absurd (show false=true from z) (by decide),Around.frames_deeper e0.frames,ok.stk,ok.exf,ok.bs,ok.bsz,ok.noex,ok.exfs,ok.funs,ok.frf⟩,I1,I2,I3,I4,I5,I6,I7,I8,I9,I10⟩
 refine uj (ht [] s1 (start N vs) H _ I hq) (λfl s' hs=>?_) λe s' hs=>hs.elim
 have fin:∀ {σ':St} {H':Hp} {v:V} {u:Value},Inv (cxOf CX0 P w K mg base N qual scope f cdv A outer s H E).hot.nox [] σ' H' s'->RelV v u->Q v H'->CE outer P w H s Q u s':=
  λ{σ' H' v u} J rv q=>⟨v,H',J.os,J.bare,J.base,J.hok,rv,q⟩
 cases fl with
 | ret u=>obtain⟨v,σ',H',J,rv,q⟩:=hs;exact fin J rv q
 | next=>obtain⟨σ',H',J,q⟩:=hs;exact fin (v:=V.non) (u:=Value.none) J rfl q
 | brk=>obtain⟨_,_,_,q⟩:=hs;exact False.elim q
 | cont=>obtain⟨_,_,_,q⟩:=hs;exact False.elim q
structure OkH (P:Program)(w:World)(K:Le)(mg:La)(base:Heap)(k:Nat)(x:Str)(ps:Lh)(sp:Sp):Prop where
 ex:∃ (f:Addr) (fd:FuncData),PySem.W.keepIn K (.ref f)=true/\Binds K fd ps []/\mg x=some (.ref f)/\zeO P w K mg base k f fd ps sp
section
variable {P:Program} {w:World} {K:Le} {mg:La} {base:Heap}
theorem Df.okH {x:Str}{st:Stmt}{ps N:Lh}{k:Nat}{sp:Sp}(D:Df K mg x st ps)(Sc:zo N ps (zg st))(len:∀ vs H Q E,sp vs H Q E->vs.length=ps.length) (hbody:∀ (f:Addr) (cdv:Value) (A:Around) (outer:List Env) (s:Shared) (H:Hp) (vs:List V) (Q:VK) (E:XK),yf k (A.deeper (envOfC x (zg st) s.heap.objs.size f cdv))->sp vs H Q E -> ∃ t,PSs (cxOf CX0 P w K mg base N x (zg st) f cdv A outer s H E).hot.nox (zQ st) t/\t { nx:=λ_ H'=>Q .non H',rt:=Q } (start N vs) H):OkH P w K mg base (k+1) x ps sp:=by obtain⟨f,fd,F,b,m⟩:=D.ex;refine⟨f,fd,F.kp,b,m,?_⟩;obtain⟨oc,od,kV,doc,pm,an,cdv,ct,osl,rfl,lk,hcd⟩:=F.ex;exact zhw lk hcd Sc len λA outer s H vs Q E hr h=>hbody f cdv A outer s H vs Q E hr h
end
section
variable {X:Cx} {k j:Nat} {x:Str} {ps:Lh} {sp:Sp} {p pos:Pos} {e:Expr} {es:Lg} {t:TA}
theorem zcd (F:OkH X.prog X.w X.K X.mg X.base k x ps sp)(hr:yf j X.A)(hk:k<=j)(ha:PA X (e::es) t)(hg:Gl X x:=by rfl) (hdb:(x == ("__debug__":Str))=false:=by decide) (he:starEach (e::es) X.env=(false,eval e X.env)::starEach es X.env:=by rfl) (hpl:(backTo pos (starEach es X.env)).any (·.1)=false:=by rfl):PE X (.Call (.Name x p) (e::es) [] pos) (Zc sp [] E0 t):=by
 obtain⟨f,fd,kp,b,m,G⟩:=F.ex;intro pins s σ H Q I h;refine uV (jR I hg m ?_ hdb);refine Ug (h₀:=X.base) I.ok.mod.kin kp (thn (ha pos pins s σ H _ I h) λus s1 ⟨vs,H1,I1,r,q⟩=>⟨I1.kIn,?_⟩) he hpl;have r2:Vals (vs++[]) (us++[]):=r.append .nil;have hl:(us++[]).length=ps.length:=by rw [← r2.length];exact G.len _ _ _ _ q
 refine Ua (Ue (G.run X.A X.stack s1 H1 ⟨us,[]⟩ (us++[]) (vs++[]) Q E0 (hr.mono hk) I1.env0 (b s1 us I1.kIn hl) r2 q) λr s' hq=>?_);cases r with
 | error e=>exact False.elim hq
 | ok fl=>
  cases fl with
  | ret u=>exact I1.after hq
  | next=>exact False.elim hq
  | brk=>exact False.elim hq
  | cont=>exact False.elim hq
end
end L2
namespace L2
open PySem PySem.Spec PyProof.Rows
def K9 (K:Le)(J:It)(tt:TT)(te:TE)(σ:St)(H1:Hp)(Q:VK):Prop:=∀ D,H1 D=none->∃ W:Nat->Nat->List V->Hp->Prop,(∃ m,W 0 m [] (upd H1 D (.lst [])))/\∀ i m ys H',W i m ys H'->H' D=some (.lst ys) /\
 ((J.stop i H'/\Q (.ref D) H')\/(J.go i H'/\∀ v H2,J.yld i H' v H2->∃ pa u1 u2,v=.ref pa/\SqT K H2 pa [u1,u2]/\tt (some u1::some u2::σ) H2 λb H3=>
  if b=true then te (some u1::some u2::σ) H3 λy H4=>H4 D=some (.lst ys)/\ys.length<sizeLine/\∃ m',m' < m/\W (i+1) m' (ys++[y]) (upd H4 D (.lst (ys++[y]))) else ∃ m',m' < m/\W (i+1) m' ys H3))
noncomputable def tLC2 (K:Le)(wi:TI)(tt:TT)(te:TE):TE:=λσ H Q=>wi σ H λJ H1=>K9 K J tt te σ H1 Q
section
variable {X:Cx} {elt iter:Expr} {x x2:Str} {px py pt pos:Pos} {kt:Nat} {ifs:Lg} {scope:Scope} {wi:TI} {tt:TT} {te:TE}
end
end L2
namespace L2
open PySem PySem.Spec PySem.Calls PyProof.Rows PySem.W
noncomputable def goL (K:Frag)(l:Addr):Nat->Hp->Prop:=λi H=>∃ xs x,SqL K H l xs/\xs[i]? = some x
noncomputable def yvL (K:Frag)(l:Addr):Nat->Hp->V->Prop:=λi H v=>∀ xs,SqL K H l xs->xs[i]? = some v
noncomputable def stL0 (K:Frag)(l:Addr):Nat->Hp->Prop:=λi H=>∃ xs,SqL K H l xs/\xs.length=i
section
variable {X:Cx}
noncomputable def zhx (K:Frag)(ta:TA):TI:=λσ H R=>ta σ H λvs H1=>∃ l xs,vs=[.ref l]/\SqL K H1 l xs/\R (Ite (goL K l) (yvL K l) (stL0 K l)) H1
end
def Pairs (H:Hp)(a:Addr)(ps:List (Lc×Lc)):Prop:=∃ as:Ld,H a=some (.lst (as.map V.ref))/\as.length=ps.length/\∀ (i:Nat) p,ps[i]? = some p->∃ b,as[i]? = some b/\H b=some (.tup [.str (S p.1),.str (S p.2)])
theorem Pairs.mono {H H':Hp}{a:Addr}{ps:List (Lc×Lc)}(h:Pairs H a ps)(g:Same H H'):Pairs H' a ps:=by obtain⟨as,h1,h2,h3⟩:=h;refine⟨as,g _ _ h1,h2,λi p e=>?_⟩;obtain⟨b,h4,h5⟩:=h3 i p e;exact⟨b,h4,g _ _ h5⟩
theorem zed (K:Frag)(wi:TI)(tt:TT)(te:TE):tLC2 K wi tt te=λσ H Q=>wi σ H λJ H1=>K9 K J tt te σ H1 Q:=rfl
theorem zee:bootBuiltins "list" = some (.type "list"):=by decide +kernel
section
variable {X:Cx}
noncomputable def zhy:List V->Hp->VK->Prop:=λxs H Q=>∃ l,xs=[.str (S l)]/\l.length<=1000000/\∀ p,H p=none->Q (.ref p) (upd H p (.lst (l.map λc=>.str (S [c]))))
def NoT (K:Frag)(H:Hp)(x:V):Prop:=x=.non\/(∃ b,x=.bl b)\/(∃ i,x=.int i)\/(∃ a xs,x=.ref a/\H a=some (.lst xs))\/(∃ a xs,x=.ref a/\H a=some (.tup xs))\/∃ a kvs,x=.ref a/\H a=some (.dK kvs)
theorem NoT.mono {K:Frag}{H H':Hp}{x:V}(h:NoT K H x)(g:Same H H'):NoT K H' x:=by
 rcases h with h | h | h | ⟨a,xs,h,e⟩ | ⟨a,xs,h,e⟩ | ⟨a,xs,h,e⟩
 ·exact .inl h
 ·exact .inr (.inl h)
 ·exact .inr (.inr (.inl h))
 ·exact .inr (.inr (.inr (.inl ⟨a,xs,h,g _ _ e⟩)))
 ·exact .inr (.inr (.inr (.inr (.inl ⟨a,xs,h,g _ _ e⟩))))
 ·exact .inr (.inr (.inr (.inr (.inr ⟨a,xs,h,g _ _ e⟩))))
noncomputable def zef (K:Frag):List V->Hp->VK->Prop:=λxs H Q=>∃ x,xs=[x,.ty "str"]/\((∃ i,x=.str i/\Q (.bl true) H)\/(NoT K H x/\Q (.bl false) H))
theorem WY {K:Frag}(hK:X.K=K):OpR X (compareOp .In) (rIn K false):=by subst hK;exact zaW
theorem Yx {K:Frag}(hK:X.K=K):OpR X (compareOp .NotIn) (rIn K true):=by subst hK;exact WS
theorem zeg {K:Frag}{tg l:Expr}{tl:TE}(hK:X.K=K)(hl:PE X l tl):PI X tg l (iTup K tl):=by subst hK;exact zgY hl
theorem Yy {K:Frag}{a:Addr}{xs:List V}{g:TG}{tb:TS}{D:Ends}{σ:L2.St}{H:Hp}(Pv:Nat->L2.St->Hp->Prop)(h0:Pv 0 σ H)(hl:∀ i σ H,i<=xs.length->Pv i σ H->SqT K H a xs)
  (hs:∀ i x σ H,xs[i]? = some x->Pv i σ H->g x σ H λσ2 H2=>tb { D with nx:=Pv (i+1),ct:=Pv (i+1),bk:=D.nx } σ2 H2) (hd:∀ σ H,Pv xs.length σ H->D.nx σ H):yR (Itt K a) g tb D σ H:=zdH Pv h0 hl hs hd
noncomputable def tD0:TE:=λ_ H Q=>∀ p,H p=none->Q (.ref p) (upd H p (.dK []))
end
inductive Dat where
 | fl (v:V)
 | tp (xs:List Dat)
 | ls (xs:List Dat)
mutual
noncomputable def IsDt (H:Hp):Dat->V->Prop
 | .fl x,v=>v=x/\zH x=true
 | .tp ds,v=>∃ a vs,v=.ref a/\H a=some (.tup vs)/\IsDs H ds vs
 | .ls ds,v=>∃ a vs,v=.ref a/\H a=some (.lst vs)/\IsDs H ds vs
noncomputable def IsDs (H:Hp):List Dat->List V->Prop
 | [],vs=>vs=[]
 | d::ds,vs=>∃ v r,vs=v::r/\IsDt H d v/\IsDs H ds r
end
mutual
noncomputable def eqD:Dat->Dat->Bool
 | .fl x,.fl y=>eqV x y
 | .tp xs,.tp ys=>eqDs xs ys
 | .ls xs,.ls ys=>eqDs xs ys
 | .fl _,.tp _=>false
 | .fl _,.ls _=>false
 | .tp _,.fl _=>false
 | .tp _,.ls _=>false
 | .ls _,.fl _=>false
 | .ls _,.tp _=>false
noncomputable def eqDs:List Dat->List Dat->Bool
 | [],[]=>true
 | x::xs,y::ys=>eqD x y&&eqDs xs ys
 | [],_::_=>false
 | _::_,[]=>false
end
mutual
noncomputable def depD:Dat->Nat
 | .fl _=>0
 | .tp xs=>xr xs+1
 | .ls xs=>xr xs+1
noncomputable def xr:List Dat->Nat
 | []=>0
 | d::ds=>max (depD d) (xr ds)
end
mutual
theorem IsDt.mono {H H':Hp}(g:Same H H'):∀ {d:Dat} {v:V},IsDt H d v->IsDt H' d v
 | .fl x,v,h=>by simp only [IsDt] at h ⊢;exact h
 | .tp ds,v,h=>by simp only [IsDt] at h ⊢;obtain⟨a,vs,e,h1,h2⟩:=h;exact⟨a,vs,e,g _ _ h1,IsDs.mono g h2⟩
 | .ls ds,v,h=>by simp only [IsDt] at h ⊢;obtain⟨a,vs,e,h1,h2⟩:=h;exact⟨a,vs,e,g _ _ h1,IsDs.mono g h2⟩
theorem IsDs.mono {H H':Hp}(g:Same H H'):∀ {ds:List Dat} {vs:List V},IsDs H ds vs->IsDs H' ds vs
 | [],vs,h=>by simp only [IsDs] at h ⊢;exact h
 | d::ds,vs,h=>by simp only [IsDs] at h ⊢;obtain⟨v,r,e,h1,h2⟩:=h;exact⟨v,r,e,IsDt.mono g h1,IsDs.mono g h2⟩
end
theorem IsDs.len {H:Hp}:∀ {ds:List Dat} {vs:List V},IsDs H ds vs->ds.length=vs.length
 | [],vs,h=>by simp only [IsDs] at h;subst h;rfl
 | d::ds,vs,h=>by simp only [IsDs] at h;obtain⟨v,r,e,h1,h2⟩:=h;rw [e,uu,uu,IsDs.len h2]
theorem IsDs.snoc {H:Hp}{d:Dat}{v:V}:∀ {ds:List Dat} {vs:List V},IsDs H ds vs->IsDt H d v->IsDs H (ds++[d]) (vs++[v])
 | [],vs,h,k=>by simp only [IsDs] at h;subst h;simp only [Ud,IsDs];exact⟨v,[],rfl,k,rfl⟩
 | d::ds,vs,h,k=>by simp only [IsDs] at h;obtain⟨v,r,e,h1,h2⟩:=h;subst e;simp only [u4,IsDs];exact⟨v,_,rfl,h1,IsDs.snoc h2 k⟩
theorem IsDs.app {H:Hp}{es:List Dat}{us:List V}:∀ {ds:List Dat} {vs:List V},IsDs H ds vs->IsDs H es us->IsDs H (ds++es) (vs++us)
 | [],vs,h,k=>by simp only [IsDs] at h;subst h;exact k
 | d::ds,vs,h,k=>by simp only [IsDs] at h;obtain⟨v,r,e,h1,h2⟩:=h;subst e;simp only [u4,IsDs];exact⟨v,_,rfl,h1,IsDs.app h2 k⟩
theorem IsDs.get {H:Hp}:∀ {ds:List Dat} {vs:List V} {j:Nat} {v:V},IsDs H ds vs->vs[j]? = some v->∃ d,ds[j]? = some d/\IsDt H d v
 | [],vs,j,v,h,k=>by simp only [IsDs] at h;subst h;simp at k
 | d::ds,vs,j,v,h,k=>by
  simp only [IsDs] at h;obtain⟨v',r,e,h1,h2⟩:=h;subst e;cases j with
  | zero=>simp at k;subst k;exact⟨d,rfl,h1⟩
  | succ j=>simpa using IsDs.get h2 (j:=j) (by simpa using k)
theorem X7 {v:V}(h:zH v=true):eqV v v=true:=by cases v<;>simp [eqV,zH] at h ⊢
mutual
theorem Je {H:Hp}:∀ {d e:Dat} {v:V},IsDt H d v->IsDt H e v->eqD d e=true
 | .fl x,.fl y,v,h,k=>by simp only [IsDt] at h k;obtain⟨rfl,f⟩:=h;obtain⟨rfl,_⟩:=k;simp only [eqD];exact X7 f
 | .tp xs,.tp ys,v,h,k=>by simp only [IsDt] at h k;obtain⟨a,vs,rfl,h1,h2⟩:=h;obtain⟨b,us,e,k1,k2⟩:=k;cases e;rw [h1] at k1;cases k1;simp only [eqD];exact ZI h2 k2
 | .ls xs,.ls ys,v,h,k=>by simp only [IsDt] at h k;obtain⟨a,vs,rfl,h1,h2⟩:=h;obtain⟨b,us,e,k1,k2⟩:=k;cases e;rw [h1] at k1;cases k1;simp only [eqD];exact ZI h2 k2
 | .fl x,.tp ys,v,h,k=>by simp only [IsDt] at h k;obtain⟨rfl,f⟩:=h;obtain⟨b,us,rfl,k1,k2⟩:=k;simp [zH] at f
 | .fl x,.ls ys,v,h,k=>by simp only [IsDt] at h k;obtain⟨rfl,f⟩:=h;obtain⟨b,us,rfl,k1,k2⟩:=k;simp [zH] at f
 | .tp xs,.fl y,v,h,k=>by simp only [IsDt] at h k;obtain⟨rfl,f⟩:=k;obtain⟨b,us,rfl,k1,k2⟩:=h;simp [zH] at f
 | .ls xs,.fl y,v,h,k=>by simp only [IsDt] at h k;obtain⟨rfl,f⟩:=k;obtain⟨b,us,rfl,k1,k2⟩:=h;simp [zH] at f
 | .tp xs,.ls ys,v,h,k=>by simp only [IsDt] at h k;obtain⟨a,vs,rfl,h1,h2⟩:=h;obtain⟨b,us,e,k1,k2⟩:=k;cases e;rw [h1] at k1;cases k1
 | .ls xs,.tp ys,v,h,k=>by simp only [IsDt] at h k;obtain⟨a,vs,rfl,h1,h2⟩:=h;obtain⟨b,us,e,k1,k2⟩:=k;cases e;rw [h1] at k1;cases k1
theorem ZI {H:Hp}:∀ {ds es:List Dat} {vs:List V},IsDs H ds vs->IsDs H es vs->eqDs ds es=true
 | [],[],_,_,_=>rfl
 | d::ds,e::es,vs,h,k=>by simp only [IsDs] at h k;obtain⟨v,r,rfl,h1,h2⟩:=h;obtain⟨v',r',e',k1,k2⟩:=k;cases e';simp only [eqDs,uI];exact⟨Je h1 k1,ZI h2 k2⟩
 | [],e::es,vs,h,k=>by simp only [IsDs] at h k;subst h;obtain⟨v',r',e',k1,k2⟩:=k;cases e'
 | d::ds,[],vs,h,k=>by simp only [IsDs] at h k;subst k;obtain⟨v',r',e',k1,k2⟩:=h;cases e'
end
mutual
noncomputable def Ws:Dat->Bool
 | .fl v=>zH v
 | .tp xs=>ym xs
 | .ls xs=>ym xs
noncomputable def ym:List Dat->Bool
 | []=>true
 | d::ds=>Ws d&&ym ds
end
mutual
theorem X8:∀ {d:Dat},Ws d=true->eqD d d=true
 | .fl v,h=>by simp only [eqD];exact X7 h
 | .tp xs,h=>by simp only [eqD];simp only [Ws] at h;exact ZJ h
 | .ls xs,h=>by simp only [eqD];simp only [Ws] at h;exact ZJ h
theorem ZJ:∀ {ds:List Dat},ym ds=true->eqDs ds ds=true
 | [],_=>rfl
 | d::ds,h=>by simp only [ym,uI] at h;simp only [eqDs,uI];exact⟨X8 h.1,ZJ h.2⟩
end
theorem yn:∀ {ds es:List Dat},ds.length≠es.length->eqDs ds es=false
 | [],[],h=>absurd rfl h
 | d::ds,e::es,h=>by simp only [eqDs];rw [yn (ds:=ds) (es:=es) (by simpa using h),U1]
 | [],_::_,_=>rfl
 | _::_,[],_=>rfl
noncomputable def dGet (ds:List Dat)(j:Nat):Dat:=ds.getD j (.fl .non)
theorem yo:∀ {ds es:List Dat},ds.length=es.length->(List.range ds.length).all (λj=>eqD (dGet ds j) (dGet es j))=eqDs ds es
 | [],[],_=>rfl
 | d::ds,e::es,h=>by rw [uu,List.range_succ_eq_map,gZ,List.all_map];simp only [eqDs];have:=yo (ds:=ds) (es:=es) (by simpa using h);rw [← this];rfl
 | [],_::_,h=>by simp at h
 | _::_,[],h=>by simp at h
theorem Jf {ds es:List Dat}{n m:Nat}(hn:n=ds.length)(hm:m=es.length):((List.range (min n m)).all (λj=>eqD (dGet ds j) (dGet es j))&&n == m)=eqDs ds es:=by
 subst hn hm;by_cases h:ds.length=es.length
 ·rw [← h,Nat.min_self,Uq,gw];exact yo h
 ·rw [yn h,uT.mpr h,U1]
section
variable {X:Cx} {pins:List (Addr×Obj)} {σ:L2.St} {H:Hp} {s:Shared}
theorem jV (I:Inv X pins σ H s){a:Addr}{vs:List V}(h:H a=some (.tup vs)):∃ its:Lf,Vals vs its/\s.heap.IsTuple a its.toArray:=by obtain⟨its,r,p,_⟩:=I.tuple (SqT.of h);exact⟨its,r,p⟩
theorem jF (I:Inv X pins σ H s){a:Addr}{vs:List V}(h:H a=some (.lst vs)):∃ its:Lf,Vals vs its/\s.heap.IsList a its.toArray:=by obtain⟨its,r,p,_⟩:=I.list (SqL.of h);exact⟨its,r,p.isList⟩
mutual
theorem zce (I:Inv X pins σ H s):∀ (d e:Dat) (A:Around) (x y:V) (u w:Value),A.units+depD d<cLine->IsDt H d x->IsDt H e y->RelV x u->RelV y w->SeqAt.EqAt A s u w (eqD d e)
 | .fl x,.fl y,A,x',y',u,w,hu,h,k,ru,rw'=>by simp only [IsDt] at h k;obtain⟨rfl,f⟩:=h;obtain⟨rfl,g⟩:=k;simp only [eqD];exact Yn ru rw' f g
 | .tp ds,.tp es,A,x,y,u,w,hu,h,k,ru,rw'=>by
  have hh:=h;have kk:=k;simp only [IsDt] at h k;obtain⟨a,vs,rfl,h1,h2⟩:=h;obtain⟨b,us,rfl,k1,k2⟩:=k;cases ru;cases rw';by_cases hab:a=b
  ·subst hab;rw [Je hh kk];exact SeqAt.EqAt.same _
  obtain⟨i1,r1,p1⟩:=jV I h1;obtain⟨i2,r2,p2⟩:=jV I k1;simp only [depD] at hu;refine SeqAt.EqAt.of_refs hab ?_;have:=SeqAt.RcAt.tuples (A:=A) (e:=λj=>eqD (dGet ds j) (dGet es j)) p1 p2 (by lia) (vK I ds es A.in1 vs us i1 i2 (by show A.units+1+_<_;lia) h2 k2 r1 r2);rw [Jf (by rw [uh,← r1.length,h2.len]) (by rw [uh,← r2.length,k2.len])] at this;simp only [eqD];exact this
 | .ls ds,.ls es,A,x,y,u,w,hu,h,k,ru,rw'=>by
  have hh:=h;have kk:=k;simp only [IsDt] at h k;obtain⟨a,vs,rfl,h1,h2⟩:=h;obtain⟨b,us,rfl,k1,k2⟩:=k;cases ru;cases rw';by_cases hab:a=b
  ·subst hab;rw [Je hh kk];exact SeqAt.EqAt.same _
  obtain⟨i1,r1,p1⟩:=jF I h1;obtain⟨i2,r2,p2⟩:=jF I k1;have l1:=r1.length;have l2:=r2.length;have l3:=h2.len;have l4:=k2.len;simp only [depD] at hu;refine SeqAt.EqAt.of_refs hab ?_;simp only [eqD];by_cases hl:ds.length=es.length
  ·have:=SeqAt.RcAt.lists (A:=A) (e:=λj=>eqD (dGet ds j) (dGet es j)) p1 p2 (by simp;lia) (by lia) (vK I ds es A.in1 vs us i1 i2 (by show A.units+1+_<_;lia) h2 k2 r1 r2);rw [uh,← l1,← l3,yo hl] at this;exact this
  ·rw [yn hl];exact SeqAt.RcAt.lists_lengths p1 p2 (by simp;lia) (by lia)
 | .fl x,.tp es,A,x',y,u,w,hu,h,k,ru,rw'=>by
  simp only [IsDt] at h k;obtain⟨rfl,f⟩:=h;obtain⟨b,us,rfl,k1,k2⟩:=k;cases rw';obtain⟨i2,r2,p2⟩:=jV I k1;simp only [eqD];have hu:A.units<cLine:=by lia
  cases x' with
  | non=>cases ru;exact SeqAt.EqAt.none_tuple p2 hu
  | bl z=>cases ru;exact SeqAt.EqAt.bool_tuple z p2 hu
  | int z=>obtain⟨t,rfl⟩:=ru;exact SeqAt.EqAt.int_tuple z t p2 hu
  | str z=>obtain⟨t,rfl⟩:=ru;exact SeqAt.EqAt.str_tuple z t p2 hu
  | byt z=>simp [zH] at f
  | flt z=>simp [zH] at f
  | ref z=>simp [zH] at f
  | ty z=>simp [zH] at f
 | .fl x,.ls es,A,x',y,u,w,hu,h,k,ru,rw'=>by
  simp only [IsDt] at h k;obtain⟨rfl,f⟩:=h;obtain⟨b,us,rfl,k1,k2⟩:=k;cases rw';obtain⟨i2,r2,p2⟩:=jF I k1;simp only [eqD];have hu:A.units<cLine:=by lia
  cases x' with
  | non=>cases ru;exact SeqAt.EqAt.none_list p2 hu
  | bl z=>cases ru;exact SeqAt.EqAt.bool_list z p2 hu
  | int z=>obtain⟨t,rfl⟩:=ru;exact SeqAt.EqAt.int_list z t p2 hu
  | str z=>obtain⟨t,rfl⟩:=ru;exact SeqAt.EqAt.str_list z t p2 hu
  | byt z=>simp [zH] at f
  | flt z=>simp [zH] at f
  | ref z=>simp [zH] at f
  | ty z=>simp [zH] at f
 | .tp ds,.fl y,A,x,y',u,w,hu,h,k,ru,rw'=>by
  simp only [IsDt] at h k;obtain⟨rfl,f⟩:=k;obtain⟨b,us,rfl,k1,k2⟩:=h;cases ru;obtain⟨i2,r2,p2⟩:=jV I k1;simp only [eqD];have hu:A.units<cLine:=by lia
  cases y' with
  | non=>cases rw';exact SeqAt.EqAt.tuple_none p2 hu
  | bl z=>cases rw';exact SeqAt.EqAt.tuple_bool z p2 hu
  | int z=>obtain⟨t,rfl⟩:=rw';exact SeqAt.EqAt.tuple_int z t p2 hu
  | str z=>obtain⟨t,rfl⟩:=rw';exact SeqAt.EqAt.tuple_str z t p2 hu
  | byt z=>simp [zH] at f
  | flt z=>simp [zH] at f
  | ref z=>simp [zH] at f
  | ty z=>simp [zH] at f
 | .ls ds,.fl y,A,x,y',u,w,hu,h,k,ru,rw'=>by
  simp only [IsDt] at h k;obtain⟨rfl,f⟩:=k;obtain⟨b,us,rfl,k1,k2⟩:=h;cases ru;obtain⟨i2,r2,p2⟩:=jF I k1;simp only [eqD];have hu:A.units<cLine:=by lia
  cases y' with
  | non=>cases rw';exact SeqAt.EqAt.list_none p2 hu
  | bl z=>cases rw';exact SeqAt.EqAt.list_bool z p2 hu
  | int z=>obtain⟨t,rfl⟩:=rw';exact SeqAt.EqAt.list_int z t p2 hu
  | str z=>obtain⟨t,rfl⟩:=rw';exact SeqAt.EqAt.list_str z t p2 hu
  | byt z=>simp [zH] at f
  | flt z=>simp [zH] at f
  | ref z=>simp [zH] at f
  | ty z=>simp [zH] at f
 | .tp ds,.ls es,A,x,y,u,w,hu,h,k,ru,rw'=>by simp only [IsDt] at h k;obtain⟨a,vs,rfl,h1,h2⟩:=h;obtain⟨b,us,rfl,k1,k2⟩:=k;cases ru;cases rw';obtain⟨i1,r1,p1⟩:=jV I h1;obtain⟨i2,r2,p2⟩:=jF I k1;simp only [eqD];exact SeqAt.EqAt.tuple_list p1 p2 (by omega)
 | .ls ds,.tp es,A,x,y,u,w,hu,h,k,ru,rw'=>by simp only [IsDt] at h k;obtain⟨a,vs,rfl,h1,h2⟩:=h;obtain⟨b,us,rfl,k1,k2⟩:=k;cases ru;cases rw';obtain⟨i1,r1,p1⟩:=jF I h1;obtain⟨i2,r2,p2⟩:=jV I k1;simp only [eqD];exact SeqAt.EqAt.list_tuple p1 p2 (by omega)
theorem vK (I:Inv X pins σ H s):∀ (ds es:List Dat) (A:Around) (xs ys:List V) (us ws:Lf),A.units+xr ds<cLine->IsDs H ds xs->IsDs H es ys->Vals xs us->Vals ys ws ->
  ∀ j (h1:j<us.toArray.size) (h2:j<ws.toArray.size),SeqAt.EqAt A s us.toArray[j] ws.toArray[j] (eqD (dGet ds j) (dGet es j))
 | [],es,A,xs,ys,us,ws,hu,h,k,ru,rw',j,h1,h2=>by simp only [IsDs] at h;subst h;have:=ru.length;rw [uh] at h1;simp at this;omega
 | d::ds,[],A,xs,ys,us,ws,hu,h,k,ru,rw',j,h1,h2=>by simp only [IsDs] at k;subst k;have:=rw'.length;rw [uh] at h2;simp at this;omega
 | d::ds,e::es,A,xs,ys,us,ws,hu,h,k,ru,rw',j,h1,h2=>by
  simp only [IsDs] at h k;obtain⟨v,r,rfl,a1,a2⟩:=h;obtain⟨v',r',rfl,b1,b2⟩:=k;simp only [xr] at hu;cases ru with
  | cons q1 q2=>
   cases rw' with
   | cons q3 q4=>
    cases j with
    | zero=>exact zce I d e A _ _ _ _ (by omega) a1 b1 q1 q3
    | succ j=>have:=vK I ds es A _ _ _ _ (by omega) a2 b2 q2 q4 j (by simpa using h1) (by simpa using h2);simpa [dGet] using this
end
end
section
variable {X:Cx}
noncomputable def rEqD:R2:=λx y H Q=>∃ d e a b,x=.ref a/\y=.ref b/\IsDt H d (.ref a)/\IsDt H e (.ref b)/\depD d<=50/\Q (.bl (eqD d e)) H
noncomputable def rNeD:R2:=λx y H Q=>∃ d e a b,x=.ref a/\y=.ref b/\IsDt H d (.ref a)/\IsDt H e (.ref b)/\depD d<=50/\Q (.bl (!eqD d e)) H
theorem Yz (hu:X.A.units+64<cLine):OpR X (compareOp .Eq) rEqD:=by
 intro pins s σ H x y v u Q I rx ry h;obtain⟨d,e,a,b,rfl,rfl,h,k,hd,q⟩:=h;cases rx;cases ry
 match d,e,h,k,hd,q with
 | .tp ds,.tp es,h,k,hd,q=>simp only [IsDt] at h k;obtain⟨_,vs,e1,h1,h2⟩:=h;obtain⟨_,us,e2,k1,k2⟩:=k;cases e1;cases e2;obtain⟨i1,r1,p1⟩:=jV I h1;obtain⟨i2,r2,p2⟩:=jV I k1;simp only [depD] at hd;refine SeqAt.eq_tupleAt (e:=λj=>eqD (dGet ds j) (dGet es j)) p1 p2 (by omega) (vK I ds es X.A.in1 vs us i1 i2 (by show X.A.units+1+_<_;omega) h2 k2 r1 r2) ⟨.bl _,H,I,rfl,?_⟩;rw [Jf (by rw [uh,← r1.length,h2.len]) (by rw [uh,← r2.length,k2.len])];exact q
 | .ls ds,.ls es,h,k,hd,q=>
  simp only [IsDt] at h k;obtain⟨_,vs,e1,h1,h2⟩:=h;obtain⟨_,us,e2,k1,k2⟩:=k;cases e1;cases e2;obtain⟨i1,r1,p1⟩:=jF I h1;obtain⟨i2,r2,p2⟩:=jF I k1;have l1:=r1.length;have l2:=r2.length;have l3:=h2.len;have l4:=k2.len;simp only [depD] at hd;by_cases hl:ds.length=es.length
  ·refine SeqAt.eq_listAt (e:=λj=>eqD (dGet ds j) (dGet es j)) p1 p2 (by simp;lia) (by lia) (vK I ds es X.A.in1 vs us i1 i2 (by show X.A.units+1+_<_;lia) h2 k2 r1 r2) ⟨.bl _,H,I,rfl,?_⟩;rw [uh,← l1,← l3,yo hl];exact q
  ·refine SeqAt.eq_list_lengthsAt p1 p2 (by simp;lia) (by lia) ⟨.bl _,H,I,rfl,?_⟩;simp only [eqD] at q;rw [yn hl] at q;exact q
 | .tp ds,.ls es,h,k,hd,q=>simp only [IsDt] at h k;obtain⟨_,vs,e1,h1,h2⟩:=h;obtain⟨_,us,e2,k1,k2⟩:=k;cases e1;cases e2;obtain⟨i1,r1,p1⟩:=jV I h1;obtain⟨i2,r2,p2⟩:=jF I k1;exact SeqAt.RcAt.tuple_list p1 p2 (by omega) _ _ _ _ ⟨.bl _,H,I,rfl,q⟩
 | .ls ds,.tp es,h,k,hd,q=>simp only [IsDt] at h k;obtain⟨_,vs,e1,h1,h2⟩:=h;obtain⟨_,us,e2,k1,k2⟩:=k;cases e1;cases e2;obtain⟨i1,r1,p1⟩:=jF I h1;obtain⟨i2,r2,p2⟩:=jV I k1;exact SeqAt.RcAt.list_tuple p1 p2 (by omega) _ _ _ _ ⟨.bl _,H,I,rfl,q⟩
 | .fl x,e,h,k,hd,q=>simp only [IsDt] at h;obtain⟨rfl,f⟩:=h;simp [zH] at f
 | .tp ds,.fl x,h,k,hd,q=>simp only [IsDt] at k;obtain⟨rfl,f⟩:=k;simp [zH] at f
 | .ls ds,.fl x,h,k,hd,q=>simp only [IsDt] at k;obtain⟨rfl,f⟩:=k;simp [zH] at f
theorem kn (hu:X.A.units+64<cLine):OpR X (compareOp .NotEq) rNeD:=by
 intro pins s σ H x y v u Q I rx ry h;obtain⟨d,e,a,b,rfl,rfl,h,k,hd,q⟩:=h;cases rx;cases ry
 match d,e,h,k,hd,q with
 | .tp ds,.tp es,h,k,hd,q=>simp only [IsDt] at h k;obtain⟨_,vs,e1,h1,h2⟩:=h;obtain⟨_,us,e2,k1,k2⟩:=k;cases e1;cases e2;obtain⟨i1,r1,p1⟩:=jV I h1;obtain⟨i2,r2,p2⟩:=jV I k1;simp only [depD] at hd;refine SeqAt.RcNeAt.tuples (e:=λj=>eqD (dGet ds j) (dGet es j)) p1 p2 (by omega) (vK I ds es X.A.in1 vs us i1 i2 (by show X.A.units+1+_<_;omega) h2 k2 r1 r2) _ _ _ _ ⟨.bl _,H,I,rfl,?_⟩;rw [Jf (by rw [uh,← r1.length,h2.len]) (by rw [uh,← r2.length,k2.len])];exact q
 | .ls ds,.ls es,h,k,hd,q=>
  simp only [IsDt] at h k;obtain⟨_,vs,e1,h1,h2⟩:=h;obtain⟨_,us,e2,k1,k2⟩:=k;cases e1;cases e2;obtain⟨i1,r1,p1⟩:=jF I h1;obtain⟨i2,r2,p2⟩:=jF I k1;have l1:=r1.length;have l2:=r2.length;have l3:=h2.len;have l4:=k2.len;simp only [depD] at hd;by_cases hl:ds.length=es.length
  ·refine SeqAt.RcNeAt.lists (e:=λj=>eqD (dGet ds j) (dGet es j)) p1 p2 (by simp;lia) (by lia) (vK I ds es X.A.in1 vs us i1 i2 (by show X.A.units+1+_<_;lia) h2 k2 r1 r2) _ _ _ _ ⟨.bl _,H,I,rfl,?_⟩;rw [uh,← l1,← l3,yo hl];exact q
  ·refine SeqAt.RcNeAt.lists_lengths p1 p2 (by simp;lia) (by lia) _ _ _ _ ⟨.bl _,H,I,rfl,?_⟩;simp only [eqD] at q;rw [yn hl] at q;exact q
 | .tp ds,.ls es,h,k,hd,q=>simp only [IsDt] at h k;obtain⟨_,vs,e1,h1,h2⟩:=h;obtain⟨_,us,e2,k1,k2⟩:=k;cases e1;cases e2;obtain⟨i1,r1,p1⟩:=jV I h1;obtain⟨i2,r2,p2⟩:=jF I k1;exact SeqAt.RcNeAt.tuple_list p1 p2 (by omega) _ _ _ _ ⟨.bl _,H,I,rfl,q⟩
 | .ls ds,.tp es,h,k,hd,q=>simp only [IsDt] at h k;obtain⟨_,vs,e1,h1,h2⟩:=h;obtain⟨_,us,e2,k1,k2⟩:=k;cases e1;cases e2;obtain⟨i1,r1,p1⟩:=jF I h1;obtain⟨i2,r2,p2⟩:=jV I k1;exact SeqAt.RcNeAt.list_tuple p1 p2 (by omega) _ _ _ _ ⟨.bl _,H,I,rfl,q⟩
 | .fl x,e,h,k,hd,q=>simp only [IsDt] at h;obtain⟨rfl,f⟩:=h;simp [zH] at f
 | .tp ds,.fl x,h,k,hd,q=>simp only [IsDt] at k;obtain⟨rfl,f⟩:=k;simp [zH] at f
 | .ls ds,.fl x,h,k,hd,q=>simp only [IsDt] at k;obtain⟨rfl,f⟩:=k;simp [zH] at f
end
noncomputable abbrev Tx:=Lc
noncomputable def tx (x:Tx):V:=.str (S x)
noncomputable abbrev ft (x:Tx):Dat:=.fl (.str (S x))
structure MS where
 mode:Tx
 word:Tx
 opens:List Tx
 talk:Tx
noncomputable abbrev Ev:=List Tx
noncomputable abbrev Ans:=Option (MS×List Ev)
noncomputable abbrev jL:Tx:=[116,101,120,116]
noncomputable abbrev zaa:Tx:=[109,97,114,107]
noncomputable abbrev zcf:Tx:=[111,112,101,110]
noncomputable abbrev zab:Tx:=[110,97,109,101]
noncomputable abbrev YA:Tx:=[115,108,97,115,104]
noncomputable abbrev zac:Tx:=[115,104,117,116]
noncomputable abbrev mGap:Tx:=[103,97,112]
noncomputable abbrev zad:Tx:=[97,116,116,114]
noncomputable abbrev mIs:Tx:=[105,115]
noncomputable abbrev zcg:Tx:=[98,97,110,103]
noncomputable abbrev jW:Tx:=[98,97,114,101]
noncomputable abbrev zae:Tx:=[99,111,100,101]
noncomputable abbrev mRow:Tx:=[114,111,119]
noncomputable abbrev WZ:Tx:=[115,116,114,111,107,101]
noncomputable abbrev qf:Tx:=[113,117,111,116,101,100]
noncomputable abbrev W0:Tx:=[113,109,97,114,107]
noncomputable abbrev X9:Tx:=[100,111,110,101]
noncomputable abbrev vz:Tx:=[116,97,108,107]
noncomputable abbrev W2:Tx:=[116,109,97,114,107]
noncomputable abbrev Qm:Tx:=[97,115,105,115]
noncomputable abbrev eBox:Tx:=[98,111,120]
noncomputable abbrev yp:Tx:=[97,116,116,114]
noncomputable abbrev eIn:Tx:=[105,110]
noncomputable abbrev jv:Tx:=[115,105,103,110]
noncomputable abbrev zch:Tx:=[110,101,120,116]
noncomputable abbrev zci:Tx:=[119,111,114,100]
noncomputable abbrev zeP:Tx:=[115,97,105,100]
noncomputable abbrev eOut:Tx:=[111,117,116]
noncomputable abbrev q9:Tx:=[98,101,116,119,101,101,110]
noncomputable abbrev y4:Tx:=[119,111,114,100]
noncomputable abbrev wA:Tx:=[115,97,105,100]
noncomputable abbrev QK:Tx:=[115,116,114,111,107,101]
noncomputable abbrev vL:Tx:=[60,47,97,115,105,115,62]
noncomputable abbrev lt:Tx:=[97,98,99,100,101,102,103,104,105,106,107,108,109,110,111,112,113,114,115,116,117,118,119,120,121,122]
noncomputable def qq (m:Tx)(op:List Tx)(es:List Ev):Ans:=some (⟨m,[],op,[]⟩,es)
noncomputable def y7 (m:Tx)(op:List Tx):Option Nat->Ans
 | none=>none
 | some c=>qq m op [[jv,[c]]]
noncomputable def gath (m w:Tx)(op:List Tx)(t:Tx)(n:Nat):Ans:=if n<w.length then none else some (⟨m,w,op,t⟩,[])
noncomputable def vM (op:List Tx)(es:List Ev):Ans:=if op=[] then none else qq jL op.dropLast (es++[[eOut]])
noncomputable def QL (op:List Tx)(es:List Ev):Ans:=if op=[] then none else qq (if op.getLast? = some Qm then Qm else jL) op (es++[[eIn]])
noncomputable def Jg (op:List Tx)(c:Nat)(es:List Ev):Ans:=if c=32 then qq mGap op es else if c=47 then qq YA op es else if c=62 then QL op es else none
noncomputable def fedB (c:Nat):Option (Tx×List Ev):=if c=32 then some (q9,[]) else if c=39 then some (wA,[[zeP]]) else if c∈ws then some (y4,[[zci],[jv,[c]]]) else none
noncomputable def fedW (c:Nat):Option (Tx×List Ev):=if c∈ws then some (y4,[[jv,[c]]]) else fedB c
noncomputable def fedS (c:Nat):Option (Tx×List Ev):=if c=39 then some (q9,[]) else if c=92 then some (QK,[]) else some (wA,[[jv,[c]]])
noncomputable def Jh (t:Tx)(c:Nat):Option (Tx×List Ev):=if t=q9 then fedB c else if t=y4 then fedW c else if t=wA then fedS c else if t=QK then some (wA,[[jv,[c]]]) else none
noncomputable def fedM (op:List Tx)(t:Tx)(c:Option Nat):Ans:=match c with
 | none=>none
 | some c=>match Jh t c with
  | none=>none
  | some (t',es)=>some (⟨vz,[],op,t'⟩,es)
noncomputable def Qn (w:Tx)(c:Nat):Option Nat:=if c=59 then L2.told w else none
noncomputable abbrev AtF:=Tx->List Tx->Tx->Nat->Ans
noncomputable def Va:AtF:=λ_ op _ c=>if c=60 then qq zcf op [] else if c=38 then qq zaa op [] else y7 jL op (some c)
noncomputable def Vb:AtF:=λw op _ c=>if c∈fg then gath zaa (w++[c]) op [] 2 else y7 jL op (Qn w c)
noncomputable def Vc:AtF:=λ_ op _ c=>if c=47 then qq zac op [] else if c∈lt then gath zab [c] op [] 8 else none
noncomputable def aName:AtF:=λw op _ c=>if c∈lt then gath zab (w++[c]) op [] 8 else Jg (op++[w]) c [[eBox,w]]
noncomputable def Ji:AtF:=λ_ op _ c=>if c=62 then vM op [[eIn]] else none
noncomputable def Vd:AtF:=λw op _ c=>if c∈lt then gath zac (w++[c]) op [] 8 else if c=62/\op.getLast? = some w then vM op [] else none
noncomputable def aGap:AtF:=λ_ op _ c=>if c∈lt then gath zad [c] op [] 8 else none
noncomputable def Ve:AtF:=λw op _ c=>if c∈lt then gath zad (w++[c]) op [] 8 else if c=58 then qq jW op [[yp,w,jW]] else if c=40 then qq mRow op [[yp,w,mRow]] else if c=61 then some (⟨mIs,w,op,[]⟩,[]) else if c=33 then some (⟨zcg,w,op,[]⟩,[]) else none
noncomputable def aIs:AtF:=λw op _ c=>if c=34 then qq qf op [[yp,w,qf]] else none
noncomputable def Vf:AtF:=λw op _ c=>if c=34 then some (⟨vz,[],op,q9⟩,[[yp,w,vz]]) else none
noncomputable def Vg:AtF:=λ_ op _ c=>if c∈ws then y7 jW op (some c) else if c=126 then qq zae op [] else Jg op c []
noncomputable def Vh:AtF:=λw op _ c=>if w=[] then(if c∈fg then some (⟨zae,[c],op,[]⟩,[]) else none) else y7 jW op (L2.told (w++[c]))
noncomputable def aRow:AtF:=λ_ op _ c=>if c=92 then qq WZ op [] else if c=44 then qq mRow op [[zch]] else if c=41 then qq X9 op [] else y7 mRow op (some c)
noncomputable def Zj:AtF:=λ_ op _ c=>y7 mRow op (some c)
noncomputable def Zk:AtF:=λ_ op _ c=>if c=34 then qq X9 op [] else if c=38 then qq W0 op [] else y7 qf op (some c)
noncomputable def Jj:AtF:=λw op _ c=>if c∈fg then gath W0 (w++[c]) op [] 2 else y7 qf op (Qn w c)
noncomputable def Vi:AtF:=λ_ op _ c=>Jg op c []
noncomputable def Vj:AtF:=λ_ op t c=>if c=38 then some (⟨W2,[],op,t⟩,[]) else if c=34 then(if t=q9\/t=y4 then qq X9 op [] else none) else fedM op t (some c)
noncomputable def Jk:AtF:=λw op t c=>if c∈fg then gath W2 (w++[c]) op t 2 else fedM op t (Qn w c)
noncomputable def Vk:AtF:=λw op _ c=>if w++[c]=vL then vM op [] else if (w++[c]).isPrefixOf vL then some (⟨Qm,w++[c],op,[]⟩,[]) else if c=60 then some (⟨Qm,[c],op,[]⟩,w.map λk=>[jv,[k]]) else qq Qm op ((w.map λk=>[jv,[k]])++[[jv,[c]]])
noncomputable def Wt:List (Tx×AtF):=[(jL,Va),(zaa,Vb),(zcf,Vc),(zab,aName),(YA,Ji),(zac,Vd),(mGap,aGap),(zad,Ve),(mIs,aIs),(zcg,Vf),(jW,Vg),(zae,Vh),(mRow,aRow),(WZ,Zj),(qf,Zk),(W0,Jj),(X9,Vi),(vz,Vj),(W2,Jk),(Qm,Vk)]
noncomputable def va (s:MS)(c:Nat):Ans:=match Wt.lookup s.mode with
 | none=>none
 | some f=>f s.word s.opens s.talk c
noncomputable def dS (s:MS):Dat:=.tp [ft s.mode,ft s.word,.tp (s.opens.map ft),ft s.talk]
noncomputable def dE (e:Ev):Dat:=.tp (e.map ft)
noncomputable def dEs (es:List Ev):Dat:=.ls (es.map dE)
def OpV (H:Hp)(a:Addr)(op:List Tx):Prop:=H a=some (.tup (op.map tx))
def StV (H:Hp)(v:V)(s:MS):Prop:=∃ p o,v=.ref p/\H p=some (.tup [tx s.mode,tx s.word,.ref o,tx s.talk])/\OpV H o s.opens
def EvV (H:Hp)(v:V)(e:Ev):Prop:=∃ a,v=.ref a/\H a=some (.tup (e.map tx))
inductive EvA (H:Hp):List V->List Ev->Prop
 | nil:EvA H [] []
 | cons {v:V} {e:Ev} {vs:List V} {es:List Ev}:EvV H v e->EvA H vs es->EvA H (v::vs) (e::es)
def EvL (H:Hp)(a:Addr)(es:List Ev):Prop:=∃ vs,H a=some (.lst vs)/\EvA H vs es
noncomputable def AnV (G:Addr->Prop)(H:Hp)(v:V):Ans->Prop
 | none=>v=.non
 | some (s,es)=>∃ p sa ea,v=.ref p/\H p=some (.tup [sa,.ref ea])/\StV H sa s/\EvL H ea es/\G ea
theorem OpV.mono {H H':Hp}{a:Addr}{op:List Tx}(h:OpV H a op)(g:Same H H'):OpV H' a op:=g _ _ h
theorem StV.mono {H H':Hp}{v:V}{s:MS}(h:StV H v s)(g:Same H H'):StV H' v s:=by obtain⟨p,o,e,h1,h2⟩:=h;exact⟨p,o,e,g _ _ h1,h2.mono g⟩
theorem EvV.mono {H H':Hp}{v:V}{e:Ev}(h:EvV H v e)(g:Same H H'):EvV H' v e:=by obtain⟨a,e1,h1⟩:=h;exact⟨a,e1,g _ _ h1⟩
theorem EvA.mono {H H':Hp}{vs:List V}{es:List Ev}(h:EvA H vs es)(g:Same H H'):EvA H' vs es:=by
 induction h with
 | nil=>exact .nil
 | cons h1 h2 ih=>exact .cons (h1.mono g) ih
theorem EvL.mono {H H':Hp}{a:Addr}{es:List Ev}(h:EvL H a es)(g:Same H H'):EvL H' a es:=by obtain⟨vs,h1,h2⟩:=h;exact⟨vs,g _ _ h1,h2.mono g⟩
theorem AnV.mono {G:Addr->Prop}{H H':Hp}{v:V}{r:Ans}(h:AnV G H v r)(g:Same H H'):AnV G H' v r:=by
 cases r with
 | none=>exact h
 | some x=>obtain⟨s,es⟩:=x;obtain⟨p,sa,ea,e1,h1,h2,h3,h4⟩:=h;exact⟨p,sa,ea,e1,g _ _ h1,h2.mono g,h3.mono g,h4⟩
theorem AnV.imp {G G':Addr->Prop}{H:Hp}{v:V}{r:Ans}(h:AnV G H v r)(k:∀ a,G a->G' a):AnV G' H v r:=by
 cases r with
 | none=>exact h
 | some x=>obtain⟨s,es⟩:=x;obtain⟨p,sa,ea,e1,h1,h2,h3,h4⟩:=h;exact⟨p,sa,ea,e1,h1,h2,h3,k _ h4⟩
theorem EvA.app {H:Hp}{vs us:List V}{es fs:List Ev}(h:EvA H vs es)(k:EvA H us fs):EvA H (vs++us) (es++fs):=by
 induction h with
 | nil=>exact k
 | cons h1 h2 ih=>exact .cons h1 ih
theorem EvA.len {H:Hp}{vs:List V}{es:List Ev}(h:EvA H vs es):vs.length=es.length:=by
 induction h with
 | nil=>rfl
 | cons h1 h2 ih=>rw [uu,uu,ih]
theorem xt {H:Hp}:∀ (l:List Tx),IsDs H (l.map ft) (l.map tx)
 | []=>by simp only [gF,IsDs]
 | x::l=>by simp only [uD,IsDs];exact⟨_,_,rfl,by simp only [IsDt];exact⟨rfl,rfl⟩,xt l⟩
theorem StV.dat {H:Hp}{v:V}{s:MS}(h:StV H v s):IsDt H (dS s) v:=by obtain⟨p,o,e,h1,h2⟩:=h;unfold dS;simp only [IsDt,IsDs];refine⟨p,_,e,h1,_,_,rfl,⟨rfl,rfl⟩,_,_,rfl,⟨rfl,rfl⟩,_,_,rfl,⟨o,_,rfl,h2,xt _⟩,_,_,rfl,⟨rfl,rfl⟩,rfl⟩
theorem EvV.dat {H:Hp}{v:V}{e:Ev}(h:EvV H v e):IsDt H (dE e) v:=by obtain⟨a,e1,h1⟩:=h;unfold dE;simp only [IsDt];exact⟨a,_,e1,h1,xt _⟩
theorem EvA.dat {H:Hp}{vs:List V}{es:List Ev}(h:EvA H vs es):IsDs H (es.map dE) vs:=by
 induction h with
 | nil=>simp only [gF,IsDs]
 | cons h1 h2 ih=>simp only [uD,IsDs];exact⟨_,_,rfl,h1.dat,ih⟩
theorem EvL.dat {H:Hp}{a:Addr}{es:List Ev}(h:EvL H a es):IsDt H (dEs es) (.ref a):=by obtain⟨vs,h1,h2⟩:=h;unfold dEs;simp only [IsDt];exact⟨a,_,rfl,h1,h2.dat⟩
theorem zj6 {G:Addr->Prop}{H:Hp}{p p1 oa ea:Addr}{m w t:Tx}{op:List Tx}{es:List Ev}(hp:H p=none)(hp1:upd H p (.tup [.str (S m),.str (S w),.ref oa,.str (S t)]) p1=none)(ho:OpV H oa op)(he:EvL H ea es)(hg:G ea) : Same H (upd (upd H p (.tup [.str (S m),.str (S w),.ref oa,.str (S t)])) p1 (.tup [.ref p,.ref ea]))/\AnV G (upd (upd H p (.tup [.str (S m),.str (S w),.ref oa,.str (S t)])) p1 (.tup [.ref p,.ref ea])) (.ref p1) (some (⟨m,w,op,t⟩,es)):=by have g1:Same H (upd H p (.tup [.str (S m),.str (S w),.ref oa,.str (S t)])):=zb hp;have g2:=zb (o:=.tup [.ref p,.ref ea]) hp1;refine⟨g1.trans g2,p1,.ref p,ea,rfl,zd,⟨p,oa,rfl,g2 _ _ zd,ho.mono (g1.trans g2)⟩,he.mono (g1.trans g2),hg⟩
theorem evl0 {H:Hp}{q:Addr}:EvL (upd H q (.lst [])) q []:=⟨[],zd,.nil⟩
theorem evl1 {H:Hp}{p q:Addr}{e:Ev}(hq:upd H p (.tup (e.map tx)) q=none):EvL (upd (upd H p (.tup (e.map tx))) q (.lst [.ref p])) q [e]:= ⟨_,zd,.cons ⟨p,rfl,zb hq _ _ zd⟩ .nil⟩
noncomputable def TkV (G:Addr->Prop)(H:Hp)(v:V):Option (Tx×List Ev)->Prop
 | none=>v=.non
 | some (t,es)=>∃ p ea,v=.ref p/\H p=some (.tup [tx t,.ref ea])/\EvL H ea es/\G ea
theorem TkV.mono {G:Addr->Prop}{H H':Hp}{v:V}{r:Option (Tx×List Ev)}(h:TkV G H v r)(g:Same H H'):TkV G H' v r:=by
 cases r with
 | none=>exact h
 | some x=>obtain⟨s,es⟩:=x;obtain⟨p,ea,e1,h1,h2,h3⟩:=h;exact⟨p,ea,e1,g _ _ h1,h2.mono g,h3⟩
theorem Qo {G:Addr->Prop}{H:Hp}{p ea:Addr}{t:Tx}{es:List Ev}(hp:H p=none)(he:EvL H ea es)(hg:G ea):Same H (upd H p (.tup [.str (S t),.ref ea]))/\TkV G (upd H p (.tup [.str (S t),.ref ea])) (.ref p) (some (t,es)):= ⟨zb hp,p,ea,rfl,zd,he.mono (zb hp),hg⟩
theorem Zl {G:Addr->Prop}{H:Hp}{p p2 oa ea:Addr}{m w t:Tx}{op:List Tx}{es:List Ev}(h1:H p=some (.tup [.str (S m),.str (S w),.ref oa,.str (S t)]))(ho:OpV H oa op)(he:EvL H ea es)(hg:G ea)(hp2:H p2=none) : AnV G (upd H p2 (.tup [.ref p,.ref ea])) (.ref p2) (some (⟨m,w,op,t⟩,es)):=by have g2:=zb (o:=.tup [.ref p,.ref ea]) hp2;exact⟨p2,.ref p,ea,rfl,zd,⟨p,oa,rfl,g2 _ _ h1,ho.mono g2⟩,he.mono g2,hg⟩
theorem zaf {K:Frag}{H:Hp}{a:Addr}{xs:List V}(h:H a=some (.tup xs)):TruV K (.ref a) H (!xs.isEmpty):=.inr (.inl ⟨xs,SqT.of h,rfl⟩)
theorem zcj (xs:List V):cutV xs none (some (-1))=xs.dropLast:=by
 unfold cutV;rw [HT.sIx_none,U2,Nat.sub_zero];have:HT.sIx xs.length xs.length (some (-1))=xs.length - 1:=by unfold HT.sIx;simp only [];rw [uf (by decide)];lia
 rw [this,List.dropLast_eq_take]
theorem Vl (xs:List V):cutV xs (some (-1)) none=xs.drop (xs.length - 1):=by
 unfold cutV;have:HT.sIx xs.length 0 (some (-1))=xs.length - 1:=by unfold HT.sIx;simp only [];rw [uf (by decide)];lia
 rw [this,HT.sIx_none];exact gG (by rw [Gm];lia)
theorem map_dropLast (op:List Tx):(op.map tx).dropLast=op.dropLast.map tx:=by rw [List.map_dropLast]
theorem qg {H H':Hp}{p:Addr}(g:Same H H')(h:H' p=none):H p=none:=by
 cases e:H p with
 | none=>rfl
 | some o=>rw [g _ _ e] at h;cases h
theorem zbc {α:Type}(xs:List α):atI xs (-1)=xs.getLast?:=by
 unfold atI ixN;rw [ub (by decide)];cases xs with
 | nil=>rfl
 | cons x xs=>rw [uf (by rw [uu];omega),List.getLast?_eq_getElem?];simp only [UJ];congr 1;simp;omega
theorem zck (l:List Tx):(l.map tx).all zH=true:=by rw [gB];intro v hv;obtain⟨x,_,rfl⟩:=gI.mp hv;rfl
theorem zbd {l:List V}{n:Nat}(h:l.all zH=true):(l.drop n).all zH=true:=by rw [gB] at h ⊢;exact λv hv=>h v (List.mem_of_mem_drop hv)
theorem zag (a b:Tx):(S a == S b)=decide (a=b):=by rw [UB,Uk,Qj,Uj]
theorem zeh (op:List Tx)(w:Tx):eqS ((op.map tx).drop ((op.map tx).length - 1)) [.str (S w)]=decide (op.getLast? = some w):=by
 rcases List.eq_nil_or_concat op with rfl | ⟨l,z,rfl⟩
 ·rfl
 ·have e:((l++[z]).map tx).drop (((l++[z]).map tx).length - 1)=[tx z]:=by
   rw [UD,ug]
   simp
  rw [List.concat_eq_append,e,List.getLast?_append]
  simp [eqS,eqV,tx,zag]
theorem QM (a:Tx)(l:List Tx):inV (.str (S a)) (l.map λx=>.str (S x))=decide (a∈l):=by
 unfold inV
 induction l with
 | nil=>rfl
 | cons x l ih=>rw [uD,Ui,ih];show((S x == S a)||decide (a∈l))=decide (a∈x::l);rw [zag,UB,Bool.or_eq_true,Uj,Uj,Uj,uy];exact⟨λh=>h.elim (λe=>.inl e.symm) .inr,λh=>h.elim (λe=>.inl e.symm) .inr⟩
theorem OpV.updL {H:Hp}{a p:Addr}{op:List Tx}{xs ys:List V}(h:OpV H a op)(hp:H p=some (.lst xs)):OpV (upd H p (.lst ys)) a op:=by unfold OpV at h ⊢;rw [zr (KI h hp (by intro z;cases z))];exact h
theorem StV.updL {H:Hp}{v:V}{s:MS}{p:Addr}{xs ys:List V}(h:StV H v s)(hp:H p=some (.lst xs)):StV (upd H p (.lst ys)) v s:=by obtain⟨q,o,e,h1,h2⟩:=h;exact⟨q,o,e,by rw [zr (KI h1 hp (by intro z;cases z))];exact h1,h2.updL hp⟩
theorem EvV.updL {H:Hp}{v:V}{e:Ev}{p:Addr}{xs ys:List V}(h:EvV H v e)(hp:H p=some (.lst xs)):EvV (upd H p (.lst ys)) v e:=by obtain⟨q,e1,h1⟩:=h;exact⟨q,e1,by rw [zr (KI h1 hp (by intro z;cases z))];exact h1⟩
theorem EvA.updL {H:Hp}{vs:List V}{es:List Ev}{p:Addr}{xs ys:List V}(h:EvA H vs es)(hp:H p=some (.lst xs)):EvA (upd H p (.lst ys)) vs es:=by
 induction h with
 | nil=>exact .nil
 | cons h1 h2 ih=>exact .cons (h1.updL hp) ih
noncomputable def runM:MS->Lc->Except Nat (MS×List Ev)
 | s,[]=>.ok (s,[])
 | s,c::r=>match va s c with
  | none=>.error 0
  | some (s',es)=>match runM s' r with
   | .error n=>.error (n+1)
   | .ok (s'',fs)=>.ok (s'',es++fs)
def zhz (s:MS)(r:Ans):Prop:=∀ s' es,r=some (s',es)->s.word.length<=8->s'.word.length<=8/\s'.opens.length<=s.opens.length+1/\es.length<=10
theorem zj7:∀ e∈Wt,∀ (w:Tx) (op:List Tx) (t:Tx) (c:Nat) (s':MS) (es:List Ev),e.2 w op t c=some (s',es)->w.length<=8->s'.word.length<=8/\s'.opens.length<=op.length+1/\es.length<=10:=by
 have led:∀ op c es s' es',Jg op c es=some (s',es')->s'.word.length<=8/\s'.opens.length<=op.length/\es'.length<=es.length+1:=by
  intro op c es s' es' h;simp only [Jg,qq,QL] at h
  repeat' split at h
  all_goals (first | cases h | skip)
  all_goals simp
 have shut:∀ op es s' es',vM op es=some (s',es')->s'.word.length<=8/\s'.opens.length<=op.length/\es'.length<=es.length+1:=by
  intro op es s' es' h;simp only [vM,qq] at h;split at h
  ·cases h
  ·cases h;simp
 have toldK:∀ m op o s' es',y7 m op o=some (s',es')->s'.word.length<=8/\s'.opens.length<=op.length/\es'.length<=10:=by
  intro m op o s' es' h;cases o with
  | none=>cases h
  | some c=>cases h;simp
 have gathK:∀ m w op t n s' es',n<=8->gath m w op t n=some (s',es')->s'.word.length<=8/\s'.opens.length<=op.length/\es'.length<=10:=by
  intro m w op t n s' es' hn h;simp only [gath] at h;split at h
  ·cases h
  ·cases h;simp;lia
 have feedK:∀ t c t' es',Jh t c=some (t',es')->es'.length<=10:=by
  intro t c t' es' h;simp only [Jh,fedB,fedW,fedS] at h
  repeat' split at h
  all_goals (first | cases h | skip)
  all_goals simp
 have fedK:∀ op t o s' es',fedM op t o=some (s',es')->s'.word.length<=8/\s'.opens.length<=op.length/\es'.length<=10:=by
  intro op t o s' es' h;cases o with
  | none=>cases h
  | some c=>
   simp only [fedM] at h;cases hf:Jh t c with
   | none=>rw [hf] at h;cases h
   | some r=>obtain⟨t',fs⟩:=r;rw [hf] at h;cases h;exact⟨by simp,by simp,feedK _ _ _ _ hf⟩
 have pre:∀ l:Tx,l.isPrefixOf vL=true->l.length<=8:=by intro l h;rw [gp] at h;have:=h.length_le;simp at this;lia
 intro e he w op t c s' es h hw;simp only [Wt,uy,Gq,or_false] at he;rcases he with rfl | rfl | rfl | rfl | rfl | rfl | rfl | rfl | rfl | rfl | rfl | rfl | rfl | rfl | rfl | rfl | rfl | rfl | rfl | rfl;all_goals simp only [Va,Vb,Vc,aName,Ji,Vd,aGap,Ve,aIs,Vf,Vg,Vh,aRow,Zj,Zk,Jj,Vi,Vj,Jk,Vk] at h
 all_goals repeat' split at h
 all_goals first
  | (have:=toldK _ _ _ _ _ h;omega)
  | (have:=gathK _ _ _ _ _ _ _ (by decide) h;omega)
  | (have:=fedK _ _ _ _ _ h;omega)
  | (have:=led _ _ _ _ _ h;simp at this ⊢;omega)
  | (have:=shut _ _ _ _ h;simp at this ⊢;omega)
  | (cases h;simp;omega)
  | (cases h;simp;done)
  | (cases h;have:=pre _ (by assumption);simp at this ⊢;omega)
  | cases h
theorem zah (s:MS)(c:Nat):zhz s (va s c):=by
 intro s' es h hw;unfold va at h;cases hl:Wt.lookup s.mode with
 | none=>rw [hl] at h;cases h
 | some f=>
  rw [hl] at h
  have hm:(s.mode,f)∈Wt:=by
   have:∀ (l:List (Tx×AtF)),l.lookup s.mode=some f->(s.mode,f)∈l:=by
    intro l
    induction l with
    | nil=>intro z;cases z
    | cons e l ih=>
     intro z;rw [uY] at z;split at z
     ·rename_i hb;cases z;have:s.mode=e.1:=by simpa using hb
      rw [this];exact Ux
     ·exact uP _ (ih z)
   exact this _ hl
  exact zj7 _ hm _ _ _ _ _ _ h hw
theorem EvA.get {H:Hp}{vs:List V}{es:List Ev}{i:Nat}{v:V}(h:EvA H vs es)(e:vs[i]? = some v):∃ x,es[i]? = some x/\EvV H v x:=by
 induction h generalizing i with
 | nil=>simp at e
 | cons h1 h2 ih=>
  cases i with
  | zero=>simp at e;subst e;exact⟨_,rfl,h1⟩
  | succ i=>simpa using ih (i:=i) (by simpa using e)
theorem Vm:∀ l:List Tx,xr (l.map ft)=0
 | []=>by simp only [gF,xr]
 | x::l=>by simp only [uD,xr,depD,Vm l,Nat.max_self]
theorem dep_S (s:MS):depD (dS s)<=2:=by unfold dS;simp only [depD,xr,Vm];decide
end L2
namespace L2
open PySem PySem.Spec PyProof.Rows
section
variable {κ:Type} [DecidableEq κ]
noncomputable def valV (kvs:List (κ×V))(k:κ):Option V:=(kvs.find? λkv=>decide (kv.1=k)).map (·.2)
noncomputable def putK (kvs:List (κ×V))(k:κ)(v:V):List (κ×V):= if (kvs.any λkv=>decide (kv.1=k))=true then kvs.map (λkv=>if kv.1=k then(kv.1,v) else kv) else kvs++[(k,v)]
noncomputable def zeQ (kvs:List (κ×V))(k:κ):List (κ×V):=kvs.filter λkv=>decide (kv.1≠k)
theorem Zm {p:κ×V}{r:List (κ×V)}{k:κ}(e:p.1=k):valV (p::r) k=some p.2:=by simp [valV,US,e]
theorem Zn {p:κ×V}{r:List (κ×V)}{k:κ}(e:¬ p.1=k):valV (p::r) k=valV r k:=by simp [valV,US,e]
theorem Vn (k:κ):∀ kvs:List (κ×V),(kvs.any λkv=>decide (kv.1=k))=(valV kvs k).isSome
 | []=>rfl
 | p::r=>by
  rw [Ui];by_cases e:p.1=k
  ·simp only [Zm e,uQ e,gh,Option.isSome_some]
  ·rw [Zn e,uK e,Bool.false_or];exact Vn k r
theorem RelO.isSome_eq {o:Option V}{u:Option Value}(r:RelO o u):o.isSome=u.isSome:=by
 cases o with
 | none=>cases u with
  | none=>rfl
  | some _=>exact(show False from r).elim
 | some _=>cases u with
  | none=>exact(show False from r).elim
  | some _=>rfl
theorem RelO.getD {o:Option V}{u:Option Value}{d:V}{d':Value}(r:RelO o u)(rd:RelV d d'):RelV (o.getD d) (u.getD d'):=by
 cases o with
 | none=>cases u with
  | none=>exact rd
  | some _=>exact(show False from r).elim
 | some _=>cases u with
  | none=>exact(show False from r).elim
  | some _=>exact r
theorem KV.val {kvs:List (κ×V)}{vs:List (κ×Value)}(r:KV kvs vs)(k:κ):RelO (valV kvs k) (valueAt vs k):=by
 unfold KV at r
 induction r with
 | nil=>exact True.intro
 | @cons p q ps qs h t ih=>
  obtain⟨h1,h2⟩:=h;by_cases e:p.1=k
  ·have e':q.1=k:=h1.symm.trans e;have b:valueAt (q::qs) k=some q.2:=by simp [valueAt,US,e']
   rw [Zm e,b];exact h2
  ·have e':¬ q.1=k:=λz=>e (h1.trans z);have b:valueAt (q::qs) k=valueAt qs k:=by simp [valueAt,US,e']
   rw [Zn e,b];exact ih
theorem KV.any {kvs:List (κ×V)}{vs:List (κ×Value)}(r:KV kvs vs)(k:κ):(kvs.any λkv=>decide (kv.1=k))=vs.any λkv=>decide (kv.1=k):=by
 unfold KV at r
 induction r with
 | nil=>rfl
 | cons h t ih=>rw [Ui,Ui,ih,h.1]
theorem KV.repl {kvs:List (κ×V)}{vs:List (κ×Value)}(r:KV kvs vs)(k:κ){y:V}{u:Value}(ry:RelV y u) : KV (kvs.map λkv=>if kv.1=k then(kv.1,y) else kv) (vs.map λkv=>if kv.1=k then(kv.1,u) else kv):=by
 unfold KV at r ⊢
 induction r with
 | nil=>exact .nil
 | @cons p q ps qs h t ih=>
  rw [uD,uD];refine .cons ?_ ih;obtain⟨h1,h2⟩:=h;by_cases e:p.1=k
  ·rw [uf e,uf (h1.symm.trans e)];exact⟨h1,ry⟩
  ·rw [ub e,ub (λz=>e (h1.trans z))];exact⟨h1,h2⟩
theorem KV.put {kvs:List (κ×V)}{vs:List (κ×Value)}(r:KV kvs vs)(k:κ){y:V}{u:Value}(ry:RelV y u):KV (putK kvs k y) (stored vs k u):=by
 unfold putK stored;rw [r.any k];by_cases e:(vs.any λkv=>decide (kv.1=k))=true
 ·rw [uf e,uf e];exact r.repl k ry
 ·rw [ub e,ub e];exact Paired.snoc r ⟨rfl,ry⟩
theorem KV.drop {kvs:List (κ×V)}{vs:List (κ×Value)}(r:KV kvs vs)(k:κ):KV (zeQ kvs k) (without vs k):=by
 unfold KV at r ⊢;unfold zeQ without
 induction r with
 | nil=>exact .nil
 | @cons p q ps qs h t ih=>
  obtain⟨h1,h2⟩:=h;rw [Gs,Gs];by_cases e:p.1=k
  ·have a:¬ decide (p.1≠k)=true:=by simp [e]
   have b:¬ decide (q.1≠k)=true:=by simp [h1.symm.trans e]
   rw [ub a,ub b];exact ih
  ·have e':¬ q.1=k:=λz=>e (h1.trans z);have a:decide (p.1≠k)=true:=by simp [e]
   have b:decide (q.1≠k)=true:=by simp [e']
   rw [uf a,uf b];exact .cons ⟨h1,h2⟩ ih
theorem KV.keys {kvs:List (κ×V)}{vs:List (κ×Value)}(r:KV kvs vs):kvs.map (·.1)=vs.map (·.1):=by
 unfold KV at r
 induction r with
 | nil=>rfl
 | cons h t ih=>rw [uD,uD,ih,h.1]
theorem KV.length {kvs:List (κ×V)}{vs:List (κ×Value)}(r:KV kvs vs):kvs.length=vs.length:=Paired.length r
end
theorem zj8 {P:Program}{w:World}{k:Key}{u:Value}(r:RelV (kV k) u):(jQ P w).is k u=true:=by
 cases k with
 | inl i=>obtain⟨t,e⟩:=(show ∃ t,u=Value.int i t from r);subst e;exact XR P w i t
 | inr x=>obtain⟨t,e⟩:=(show ∃ t,u=Value.str x t from r);subst e;exact XT P w x t
noncomputable abbrev KT (H:Hp):List (List Key×V)->List (List Key×Addr×Value)->Prop:=Paired λp q=>p.1=q.1/\H q.2.1=some (.tup (p.1.map kV))/\RelV p.2 q.2.2
theorem KT.val {H:Hp}{kvs:List (List Key×V)}{xs:List (List Key×Addr×Value)}(r:KT H kvs xs)(k:List Key):RelO (valV kvs k) ((atKey xs k).map (·.2)):=by
 induction r with
 | nil=>exact True.intro
 | @cons p q ps qs h t ih=>
  obtain⟨h1,_,h2⟩:=h;by_cases e:p.1=k
  ·have e':q.1=k:=h1.symm.trans e;have b:atKey (q::qs) k=some q.2:=by simp [atKey,US,e']
   rw [Zm e,b];exact h2
  ·have e':¬ q.1=k:=λz=>e (h1.trans z);have b:atKey (q::qs) k=atKey qs k:=by simp [atKey,US,e']
   rw [Zn e,b];exact ih
theorem KT.repl {H:Hp}{kvs:List (List Key×V)}{xs:List (List Key×Addr×Value)}(r:KT H kvs xs)(k:List Key){y:V}{u:Value}(ry:RelV y u) : KT H (kvs.map λkv=>if kv.1=k then(kv.1,y) else kv) (xs.map (putAt k u)):=by
 induction r with
 | nil=>exact .nil
 | @cons p q ps qs h t ih=>
  rw [uD,uD];refine .cons ?_ ih;obtain⟨h1,h2,h3⟩:=h;unfold putAt;by_cases e:p.1=k
  ·rw [uf e,uf (h1.symm.trans e)];exact⟨h1,h2,ry⟩
  ·rw [ub e,ub (λz=>e (h1.trans z))];exact⟨h1,h2,h3⟩
theorem KT.put {H:Hp}{kvs:List (List Key×V)}{xs:List (List Key×Addr×Value)}(r:KT H kvs xs)(k:List Key){b:Addr}{y:V}{u:Value}(hb:H b=some (.tup (k.map kV)))(ry:RelV y u) : KT H (putK kvs k y) (storedH xs k b u):=by
 have e:(kvs.any λkv=>decide (kv.1=k))=(atKey xs k).isSome:=by rw [Vn,(r.val k).isSome_eq,Option.isSome_map]
 unfold putK storedH;rw [e];by_cases q:(atKey xs k).isSome=true
 ·rw [uf q,uf q];exact r.repl k ry
 ·rw [ub q,ub q];exact Paired.snoc r ⟨rfl,hb,ry⟩
theorem KT.keeps {H H':Hp}{kvs:List (List Key×V)}{xs:List (List Key×Addr×Value)}(r:KT H kvs xs)(ht:∀ b ys,H b=some (.tup ys)->H' b=some (.tup ys)):KT H' kvs xs:= Paired.mapP r λ_ _ z=>⟨z.1,ht _ _ z.2.1,z.2.2⟩
section
variable {P:Program} {w:World} {H:Hp} {h:Heap} {a:Addr}
end
def DGet (H:Hp)(a:Addr)(y:V)(r:Option V):Prop:= (∃ kvs k,Rd H a (.dK kvs)/\y=kV k/\r=valV kvs k)\/∃ kvs k b,Rd H a (.dT kvs)/\y=.ref b/\H b=some (.tup (k.map kV))/\r=valV kvs k
def DPut (H:Hp)(a:Addr)(y v:V)(H':Hp):Prop:= (∃ kvs k,H a=some (.dK kvs)/\y=kV k/\kvs.length<sizeLine/\H' = upd H a (.dK (putK kvs k v))) \/ ∃ kvs k b,H a=some (.dT kvs)/\y=.ref b/\H b=some (.tup (k.map kV))/\kvs.length<sizeLine/\H' = upd H a (.dT (putK kvs k v))
theorem DGet.k {H:Hp}{a:Addr}{kvs:List (Key×V)}{k:Key}(e:H a=some (.dK kvs)):DGet H a (kV k) (valV kvs k):=.inl ⟨kvs,k,.inl e,rfl,rfl⟩
theorem DGet.t {H:Hp}{a b:Addr}{kvs:List (List Key×V)}{k:List Key}(e:H a=some (.dT kvs))(eb:H b=some (.tup (k.map kV))):DGet H a (.ref b) (valV kvs k):=.inr ⟨kvs,k,b,.inl e,rfl,eb,rfl⟩
theorem DPut.k {H:Hp}{a:Addr}{kvs:List (Key×V)}{k:Key}{v:V}(e:H a=some (.dK kvs))(hl:kvs.length<sizeLine):DPut H a (kV k) v (upd H a (.dK (putK kvs k v))):=.inl ⟨kvs,k,e,rfl,hl,rfl⟩
theorem DPut.t {H:Hp}{a b:Addr}{kvs:List (List Key×V)}{k:List Key}{v:V}(e:H a=some (.dT kvs))(eb:H b=some (.tup (k.map kV)))(hl:kvs.length<sizeLine) : DPut H a (.ref b) v (upd H a (.dT (putK kvs k v))):=.inr ⟨kvs,k,b,e,rfl,eb,hl,rfl⟩
section
variable {X:Cx} {pins:List (Addr×Obj)} {σ:St} {H:Hp} {s:Shared} {a:Addr} {y v:V} {u r:Value} {o:Option V} {A:Around} {E:Value->Shared->Prop}
end
section
variable {X:Cx} {pins:List (Addr×Obj)} {σ:St} {H:Hp} {s:Shared} {a:Addr} {kvs:List (Key×V)} {k:Key} {u:Value} {A:Around} {E:Value->Shared->Prop}
end
noncomputable def zj9 (td ty:TE):TE:=λσ H Q=>td σ H λx H1=>ty σ H1 λy H2=>∃ a v,x=.ref a/\DGet H2 a y (some v)/\Q v H2
section
variable {X:Cx} {o i e value:Expr} {pos pos' tpos:Pos} {td ty tv:TE}
end
section
variable {X:Cx} {pos:Pos}
end
noncomputable def YB:List (TE×TE)->St->Hp->(List (V×V)->Hp->Prop)->Prop
 | [],_,H,Q=>Q [] H
 | (tk,tv)::r,σ,H,Q=>tk σ H λx H1=>tv σ H1 λy H2=>YB r σ H2 λps H3=>Q ((x,y)::ps) H3
noncomputable def zcl (kvs more:List (Key×V)):List (Key×V):=more.foldl (λacc kv=>putK acc kv.1 kv.2) kvs
noncomputable def zka (trs:List (TE×TE)):TE:=λσ H Q=>∀ p,H p=none->YB trs σ (upd H p (.dK [])) λps H2=>H2 p=some (.dK [])/\∃ kvs:List (Key×V),ps=kvs.map (λkv=>(kV kv.1,kv.2))/\kvs.length<=15/\Q (.ref p) (upd H2 p (.dK (zcl [] kvs)))
def IsD (H:Hp)(a:Addr):Prop:=(∃ kvs,Rd H a (.dK kvs))\/∃ kvs,Rd H a (.dT kvs)
section
variable {X:Cx} {pins:List (Addr×Obj)} {σ:St} {H:Hp} {s:Shared} {a:Addr} {y d:V} {u r:Value} {o:Option V} {A:Around} {E:Value->Shared->Prop}
end
noncomputable def zhA (td ty tx:TE):TE:=λσ H Q=>td σ H λx H1=>∃ a,x=.ref a/\IsD H1 a/\ty σ H1 λy H2=>tx σ H2 λz H3=>∃ o,DGet H3 a y o/\Q (o.getD z) H3
section
variable {X:Cx} {o e f:Expr} {apos cpos:Pos} {td ty tx:TE}
end
section
variable {X:Cx} {pins:List (Addr×Obj)} {σ:St} {H:Hp} {s:Shared} {a:Addr} {kvs:List (Key×V)} {A:Around} {E:Value->Shared->Prop}
end
section
variable {X:Cx} {pins:List (Addr×Obj)} {σ:St} {H:Hp} {s:Shared} {a:Addr} {y:V} {u:Value} {A:Around} {E:Value->Shared->Prop}
end
end L2
namespace L2
open PySem PySem.Spec PySem.Calls PyProof.Rows PySem.W
section
variable {X:Cx} {k j:Nat} {x:Str} {p pos:Pos} {e:Expr} {es:Lg} {tf:TE} {t:TA}
def FnV (P:Program)(w:World)(K:Frag)(mg:La)(base:Heap)(k:Nat)(f:Addr)(sp:Sp):Prop:=∃ fd ps,keepIn K (.ref f)=true/\Binds K fd ps []/\FnOk P w K mg base CX0 k f fd ps sp
noncomputable def YC (P:Program)(w:World)(K:Frag)(mg:La)(base:Heap)(k:Nat)(tf:TE)(t:TA):TE:=λσ H Q=>tf σ H λv H0=>∃ f sp,v=.ref f/\FnV P w K mg base k f sp/\t σ H0 λvs H1=>sp vs H1 Q E0
theorem zcm (hf:PE X (.Name x p) tf)(hr:Room j X.A)(hk:k<=j)(ha:PA X (e::es) t) (he:starEach (e::es) X.env=(false,eval e X.env)::starEach es X.env:=by rfl) (hpl:(backTo pos (starEach es X.env)).any (·.1)=false:=by rfl) : PE X (.Call (.Name x p) (e::es) [] pos) (YC X.prog X.w X.K X.mg X.base k tf t):=by intro pins s σ H Q I h;refine uV (thn (hf pins s σ H _ I h) λu s0 ⟨v,H0,I0,r0,f,sp,ev,G,q⟩=>?_);subst ev;obtain rfl:u=Value.ref f:=r0;obtain⟨fd,ps,kp,b,G⟩:=G;refine Ug (h₀:=X.base) I0.ok.mod.kin kp (thn (ha pos pins s0 σ H0 _ I0 q) λus s1 ⟨vs,H1,I1,r,q⟩=>⟨I1.kIn,?_⟩) he hpl;exact Q5 (dvs:=[]) (ds:=[]) G (hr.mono hk) b .nil zbT I1 r (by rw [uz];exact q)
end
inductive EntK (w:World):List DictEntry->List (Key×V)->Prop
 | nil:EntK w [] []
 | cons {e:DictEntry} {k:Key} {v:V} {es:List DictEntry} {kvs:List (Key×V)}:e.hash=keyH w k->QX k e.key=true->RelV v e.val->EntK w es kvs->EntK w (e::es) ((k,v)::kvs)
theorem EntK.keys {P:Program}{w:World}{es:List DictEntry}{kvs:List (Key×V)}(h:EntK w es kvs):∀ e∈es,∃ k,(jQ P w).is k e.key=true/\e.hash=(jQ P w).hash k:=by
 induction h with
 | nil=>intro e he;cases he
 | cons h1 h2 h3 h4 ih=>
  intro e he;rcases uy.mp he with rfl | he
  ·exact⟨_,h2,h1⟩
  ·exact ih e he
theorem EntK.pairs {P:Program}{w:World}{es:List DictEntry}{kvs:List (Key×V)}(h:EntK w es kvs):∃ vs:List (Key×Value),PySem.Pairs (jQ P w) es vs/\KV kvs vs/\vs.map (·.1)=kvs.map (·.1):=by
 induction h with
 | nil=>exact⟨[],.nil,.nil,rfl⟩
 | @cons e k v es kvs h1 h2 h3 h4 ih=>obtain⟨vs,i1,i2,i3⟩:=ih;exact⟨(k,e.val)::vs,.cons h2 rfl i1,.cons ⟨rfl,h3⟩ i2,by rw [uD,uD,i3]⟩
def Vo (w:World)(K:Frag)(a:Addr)(kvs:List (Key×V)):Prop:=(a == sysModules)=false/\∃ o es ep,K.lookup a=some o/\o.ExactDict/\o.data=.dict es ep/\EntK w es.toList kvs/\(kvs.map (·.1)).Nodup
section
variable {X:Cx} {pins:List (Addr×Obj)} {σ:L2.St} {H:Hp} {s:Shared} {a:Addr} {kvs:List (Key×V)}
theorem Vo.at (I:Inv X pins σ H s)(h:Vo X.w X.K a kvs):(a == sysModules)=false/\∃ vs,KV kvs vs/\s.heap.DictOf (jQ X.prog X.w) a vs:=by obtain⟨h0,o,es,ep,h1,h2,h3,h4,h5⟩:=h;obtain⟨vs,i1,i2,i3⟩:=h4.pairs (P:=X.prog);exact⟨h0,vs,i2,o,es,ep,I.kIn a o h1,h2,h3,λe he=>h4.keys (P:=X.prog) e (by simpa using he),i1,by rw [i3];exact h5⟩
end
section
variable {X:Cx} {x:Str} {p apos cpos:Pos} {e f:Expr} {ty tx':TE} {kvs:List (Key×V)}
noncomputable def zcn (kvs:List (Key×V))(ty:TE):TE:=λσ H Q=>ty σ H λy H1=>∃ k,y=kV k/\Q ((valV kvs k).getD .non) H1
theorem zei (hm:∃ a,X.mg x=some (.ref a)/\Vo X.w X.K a kvs)(he:PE X e ty)(hg:Gl X x:=by rfl) (hd:(x == ("__debug__":Str))=false:=by decide) (hbase:attributeBase (.Name x p) "get" X.env (eval (.Name x p) X.env)=eval (.Name x p) X.env:=by rfl) (hfew:((backTo cpos (starEach [e] X.env)).all (λx=>!x.1)&&(backToKw cpos (keywordEach [] X.env)).all (λx=>x.1.isSome) && decide (([e]:Lg).length+([]:List Keyword).length+(if ([]:List Keyword).isEmpty then 0 else 1)<30))=true:=by rfl) (hline:(apos.endLine == cpos.line)=true:=by rfl) (htr:backTo cpos (starEach [e] X.env)=[(false,eval e X.env)]:=by rfl) : PE X (.Call (.Attribute (.Name x p) "get" apos) [e] [] cpos) (zcn kvs ty):=by
 intro pins s σ H Q I h;obtain⟨a,hm,D⟩:=hm;refine wpAny_Call_method hbase hfew hline PySem.F.plainAttrs_dict PySem.F.slot_dict_get PySem.F.type_dict_get (jR I hg hm ?_ hd);obtain⟨h0,vs,rel,dd⟩:=D.at I;refine⟨dd.typeIs,λb q=>?_,?_⟩
 ·cases q;obtain⟨ob,_,_,h1,h2,_⟩:=dd;exact⟨ob,h1,h2.2.1⟩
 rw [htr];refine Calls.callWith_builtin rfl (Calls.evalArgs_plain (Calls.spliced_cons (thn (he pins s σ H _ I h) λiv s2 ⟨y,H2,I2,ry,k,ey,q2⟩=>Calls.spliced_nil ?_)));subst ey;obtain⟨_,vs2,rel2,dd2⟩:=D.at I2;refine call_meetsIn PySem.F.slot_dict_get dd2.typeIs PySem.F.entry_dict_get (PySem.F.args_dict_get_2 _ _) (meets_dict_get (jQ X.prog X.w) a (zj8 ry) h0) ⟨_,dd2.mapOf,_,H2,I2.tok _,?_,q2⟩;exact(rel2.val k).getD rfl
end
section
variable {X:Cx} {a:Expr} {ta:TE}
noncomputable def zco (K:Frag)(ta:TE):TT:=λσ H Q=>ta σ H λx H'=>∃ k,TruV K x H' k/\Q k H'
theorem zbe {K:Frag}(hK:X.K=K)(ha:PE X a ta)(he:∀ whole,isTrue a X.env whole=(do let v ← whole;standAt a.pos;holding [v] (truthy v)):=by intro _;rfl):PT X a (zco K ta):=by subst hK;exact zbF ha he
end
section
variable {X:Cx}
noncomputable def rIsA (K:Frag)(n:String):List V->Hp->VK->Prop:=λxs H Q=>∃ x t b,xs=[x,.ty n]/\TyOf K H x t/\PySem.W.kitOne K t (.type n)=some b/\Q (.bl b) H
noncomputable def zkb (K:Frag):List V->Hp->VK->Prop:=λxs H Q=>∃ p ys,xs=[.ref p]/\SqL K H p ys/\∀ l,H l=none->Q (.ref l) (upd H l (.tup ys))
noncomputable def zeR:R2:=λx y H Q=>∃ a b xs ys,x=.ref a/\y=.ref b/\H a=some (.tup xs)/\H b=some (.tup ys)/\xs.length+ys.length<=1000000/\∀ p H',Same H H'->H' p=some (.tup (xs++ys))->Q (.ref p) H'
theorem zej:OpR X (binaryOp .Add) zeR:=by
 intro pins s σ H x y v u Q I rx ry h;obtain⟨a,b,xs,ys,rfl,rfl,ha,hb,hz,q⟩:=h;by_cases hx:xs=[]
 ·subst hx;cases rx;cases ry;obtain⟨its,r1,p1,_⟩:=I.tuple (SqT.of ha);obtain⟨its2,r2,p2,_⟩:=I.tuple (SqT.of hb);obtain⟨⟨cls,dd,data,sl⟩,ho,hc,n,hd⟩:=id p1;obtain⟨⟨cls2,dd2,data2,sl2⟩,ho2,hc2,n2,hd2⟩:=id p2;simp only at hc hd hc2 hd2;subst hc hd hc2 hd2;have e0:its=[]:=r1.nil_iff.mpr rfl
  exact Ga ⟨_,ho,rfl⟩ ⟨_,ho2,rfl⟩ gD gT gE gz (gr _ _)
   (tuple_addW0 a b its.toArray its2.toArray n n2 dd dd2 sl sl2 (by simp [e0])) ⟨ho,ho2,.ref b,H,I,rfl,q b H (Same.refl H) (by rw [Ud];exact hb)⟩
 ·refine zdS pins s σ H _ _ v u Q I rx ry ⟨a,b,xs,ys,rfl,rfl,SqT.of ha,SqT.of hb,hx,by rw [uH];lia,λe=>q a H (Same.refl H) (by rw [e,uz];exact ha),λ_ p hp=>q p _ (zb hp) zd⟩
noncomputable def zai:V->List V->Hp->VK->Prop:=λx vs H Q=>∃ l y,x=.str (S l)/\vs=[.str (S y)]/\Q (.bl (y.isPrefixOf l)) H
theorem zcp (l y:Lc):Txt.startswith (S l) (S y)=y.isPrefixOf l:=by
 unfold Txt.startswith Builtin.Str.subAt;rw [y3,y3];by_cases h:y.length<=l.length
 ·have h1:decide (0+y.length<=l.length)=true:=by simpa using h
  rw [h1,Bool.true_and];have e:(S l).cps.extract 0 (0+y.length)=(l.take y.length).toArray:=by simp [S]
  rw [e];rw [UB,Uk,gp,List.prefix_iff_eq_take];constructor
  ·intro z;have:=congrArg Array.toList z;simp [S] at this;exact this.symm
  ·intro z;rw [← z];rfl
 ·have h1:decide (0+y.length<=l.length)=false:=by simpa using h
  rw [h1,UY];symm;rw [← Bool.not_eq_true,gp];intro z;exact h z.length_le
theorem Jl:MtR X "str.startswith" zai:=by
 intro pins s σ H x xs v us Q I rx rs h;obtain⟨l,y,rfl,rfl,q⟩:=h;obtain⟨t,rfl⟩:=rx;obtain⟨u,rfl,t',rfl⟩:=vals1 rs;refine SC.startswith ⟨.bl _,H,I,rfl,?_⟩
 rw [zcp];exact q
end
theorem zek {l:Lc}{te:TE}{σ:L2.St}{H:Hp}{Q:VK}(G:Nat->V->Hp->Prop)(hG:∀ c v H1 H2,G c v H1->Same H1 H2->G c v H2)(hU:∀ c v H1 D xs ys,G c v H1->H1 D=some (.lst xs)->G c v (upd H1 D (.lst ys)))(hl:l.length<=sizeLine) (he:∀ c∈l,∀ H1,Same H H1->∀ R:VK,(∀ v H2,Same H1 H2->G c v H2->R v H2)->te (some (.str (S [c]))::σ) H1 R) (hq:∀ D H2 ys,H D=none->Same H H2->ys.length=l.length->(∀ (i:Nat) c v,l[i]? = some c->ys[i]? = some v->G c v H2)->H2 D=some (.lst ys)->Q (.ref D) H2):WW (Its (S l)) X0 te σ H Q:=by
 intro D hD;refine⟨λi m ys H'=>m=l.length - i/\i<=l.length/\ys.length=i/\(∀ (j:Nat) c v,l[j]? = some c->ys[j]? = some v->G c v H')/\Same H H'/\H' D=some (.lst ys),⟨l.length,by simp,Uo _,rfl,by simp,zb hD,zd⟩,?_⟩;rintro i m ys H' ⟨rfl,hi,hy,hg,sm,hDl⟩;refine⟨hDl,?_⟩;by_cases hlt:i<l.length
 ·refine .inr ⟨by show i<(S l).cps.size;rw [Q8];exact hlt,λv H2 y=>?_⟩;obtain⟨rfl,c,hc,rfl⟩:=y;rw [zbW] at hc;have hm:c∈l:=uZ hc;simp only [X0,↓reduceIte];refine he c hm H2 sm _ λv H4 s4 gv=>?_;have hD4:=s4 D _ hDl;refine⟨hD4,by lia,l.length - (i+1),by lia,rfl,hlt,by simp [hy],λj c' u e1 e2=>?_,?_,zd⟩
  ·refine hU _ _ _ _ _ _ ?_ hD4;by_cases hj:j<ys.length
   ·rw [UN hj] at e2;exact hG _ _ _ _ (hg j c' u e1 e2) s4
   ·rw [gj (by lia)] at e2
    have hj':j - ys.length=0:=by
     by_cases hz:j - ys.length=0
     ·exact hz
     ·rw [Ur.mpr (by simp;lia)] at e2;cases e2
    have ej:j=i:=by lia
    subst ej;rw [hj'] at e2;simp at e2;subst e2;rw [hc] at e1;cases e1;exact gv
  ·intro b o e;rw [zr (zE e hD)];exact s4 b o (sm b o e)
 ·have e:i=l.length:=by lia
  subst e;exact .inl ⟨by show(S l).cps.size<=l.length;rw [Q8];exact uk _,hq D H' ys hD sm hy hg hDl⟩
section
variable {X:Cx} {pins:List (Addr×Obj)} {σ:L2.St} {H:Hp} {s:Shared} {h':Heap}
end
noncomputable def Itz (K:Frag)(l1 l2:Addr):It:=⟨λi H=>∃ xs ys x y,SqL K H l1 xs/\SqL K H l2 ys/\xs[i]? = some x/\ys[i]? = some y, λi H v H'=>∃ p x y,H p=none/\(∀ xs,SqL K H l1 xs->xs[i]? = some x)/\(∀ ys,SqL K H l2 ys->ys[i]? = some y)/\v=.ref p/\H' = upd H p (.tup [x,y]), λi H=>∃ xs ys,SqL K H l1 xs/\SqL K H l2 ys/\(xs.length<=i\/ys.length<=i)⟩
section
variable {X:Cx}
noncomputable def iZip (K:Frag)(ta:TA):TI:=λσ H R=>ta σ H λvs H1=>∃ l1 l2,vs=[.ref l1,.ref l2]/\(∃ xs,SqL K H1 l1 xs)/\(∃ ys,SqL K H1 l2 ys)/\R (Itz K l1 l2) H1
end
theorem hu64 {A:Around}{k:Nat}(hr:Room k A):A.units+64<cLine:=hr.units
section
variable {X:Cx}
noncomputable def zeS:List V->Hp->VK->Prop:=λxs H Q=>∃ k,xs=[.bl k]/\Q (.int (if k then 1 else 0)) H
theorem yT:qV X (.type "int") zeS:=by intro pins s σ H xs us Q I r h;exact zaU pins s σ H xs us Q I r (.inr h)
end
theorem OkF.fnv {P:Program}{w:World}{K:Frag}{mg:La}{base:Heap}{j k:Nat}{x:Str}{ps:Lh}{sp:Sp}{a:Addr}(F:OkF P w K mg base j x ps sp)(h:mg x=some (.ref a))(hk:j<=k):FnV P w K mg base k a sp:=by
 obtain⟨f,fd,kp,b,m,G⟩:=F.ex;have e:f=a:=by have:=m.1;rw [h] at this;cases this;rfl
 subst e;exact⟨fd,ps,kp,b,G.mono hk⟩
section
variable {X:Cx} {K:Frag} {o:Expr} {to:TE} {name:Str} {apos cpos:Pos} {T id:String} {r:V->List V->Hp->VK->Prop}
end
end L2
namespace HT
open PySem PySem.Spec PySem.Calls PyProof.Rows PySem.W
section
variable {prog:Program} {w:World} {A:Around} {E:Value->Shared->Prop} {s:Shared}
theorem yX {t sl:Addr}{items:Array Value}{vl vu:Value}{lo hi:Option Int}{Q:Value->Shared->Prop}(ht:IsTup s.heap t items)(hs:s.heap.IsSliceOf sl vl vu .none)(pl:IsPart vl lo)(pu:IsPart vu hi) (hw:sIx items.size 0 lo=0/\sIx items.size items.size hi=items.size) (h:Q (.ref t) s):wpAny (model prog w) A (getItem (.ref t) (.ref sl)) Q E s:=by
 obtain⟨os,hos,hcs,hds⟩:=id hs;have hTs:s.TypeIs (.ref sl) "slice":=⟨os,hos,hcs⟩
 unfold getItem
 try with_reducible refine uX ?_
 first | refine ua (ud ?_) | skip
 refine ua (GU ht.typeIs (by decide) ?_)
 refine ua (Gv (name:=Str.ofString "__getitem__") ht.typeIs PyProof.Rows.slot_tuple_getitem
  (wpAny_call_entry PyProof.Rows.slot_tuple_getitem ht.typeIs Gg ?_ (Gj _ _)))
 show wpAny _ _ (Builtin.Tuple.tupleItemsOf (.ref t) >>= _) _ _ s;refine ua (GF ht ?_);refine ua (gm hTs ?_);rw [uf (by decide)];refine ua (vx hs pl pu ?_);have hyes:(((sIx items.size 0 lo:Nat):Int) == 0&&(1:Int) == 1&&(sIx items.size items.size hi - sIx items.size 0 lo) == items.size)=true:=by rw [hw.1,hw.2];simp
 show wpAny _ _ (if (((sIx items.size 0 lo:Nat):Int) == 0&&(1:Int) == 1&&(sIx items.size items.size hi - sIx items.size 0 lo) == items.size)=true then _ else _) _ _ s;rw [uf hyes];unfold Builtin.Tuple.tupleIsExact;refine ua (ua (gm ht.typeIs (ud ?_)));rw [uf (by decide)];exact ua (wpAny_rule (ud ⟨_,rfl,ud h⟩))
end
end HT
namespace L2
open PySem PySem.Spec PySem.Calls PyProof.Rows PySem.W
section
variable {X:Cx}
noncomputable def rSlU:V->Option Int->Option Int->Hp->VK->Prop:=λx lo hi H Q=>∃ a xs,x=.ref a/\H a=some (.tup xs)/\∀ p H',Same H H'->H' p=some (.tup (cutV xs lo hi))->Q (.ref p) H'
theorem zaj:SlR X rSlU:=by
 intro pins s σ H x v vl vu lo hi sl Q I rx hs pl pu h;obtain⟨a,xs,rfl,hx,q⟩:=h;by_cases hw:HT.sIx xs.length 0 lo=0/\HT.sIx xs.length xs.length hi=xs.length
 ·cases rx;obtain⟨its,r,ht,hz⟩:=I.tuple (SqT.of hx);have hlen:its.toArray.size=xs.length:=by rw [uh];exact r.length.symm
  refine⟨"tuple",_,PyProof.Rows.slot_tuple_getitem.lookup,ht.typeIs,?_⟩;refine HT.yX ht hs pl pu (by rw [hlen];exact hw) ⟨.ref a,H,I,rfl,q a H (Same.refl H) ?_⟩;rw [hx];unfold cutV;rw [hw.1,hw.2,U2,Nat.sub_zero,U5]
 ·exact zg7 pins s σ H _ v vl vu lo hi sl Q I rx hs pl pu ⟨a,xs,rfl,SqT.of hx,hw,λp hp=>q p _ (zb hp) zd⟩
end
theorem zu {H:Hp}{p q:Addr}{o:HO}(h:upd H p o q=none):H q=none:=by
 unfold upd at h;by_cases e:q=p
 ·rw [uf e] at h;cases h
 ·rw [ub e] at h;exact h
theorem zcq {H:Hp}:∀ {l:Lc} {ys:List V},ys.length=l.length->(∀ (i:Nat) c v,l[i]? = some c->ys[i]? = some v->EvV H v [jv,[c]])->EvA H ys (l.map λk=>[jv,[k]])
 | [],[],_,_=>.nil
 | c::l,y::ys,h,hG=>.cons (hG 0 c y rfl rfl) (zcq (by simpa using h) λi c' v e1 e2=>hG (i+1) c' v (by simpa using e1) (by simpa using e2))
 | [],_::_,h,_=>by simp at h
 | _::_,[],h,_=>by simp at h
structure QE (X:Cx)(e:Expr)(t:TE):Prop where
 h:PE X e t
structure QT (X:Cx)(e:Expr)(t:TT):Prop where
 h:PT X e t
structure QW (X:Cx)(e:Expr)(t:TT):Prop where
 h:PW X e t
structure QA (X:Cx)(es:Lg)(t:TA):Prop where
 h:PA X es t
structure QS (X:Cx)(st:Stmt)(t:TS):Prop where
 h:PS X st t
structure QSs (X:Cx)(st:List Stmt)(t:TS):Prop where
 h:PSs X st t
structure QI (X:Cx)(tg iter:Expr)(wi:TI):Prop where
 h:PI X tg iter wi
structure QG (X:Cx)(target:Expr)(t:TG):Prop where
 h:PG X target t
structure QGs (X:Cx)(ts:Lg)(t:TGs):Prop where
 h:PGs X ts t
structure QO (X:Cx)(e:Option Expr)(t:TO):Prop where
 h:PO X e t
structure QTs (X:Cx)(ifs:Lg)(t:TT):Prop where
 h:PTs X ifs t
section
set_option autoImplicit true
set_option relaxedAutoImplicit true
theorem za {X:Cx}(ha:QE X e te)(hr:QA X es t)(hs:starEach (e::es) X.env=(false,eval e X.env)::starEach es X.env:=by rfl):QA X (e::es) (yi te t):=⟨jT (ha:=ha.h) (hr:=hr.h) (hs:=hs)⟩
theorem zc {X:Cx}:QA X [] tNil:=⟨ZC ⟩
theorem qe_S {X:Cx}{x:Str}{l:Lc}{j pos}(h:x=S l):QE X (.Constant (.str x) j pos) (tC (.str (S l))):=⟨pe_S (h:=h)⟩
theorem zhB {X:Cx}{rest:Lg}(ha:QE X a ta)(hb:QE X (.BoolOp .And (b::rest) pos) tb):QE X (.BoolOp .And (a::b::rest) pos) (zbu ta tb):=⟨zgQ (ha:=ha.h) (hb:=hb.h)⟩
theorem vN {X:Cx}{K:Frag}{e:Expr}{te:TE}{f:Str}{pos:Pos}(hK:X.K=K)(he:QE X e te)(hb:attributeBase e f X.env (eval e X.env)=eval e X.env:=by rfl):QE X (.Attribute e f pos) (tAtX K te f):=⟨zhq (hK:=hK) (he:=he.h) (hb:=hb)⟩
theorem Wu {X:Cx}{b j pos}:QE X (.Constant (.bool b) j pos) (tC (.bl b)):=⟨zjN ⟩
theorem zhC {X:Cx}{v:V}{u:Value}{pos:Pos}(hm:X.mg x=none)(hv:bootBuiltins x=some u)(r:RelV v u)(hg:Gl X x:=by rfl) (hn:x≠"__name__":=by decide) (hd:(x == ("__debug__":Str))=false:=by decide):QE X (.Name x pos) (tC v):=⟨zhg (hm:=hm) (hv:=hv) (r:=r) (hg:=hg) (hn:=hn) (hd:=hd)⟩
theorem wc {X:Cx}{id:String}{K:Frag}(hK:X.K=K)(pa:PlainAttrs T)(slot:Slot T name id)(hty:typeOf (.builtin id)=pure (.type "method_descriptor"))(hm:MtR X id r)(ho:QE X o to)(ha:QA X (e::es) t)
  (hbase:attributeBase o name X.env (eval o X.env)=eval o X.env:=by rfl)
  (hfew:((backTo cpos (starEach (e::es) X.env)).all (λx=>!x.1)&&(backToKw cpos (keywordEach [] X.env)).all (λx=>x.1.isSome)
   && decide ((e::es).length+([]:List Keyword).length+(if ([]:List Keyword).isEmpty then 0 else 1)<30))=true:=by rfl)
  (hline:(apos.endLine == cpos.line)=true:=by rfl) (hs:starEach (e::es) X.env=(false,eval e X.env)::starEach es X.env:=by rfl) (hplain:(backTo cpos (starEach es X.env)).any (·.1)=false:=by rfl) :
  QE X (.Call (.Attribute o name apos) (e::es) [] cpos) (tBM K T r to t):=⟨zhh (hK:=hK) (pa:=pa) (slot:=slot) (hty:=hty) (hm:=hm) (ho:=ho.h) (ha:=ha.h) (hbase:=hbase) (hfew:=hfew) (hline:=hline) (hs:=hs) (hplain:=hplain)⟩
theorem zJ {X:Cx}{id:String}(hc:qV X (.builtin id) r)(hg:Gl X x)(hm:X.mg x=none)(hv:bootBuiltins x=some (.builtin id))(ha:QA X (e::es) t)(hn:x≠"__name__":=by decide) (hdb:(x == ("__debug__":Str))=false:=by decide)
  (he:starEach (e::es) X.env=(false,eval e X.env)::starEach es X.env:=by rfl) (hpl:(backTo pos (starEach es X.env)).any (·.1)=false:=by rfl):QE X (.Call (.Name x p) (e::es) [] pos) (tCB r t):=⟨zbM (hc:=hc) (hg:=hg) (hm:=hm) (hv:=hv) (ha:=ha.h) (hn:=hn) (hdb:=hdb) (he:=he) (hpl:=hpl)⟩
theorem zk {X:Cx}(F:OkF X.prog X.w X.K X.mg X.base k x ps sp)(hr:Room j X.A)(hk:k<=j)(ha:QA X (e::es) t)(hg:Gl X x:=by rfl) (hdb:(x == ("__debug__":Str))=false:=by decide)
  (he:starEach (e::es) X.env=(false,eval e X.env)::starEach es X.env:=by rfl) (hpl:(backTo pos (starEach es X.env)).any (·.1)=false:=by rfl):QE X (.Call (.Name x p) (e::es) [] pos) (Zc sp [] E0 t):=⟨zbX (F:=F) (hr:=hr) (hk:=hk) (ha:=ha.h) (hg:=hg) (hdb:=hdb) (he:=he) (hpl:=hpl)⟩
theorem jM {X:Cx}(F:OkF X.prog X.w X.K X.mg X.base k x ps sp)(hr:Room j X.A)(hk:k<=j)(hg:Gl X x:=by rfl) (hdb:(x == ("__debug__":Str))=false:=by decide):QE X (.Call (.Name x p) [] [] pos) (Zc sp [] E0 tNil):=⟨za2 (F:=F) (hr:=hr) (hk:=hk) (hg:=hg) (hdb:=hdb)⟩
theorem Vp {X:Cx}(F:OkH X.prog X.w X.K X.mg X.base k x ps sp)(hr:yf j X.A)(hk:k<=j)(ha:QA X (e::es) t)(hg:Gl X x:=by rfl) (hdb:(x == ("__debug__":Str))=false:=by decide)
  (he:starEach (e::es) X.env=(false,eval e X.env)::starEach es X.env:=by rfl) (hpl:(backTo pos (starEach es X.env)).any (·.1)=false:=by rfl):QE X (.Call (.Name x p) (e::es) [] pos) (Zc sp [] E0 t):=⟨zcd (F:=F) (hr:=hr) (hk:=hk) (ha:=ha.h) (hg:=hg) (hdb:=hdb) (he:=he) (hpl:=hpl)⟩
theorem xn {X:Cx}(hc:qV X (.type T) r)(hg:Gl X x)(hm:X.mg x=none)(hv:bootBuiltins x=some (.type T))(ha:QA X (e::es) t)(hn:x≠"__name__":=by decide) (hdb:(x == ("__debug__":Str))=false:=by decide)
  (he:starEach (e::es) X.env=(false,eval e X.env)::starEach es X.env:=by rfl) (hpl:(backTo pos (starEach es X.env)).any (·.1)=false:=by rfl):QE X (.Call (.Name x p) (e::es) [] pos) (tCB r t):=⟨zaV (hc:=hc) (hg:=hg) (hm:=hm) (hv:=hv) (ha:=ha.h) (hn:=hn) (hdb:=hdb) (he:=he) (hpl:=hpl)⟩
theorem zcr {X:Cx}(hf:QE X (.Name x p) tf)(hr:Room j X.A)(hk:k<=j)(ha:QA X (e::es) t)
  (he:starEach (e::es) X.env=(false,eval e X.env)::starEach es X.env:=by rfl) (hpl:(backTo pos (starEach es X.env)).any (·.1)=false:=by rfl) :
  QE X (.Call (.Name x p) (e::es) [] pos) (YC X.prog X.w X.K X.mg X.base k tf t):=⟨zcm (hf:=hf.h) (hr:=hr) (hk:=hk) (ha:=ha.h) (he:=he) (hpl:=hpl)⟩
theorem Jm {X:Cx}(hx:Thr X E)(F:OkX X.prog X.w X.K X.mg X.base k x ps sp)(hr:Room j X.A)(hk:k<=j)(ha:QA X (e::es) t)(hg:Gl X x:=by rfl) (hdb:(x == ("__debug__":Str))=false:=by decide)
  (he:starEach (e::es) X.env=(false,eval e X.env)::starEach es X.env:=by rfl) (hpl:(backTo pos (starEach es X.env)).any (·.1)=false:=by rfl):QE X (.Call (.Name x p) (e::es) [] pos) (Ys sp E t):=⟨zb3 (hx:=hx) (F:=F) (hr:=hr) (hk:=hk) (ha:=ha.h) (hg:=hg) (hdb:=hdb) (he:=he) (hpl:=hpl)⟩
theorem zZ {X:Cx}(h:X.mg x=some (.ref a))(hg:Gl X x:=by rfl) (hd:(x == ("__debug__":Str))=false:=by decide):QE X (.Name x pos) (tC (.ref a)):=⟨zht (h:=h) (hg:=hg) (hd:=hd)⟩
theorem jX {X:Cx}{op:CmpOp}{r:R2}(ho:OpR X (compareOp op) r)(ha:QE X a ta)(hb:QE X b tb)(hm:behindInMarks op b=false):QE X (.Compare a [op] [b] pos) (tOp r ta tb):=⟨zdJ (ho:=ho) (ha:=ha.h) (hb:=hb.h) (hm:=hm)⟩
theorem qM {X:Cx}{v:V}{pos:Pos}(h:∃ u,X.mg x=some u/\RelV v u)(hg:Gl X x:=by rfl) (hd:(x == ("__debug__":Str))=false:=by decide):QE X (.Name x pos) (tC v):=⟨zj4 (h:=h) (hg:=hg) (hd:=hd)⟩
theorem wB {X:Cx}{c:Expr}(hc:QT X c tA)(ha:QE X a ta)(hb:QE X b tb):QE X (.IfExp c a b pos) (tIf tA ta tb):=⟨zbv (hc:=hc.h) (ha:=ha.h) (hb:=hb.h)⟩
theorem zi {X:Cx}{i j pos}:QE X (.Constant (.int i) j pos) (tC (.int i)):=⟨zgJ ⟩
theorem zB {X:Cx}{r:R2}(hr:IxR X r)(ha:QE X a ta)(hb:QE X b tb)(hs:KY b):QE X (.Subscript a b pos) (tOp r ta tb):=⟨zjX (hr:=hr) (ha:=ha.h) (hb:=hb.h) (hs:=hs)⟩
theorem zel {X:Cx}(hm:∃ a,X.mg x=some (.ref a)/\Vo X.w X.K a kvs)(he:QE X e ty)(hg:Gl X x:=by rfl) (hd:(x == ("__debug__":Str))=false:=by decide)
  (hbase:attributeBase (.Name x p) "get" X.env (eval (.Name x p) X.env)=eval (.Name x p) X.env:=by rfl)
  (hfew:((backTo cpos (starEach [e] X.env)).all (λx=>!x.1)&&(backToKw cpos (keywordEach [] X.env)).all (λx=>x.1.isSome)
   && decide (([e]:Lg).length+([]:List Keyword).length+(if ([]:List Keyword).isEmpty then 0 else 1)<30))=true:=by rfl)
  (hline:(apos.endLine == cpos.line)=true:=by rfl) (htr:backTo cpos (starEach [e] X.env)=[(false,eval e X.env)]:=by rfl) :
  QE X (.Call (.Attribute (.Name x p) "get" apos) [e] [] cpos) (zcn kvs ty):=⟨zei (hm:=hm) (he:=he.h) (hg:=hg) (hd:=hd) (hbase:=hbase) (hfew:=hfew) (hline:=hline) (htr:=htr)⟩
theorem zv {X:Cx}(h:QA X es t):QE X (.List es pos) (tLst t):=⟨zg5 (h:=h.h)⟩
theorem zF {X:Cx}{j pos}:QE X (.Constant .none j pos) (tC .non):=⟨zgK ⟩
theorem zcs {X:Cx}{op}{t:TE}(h:QE X a t):QE X (.BoolOp op [a] pos) t:=⟨zgP (h:=h.h)⟩
theorem zA {X:Cx}{op:Operator}{r:R2}(ho:OpR X (binaryOp op) r)(ha:QE X a ta)(hb:QE X b tb):QE X (.BinOp a op b pos) (tOp r ta tb):=⟨zjU (ho:=ho) (ha:=ha.h) (hb:=hb.h)⟩
theorem zkc {X:Cx}{rest:Lg}(ha:QE X a ta)(hb:QE X (.BoolOp .Or (b::rest) pos) tb):QE X (.BoolOp .Or (a::b::rest) pos) (tOrV ta tb):=⟨zjQ (ha:=ha.h) (hb:=hb.h)⟩
theorem Vq {X:Cx}{lo hi:Option Expr}{r:V->Option Int->Option Int->Hp->VK->Prop}(hr:SlR X r)(he:QE X e te)(hl:QO X lo tl)(hu:QO X hi th):QE X (.Subscript e (.Slice lo hi none p2) pos) (tSl r te tl th):=⟨zbP (hr:=hr) (he:=he.h) (hl:=hl.h) (hu:=hu.h)⟩
theorem zq {X:Cx}{x1}(h:QA X es t):QE X (.Tuple es x1 pos) (tTup t):=⟨zg4 (h:=h.h)⟩
theorem zct {X:Cx}{op:UnaryOp}{r:V->Hp->VK->Prop}(ho:UnR X (unaryOp op) r)(ha:QE X a ta):QE X (.UnaryOp op a pos) (tUn r ta):=⟨zjV (ho:=ho) (ha:=ha.h)⟩
theorem qW {X:Cx}{i:Nat}{x:Str}(hN:X.N.Nodup)(hi:X.N[i]? = some x)(hx:Loc X.env.scope x)(hf:X.fn x=true\/X.env.scope.names.lookup x=some .local:=by first | exact .inl rfl | exact .inr rfl | assumption):QG X (.Name x pos) (Qd i):=⟨zdE (hN:=hN) (hi:=hi) (hx:=hx) (hf:=hf)⟩
theorem zhD {X:Cx}{es:Lg}{k:Nat}{t:TGs}{n:Nat}(hc:X.calm=true)(h:QGs X es t)
  (hn:(assignEach es X.env).length=n:=by rfl) (hst:(assignEach es X.env).findIdx? (·.1)=none:=by rfl):QG X (.Tuple es k pos) (gTup X.K n t):=⟨zgT (hc:=hc) (h:=h.h) (hn:=hn) (hst:=hst)⟩
theorem Vr {X:Cx}{e:Expr}{es:Lg}{t:TG}{u:TGs}(h1:QG X e t)(h2:QGs X es u)
  (hs:(assignEach (e::es) X.env).map (·.2)=assign e X.env::(assignEach es X.env).map (·.2):=by rfl):QGs X (e::es) (XX t u):=⟨zbx (h1:=h1.h) (h2:=h2.h) (hs:=hs)⟩
theorem zem {X:Cx}:QGs X [] gNil:=⟨zdF ⟩
theorem zcu {X:Cx}{a:Expr}{ta:TA}{p pos:Pos}{elts:Lg}{ek:Nat}{epos:Pos}(hg:Gl X "enumerate")(hm:X.mg "enumerate" = none)(ha:QA X [a] ta)(hs:starEach [a] X.env=[(false,eval a X.env)]:=by rfl) :
  QI X (.Tuple elts ek epos) (.Call (.Name "enumerate" p) [a] [] pos) (Yw ta):=⟨zcb (hg:=hg) (hm:=hm) (ha:=ha.h) (hs:=hs)⟩
theorem wC {X:Cx}{K:Frag}{tg l:Expr}{tl:TE}(hK:X.K=K)(hl:QE X l tl):QI X tg l (KN K tl):=⟨zbY (hK:=hK) (hl:=hl.h)⟩
theorem ZK {X:Cx}{a:Expr}{ta:TA}{p pos:Pos}(hg:Gl X "range")(hm:X.mg "range" = none)(ha:QA X [a] ta)(hs:starEach [a] X.env=[(false,eval a X.env)]:=by rfl):QI X tg (.Call (.Name "range" p) [a] [] pos) (zbz ta):=⟨zaP (hg:=hg) (hm:=hm) (ha:=ha.h) (hs:=hs)⟩
theorem zcv {X:Cx}{l:Expr}{tl:TE}(hl:QE X l tl):QI X tg l (iStr tl):=⟨zhc (hl:=hl.h)⟩
theorem W3 {X:Cx}{K:Frag}{tg l:Expr}{tl:TE}(hK:X.K=K)(hl:QE X l tl):QI X tg l (iTup K tl):=⟨zeg (hK:=hK) (hl:=hl.h)⟩
theorem zak {X:Cx}:QO X none WQ:=⟨zdQ ⟩
theorem zal {X:Cx}(h:QE X e te):QO X (some e) (zbO te):=⟨zdR (h:=h.h)⟩
theorem zhE {X:Cx}{tg e:Expr}{te:TE}{g:TG}(he:QE X e te)(hg:QG X tg g)(hs:swapsWithSole [tg] e pos.line X.env=pure false:=by rfl) (hw:swappedStores [tg] e X.env=pure none:=by rfl)
  (h1:(assignEach [tg] X.env).map (·.2)=[assign tg X.env]:=by rfl):QS X (.Assign [tg] e pos) (tAsg te g):=⟨zgV (he:=he.h) (hg:=hg.h) (hs:=hs) (hw:=hw) (h1:=h1)⟩
theorem jA {X:Cx}(he:QE X e te)(hs:swapsWith e none pos.line X.env=pure false:=by rfl):QS X (.Expr e pos) (QZ te):=⟨yQ (he:=he.h) (hs:=hs)⟩
theorem we {X:Cx}{iter:Expr}{body:List Stmt}{wi:TI}{g:TG}{tb:TS}{pos:Pos}(hp:PassesOwn (model X.prog X.w) X.A X.env X.xe)(hc:X.calm=true)(hi:QI X tg iter wi)(hg:QG X tg g)(hb:QSs X body tb)
  (hs:∀ x,foldedSetIterable iter X.env x=pure x:=by intro _;rfl):QS X (.For tg iter body [] pos) (tFor wi g tb):=⟨zgZ (hp:=hp) (hc:=hc) (hi:=hi.h) (hg:=hg.h) (hb:=hb.h) (hs:=hs)⟩
theorem zw {X:Cx}{c:Expr}{a b:List Stmt}{tc:TT}(hc:QT X c tc)(ha:QSs X a t)(hb:QSs X b u):QS X (.If c a b pos) (tIfS tc t u):=⟨zjS (hc:=hc.h) (ha:=ha.h) (hb:=hb.h)⟩
theorem zcw {X:Cx}{st:Stmt}:QS X st V8:=⟨zbw ⟩
theorem zcx {X:Cx}(hx:Thr X E)(R:Err X.prog X.w X.K X.mg X.base x C f pay)(hr:Room j X.A)(hj:2<=j)(ha:QA X (e::es) t)(hg:Gl X x:=by rfl) (hdb:(x == ("__debug__":Str))=false:=by decide)
  (he:starEach (e::es) X.env=(false,eval e X.env)::starEach es X.env:=by rfl) (hpl:(backTo cpos (starEach es X.env)).any (·.1)=false:=by rfl) :
  QS X (.Raise (some (.Call (.Name x np) (e::es) [] cpos)) none pos) (Yu C f pay E t):=⟨zb5 (hx:=hx) (R:=R) (hr:=hr) (hj:=hj) (ha:=ha.h) (hg:=hg) (hdb:=hdb) (he:=he) (hpl:=hpl)⟩
theorem zj {X:Cx}(he:QE X e te):QS X (.Return (some e) pos) (tRet te):=⟨zgS (he:=he.h)⟩
theorem zy {X:Cx}{i:Nat}{x:Str}{e:Expr}{te:TE}{pos':Pos}(hN:X.N.Nodup)(hi:X.N[i]? = some x)(hx:Loc X.env.scope x)(he:QE X e te)(hs:swapsWith e (some (.Name x pos')) pos.line X.env=pure false:=by rfl) (hf:X.fn x=true\/X.env.scope.names.lookup x=some .local:=by first | exact .inl rfl | exact .inr rfl | assumption) :
  QS X (.Assign [.Name x pos'] e pos) (tAsg te (Qd i)):=⟨zgW (hN:=hN) (hi:=hi) (hx:=hx) (he:=he.h) (hs:=hs) (hf:=hf)⟩
theorem zhF {X:Cx}(hm:X.mg x=some (.ref Dc))(cD:XCl X.K Dc)(hN:X.N.Nodup)(hi:X.N[i]? = some n)(hl:X.env.scope.names.lookup n=some .local)(hst:X.stack=X.env::X.outer)(hf:X.env.frame=some X.env.locals)
  (hb:∀ (E:XS) (pn:List (Addr×Obj)) (xe:Value->Shared->Prop),PassesOwn (model X.prog X.w) X.A X.env xe->Thr (X.tryIn pn xe) E->QSs (X.tryIn pn xe) body (tb E))
  (hh:∀ pn ea,QSs (X.exIn pn ea) (b₀::suite) th) (hg:Gl X x:=by rfl) (hdb:(x == ("__debug__":Str))=false:=by decide) :
  QS X (.Try body [.ExceptHandler (some (.Name x np)) (some n) (b₀::suite) hpos] [] [] pos) (tTry X.K Dc i tb th):=⟨zhp (hm:=hm) (cD:=cD) (hN:=hN) (hi:=hi) (hl:=hl) (hst:=hst) (hf:=hf) (hb:=λE pn xe a b=>(hb E pn xe a b).h) (hh:=λpn ea=>(hh pn ea).h) (hg:=hg) (hdb:=hdb)⟩
theorem ze {X:Cx}{rest:List Stmt}{st:Stmt}(h1:QS X st t)(h2:QSs X rest u):QSs X (st::rest) (tSeq t u):=⟨ju (h1:=h1.h) (h2:=h2.h)⟩
theorem zm {X:Cx}:QSs X [] XW:=⟨zdD ⟩
theorem zf {X:Cx}{st:Stmt}(h1:QS X st t):QSs X [st] t:=⟨yP (h1:=h1.h)⟩
theorem zl {X:Cx}{op:CmpOp}{r:R2}(ho:OpR X (compareOp op) r)(ha:QE X a ta)(hb:QE X b tb)(hm:behindInMarks op b=false):QT X (.Compare a [op] [b] pos) (zbE (tOp r ta tb)):=⟨zdK (ho:=ho) (ha:=ha.h) (hb:=hb.h) (hm:=hm)⟩
theorem wW {X:Cx}(ha:QT X a tA):QT X (.UnaryOp .Not a pos) (tNot tA):=⟨zgO (ha:=ha.h)⟩
theorem Wv {X:Cx}{K:Frag}(hK:X.K=K)(ha:QE X a ta)(he:∀ whole,isTrue a X.env whole=(do let v ← whole;standAt a.pos;holding [v] (truthy v)):=by intro _;rfl):QT X a (zco K ta):=⟨zbe (hK:=hK) (ha:=ha.h) (he:=he)⟩
theorem ja {X:Cx}{e:Expr}{t:TE}(h:QE X e t)(he:∀ whole,isTrue e X.env whole=(do let v ← whole;standAt e.pos;holding [v] (truthy v)):=by intro _;rfl):QT X e (tB t):=⟨zgL (h:=h.h) (he:=he)⟩
theorem zen {X:Cx}:QTs X [] X0:=⟨zdX ⟩
theorem W4 {X:Cx}{c:Expr}{t:TT}(h:QT X c t):QTs X [c] t:=⟨zdY (h:=h.h)⟩
theorem qv {X:Cx}(i:Nat){x:Str}{pos:Pos}(hN:X.N[i]? = some x:=by rfl) (hv:Vis X.env.scope x:=by first | exact Or.inl rfl | exact Or.inr (Or.inl rfl) | exact Or.inr (Or.inr rfl)) (hd:(x == ("__debug__":Str))=false:=by decide)
  (hcd:(x == ("__classdict__":Str))=false:=by decide):QE X (.Name x pos) (tVar i):=⟨pv (i:=i) (hN:=hN) (hv:=hv) (hd:=hd) (hcd:=hcd)⟩
theorem xu {X:Cx}{rest:Lg}(ha:QT X a tA)(hb:QW X (.BoolOp .And (b::rest) pos) tB'):QW X (.BoolOp .And (a::b::rest) pos) (tAnd tA tB'):=⟨zgN (ha:=ha.h) (hb:=hb.h)⟩
theorem wq {X:Cx}(ha:QT X a tA):QW X (.BoolOp .And [a] pos) tA:=⟨zdC (ha:=ha.h)⟩
theorem Jn {X:Cx}{rest:Lg}(ha:QT X a tA)(hb:QW X (.BoolOp .Or (b::rest) pos) tB'):QW X (.BoolOp .Or (a::b::rest) pos) (tOr tA tB'):=⟨zjO (ha:=ha.h) (hb:=hb.h)⟩
theorem Jo {X:Cx}(ha:QT X a tA):QW X (.BoolOp .Or [a] pos) tA:=⟨zgM (ha:=ha.h)⟩
theorem QW.qt {X:Cx}{e:Expr}{t:TT}(h:QW X e t):QT X e t:=⟨h.h.pt⟩
end
set_option autoImplicit false
section
variable {X:Cx} {pins:List (Addr×Obj)} {σ:St} {H:Hp} {s:Shared} {a b:Addr} {kvs more:List (Key×V)} {A:Around} {E:Value->Shared->Prop}
end
noncomputable def zkd (td ty:TE):TE:=λσ H Q=>td σ H λx H1=>∃ a,x=.ref a/\IsD H1 a/\ty σ H1 λy H2=>∃ b kvs more,y=.ref b/\a≠b/\H2 a=some (.dK kvs)/\H2 b=some (.dK more)/\kvs.length+more.length<=sizeLine/\Q .non (upd H2 a (.dK (zcl kvs more)))
section
variable {X:Cx} {o e:Expr} {apos cpos:Pos} {td ty:TE}
end
end L2
namespace L2
open PySem PySem.Spec PyProof.Rows
section
variable {X:Cx} {tg:Expr}
noncomputable def Itd (lo d:Int)(n:Nat):It:=⟨λi _=>i<n,λi H x H'=>H' = H/\x=.int (lo+i * d),λi _=>n<=i⟩
noncomputable def zke (ta:TA):TI:=λσ H R=>ta σ H λvs H1=>∃ i j k:Int,vs=[.int i,.int j,.int k]/\(k≠0/\Builtin.Range.small i j k=true/\Builtin.divisionGoesByPylong (j - i) k=false)/\∃ n:Nat,(n:Int)=Builtin.Range.rangeSize i j k/\R (Itd i k n) H1
end
noncomputable def ren (x y:Str):Str:=if y=x then Str.ofString "" else y
structure Jp (X:Cx)(x:Str)(scope:Scope):Prop where
 xN:x∉X.N.map (ren x)
 nd:(X.N.map (ren x)).Nodup
 kind:scope.kind=.function
 cell:∀ y∈scope.names,y.2≠.cell
 names:∀ y∈scope.names,y.2=.local->scope.names.lookup y.1=some .local
 var:scope.names.lookup x=some .local
 free:∀ y∈scope.names,y.2=.free->X.env.kindOf y.1=some .cell
 out:∀ y∈X.N.map (ren x),scope.names.lookup y≠some .local
 blank:scope.names.lookup (Str.ofString "")=none
 calm:X.calm=true
noncomputable def blkS (X:Cx)(x:Str)(scope:Scope)(cl:List (Str×Addr))(C:Addr)(s3:Shared)(H3:Hp)(fp:Ld):Cx:=
 { X with N:=x::X.N.map (ren x),s₀:=s3,H₀:=H3,env:=compEnvC scope cl C X.env,outer:=X.stack,ex:=fp,fn:=λ_=>false,pn:=[],xe:=λ_ _=>False }
section
variable {X:Cx} {elt iter:Expr} {x:Str} {px pos:Pos} {ifs:Lg} {scope:Scope} {wi:TI} {tt:TT} {te:TE}
theorem zcy {pins:List (Addr×Obj)}{σ:St}{H:Hp}{s:Shared}{E:Value->Shared->Prop}{Q:Value->Shared->Prop}{use:Option (Value->Sem Unit)}{QV:VK}(L:Jp X x scope)(I:Inv X pins σ H s) (hi:wpAny (model X.prog X.w) X.A (eval iter X.env) (λv s1=>wpAny (model X.prog X.w) X.A (pyIter v) (PIE X pins σ (.Name x px) (λJ H1=>∀ D,H1 D=none->∃ W:Nat->Nat->List V->Hp->Prop,(∃ m,W 0 m [] (upd H1 D (.lst [])))/\∀ i m ys H',W i m ys H'->H' D=some (.lst ys) /\ ((J.stop i H'/\QV (.ref D) H')\/(J.go i H'/\∀ v H2,J.yld i H' v H2->tt (some v::σ) H2 λb H3=> if b=true then te (some v::σ) H3 λy H4=>H4 D=some (.lst ys)/\ys.length<sizeLine/\∃ m',m' < m/\W (i+1) m' (ys++[y]) (upd H4 D (.lst (ys++[y]))) else ∃ m',m' < m/\W (i+1) m' ys H3)))) E s1) E s) (ht:∀ cl C s3 H3 fp,PTs (blkS X x scope cl C s3 H3 fp) ifs tt) (he:∀ cl C s3 H3 fp,PE (blkS X x scope cl C s3 H3 fp) elt te) (hs:∀ x,foldedSetIterable iter X.env x=pure x) (fin:∀ (D C:Addr) (H':Hp) (s':Shared) (m:La),Inv X pins σ H' s'->FpOk X pins H' C->s'.heap.Ns C m->QV (.ref D) H'->compPost (model X.prog X.w) X.A E use Q (.ref D) C (.ok .next) s') : wpAny (model X.prog X.w) X.A (comprehension (.ListComp elt [⟨.Name x px,iter,ifs,0⟩] scope pos) scope X.env (firstIterPos [⟨.Name x px,iter,ifs,0⟩] pos) (newList []) false (eval iter X.env) use) Q E s:=by
 obtain⟨cl,hcl,cl1,cl2⟩:=Q7 (env:=X.env) (scope:=scope) (λy hy hf=>I.ok.has y.1 (.inl (L.free y hy hf)));refine Gp (use:=use) rfl hs hcl L.kind L.names (uj hi (λxv s₁ h₁=>uj h₁ (λit s2 h₂=>?_) λ_ _ e=>e) λ_ _ e=>e);obtain⟨it,fp,tn,J,H2,rfl,I2,T,st2,f2,hW⟩:=h₂;have fr2:H2 s2.heap.objs.size=none:=I2.hok.fresh (uk _);obtain⟨W,⟨m0,w0⟩,turn⟩:=hW _ fr2;refine Uh ?_
 have I3:Inv X pins σ (upd H2 s2.heap.objs.size (.lst [])) { s2 with heap:=s2.heap.push { cls:=.type "list",dict:=none,data:=.seq ([]:Lf).toArray } }:=
  I2.laid (t':=s2.toks) (o:=.lst []) (λb ob q=>uc _ q) (uk _) ⟨Uo _,[],0,.nil,um _ rfl⟩
 generalize hD:s2.heap.objs.size=D at I3 turn w0 fr2 ⊢;generalize hH3:upd H2 D (.lst [])=H3 at I3 w0;generalize hs3:({ s2 with heap:=s2.heap.push { cls:=.type "list",dict:=none,data:=.seq ([]:Lf).toArray } }:Shared)=s3 at I3 ⊢;have k23:∀ b o,s2.heap.get? b=some o->s3.heap.get? b=some o:=λb o e=>by rw [← hs3];exact uc _ e
 have os3:s3.os=s2.os:=by rw [← hs3]
 have fpD:∀ b∈fp,b≠D:=λb hb z=>by obtain⟨o,e,_⟩:=T.obj _ _ st2 b hb;exact absurd (ue e) (by rw [z,← hD];exact uM _)
 have f3:∀ b∈fp,FpOk X pins H3 b:=λb hb=>⟨by rw [← hH3,zr (fpD b hb)];exact(f2 b hb).1,(f2 b hb).2⟩
 have st3:tn 0 s3.heap:=T.keep _ _ _ st2 λb hb o e=>k23 b o e;refine GG L.cell (λy hy=>by simp at hy) (λh₁ hns₁ hsb₁=>?_) L.kind;generalize hC:s3.heap.objs.size=C at hns₁ hsb₁ ⊢;have k34:∀ b o,s3.heap.get? b=some o->h₁.get? b=some o:=λb o e=>hsb₁.extBut b o (by rintro rfl;exact absurd (ue e) (by rw [hC];exact uM _)) (uc _ e)
 let X':Cx:=blkS X x scope cl C s3 H3 fp;have relab:∀ y,X'.env.scope.names.lookup y=(scope.names.lookup y).map λk=>if (k == NameKind.free&&X.env.scope.kind == .function&&X.env.kindOf y == some .cell) then NameKind.cell else k:=λy=>xp y scope.names
 have visC:∀ y,(X'.env.kindOf y=some .cell\/X'.env.kindOf y=some .free)->scope.names.lookup y=some .free:=λy hy=>by
  have e:=relab y;have hy:X'.env.scope.names.lookup y=some .cell\/X'.env.scope.names.lookup y=some .free:=hy;rw [e] at hy;cases q:scope.names.lookup y with
  | none=>rw [q] at hy;simp at hy
  | some k=>
   rw [q] at hy;simp only [uR,Us] at hy;by_cases hf:k=.free
   ·rw [hf]
   ·have hb:(k == NameKind.free)=false:=by simpa using hf
    simp only [hb,UY,Uy,gk] at hy;rcases hy with rfl | rfl
    ·exact absurd rfl (L.cell _ (uC q))
    ·exact absurd rfl hf
 have okX':X'.Ok:=by
  refine⟨I3.ok.mod,?_,I3.ok.glob,I3.ok.blt,?_,?_,?_,?_,I3.ok.hd,I3.ok.frames,.inl rfl,?_,?_,?_,?_,?_,?_,?_⟩
  ·show(relabel scope X.env).kind=.function;exact L.kind
  ·show s3.heap.objs.size<=C;exact UK hC
  ·exact λa b c h1 h2=>I3.ok.inj a b c (cl1 a c h1) (cl1 b c h2)
  ·exact λy hy=>cl2 (y,.free) (uC (visC y hy)) rfl
  ·exact λy c hf=>by cases hf
  ·refine λb hb=>⟨?_,λy c e z=>(f3 b hb).2.2.2.2.1 y c (cl1 y c e) z⟩
   show b≠C;intro z;obtain⟨o,e,_⟩:=T.obj _ _ st3 b hb;exact absurd (ue e) (by rw [z,← hC];exact uM _)
  ·exact λb o e=>I3.bs b o e
  ·exact ux I3.ok.bsz I3.sz
  ·intro b o e hb;rcases(f3 b hb).2.2.2.1 with z | z
   ·exact I3.ok.noex b o e z
   ·exact absurd (uq (ue e) (ux I3.ok.bsz z)) (uM _)
  ·intro b hb z;rcases uy.mp (I3.stkSub b z) with e | e
   ·exact(f3 b hb).2.1 e
   ·exact(f3 b hb).2.2.1 e
  ·exact I3.stack
  ·exact I3.stkFree
 have hfreeC:H3 C=none:=I3.hok.fresh (UK hC)
 have I4:Inv X' [] (none::σ) H3 { s3 with heap:=h₁,toks:=s3.toks+([]:List (Str×Value)).length }:=by
  refine⟨okX',rfl,I3.bare,Un.kept k34,⟨_,hns₁,?_⟩,?_,hfreeC,?_,λp hp=>absurd (show p∈([]:List (Addr×Obj)) from hp) (by simp),I3.hok.kept k34,?_⟩
  ·intro i y v e1 e2 e3;cases i with
   | zero=>simp at e2
   | succ j=>
    have e1:(X.N.map (ren x))[j]? = some y:=by simpa using (show(x::X.N.map (ren x))[j+1]? = some y from e1)
    have e2:σ[j]? = some (some v):=by simpa using e2
    have hyN:y∈X.N.map (ren x):=uZ e1
    have hfr:scope.names.lookup y=some .free:=by
     rcases e3 with e3 | e3 | e3
     ·rw [relab y] at e3;cases q:scope.names.lookup y with
      | none=>rw [q] at e3;simp at e3
      | some k=>
       rw [q] at e3;simp only [uR,Us] at e3;by_cases hf:k=.free
       ·rw [hf]
       ·have hb:(k == NameKind.free)=false:=by simpa using hf
        simp only [hb,UY,Uy,gk] at e3;exact absurd (by rw [q,e3]) (L.out y hyN)
     ·exact visC y (.inl e3)
     ·exact visC y (.inr e3)
    have e1:X.N[j]? = some y:=by
     rw [Um] at e1;cases q0:X.N[j]? with
     | none=>rw [q0] at e1;cases e1
     | some y0=>
      rw [q0] at e1;have e1:ren x y0=y:=uB e1;unfold ren at e1;split at e1
      ·rw [← e1,L.blank] at hfr;cases hfr
      ·rw [e1]
    have hkc:=L.free (y,.free) (uC hfr) rfl;have hkc:X.env.kindOf y=some .cell:=hkc;obtain⟨mX,_,hlX⟩:=I3.loc;obtain⟨u,r,l⟩:=hlX j y v e1 e2 (.inr (.inl hkc));refine⟨u,r,?_⟩;rcases l with⟨l,_⟩ | ⟨_,c,hc,hcell⟩
    ·rw [hkc] at l;cases l
    ·obtain⟨c',hc'⟩:=cl2 (y,.free) (uC hfr) rfl;have hc':cl.lookup y=some c':=hc';have:=cl1 y c' hc';rw [hc] at this;cases this;refine .inr ⟨?_,c,hc',?_⟩
     ·rcases e3 with e3 | e3 | e3
      ·rw [relab y,hfr] at e3;simp only [uR,Us] at e3;split at e3<;>cases e3
      ·exact .inl e3
      ·exact .inr e3
     ·obtain⟨o,ho,hd⟩:=hcell;exact⟨o,k34 _ _ ho,hd⟩
  ·intro y c e;obtain⟨v,o,ho,hd⟩:=I3.cell y c (cl1 y c e);exact⟨v,o,k34 _ _ ho,hd⟩
  ·exact λy c e=>I3.freeC y c (cl1 y c e)
  ·show(none::σ).length=(x::X.N.map (ren x)).length;rw [uu,uu,uS,I3.len]
 have st4:tn 0 h₁:=T.keep _ _ _ st3 λb hb o e=>k34 b o e;have stat:∀ {H':Hp},(∀ b∈fp,H' b=none)->∀ b∈fp,FpOk X' [] H' b:=λhn b hb=>by refine⟨hn b hb,(okX'.exf b hb).1,okX'.exfs b hb,.inl hb,(okX'.exf b hb).2,λp hp=>absurd (show p∈([]:List (Addr×Obj)) from hp) (by simp)⟩
 have hNd:X'.N.Nodup:=UR.mpr ⟨L.xN,L.nd⟩;have hvar:X'.env.scope.names.lookup x=some .local:=by rw [relab x,L.var];rfl
 have loop:∀ s4:Shared,s4={ s3 with heap:=h₁,toks:=s3.toks+([]:List (Str×Value)).length } ->
   codeAny (model X.prog X.w) X.A (.compLoop (.ListComp elt [⟨.Name x px,iter,ifs,0⟩] scope pos) 0 (.ref it) (.ref D) X'.env) (compPost (model X.prog X.w) X.A E use Q (.ref D) C) s4:=by
  rintro s4 rfl
  refine Qi (λn s'=>∃ i ys o H',Inv X' [] (o::σ) H' s'/\tn i s'.heap/\(∀ b∈fp,H' b=none)/\W i n ys H') ?_ m0 ⟨0,[],none,H3,I4,st4,λb hb=>(f3 b hb).1,w0⟩
  rintro n s5 ⟨i,ys,o,H5,I5,st5,fr5,w5⟩
  obtain⟨hD5,turn5⟩:=turn i n ys H5 w5
  rcases turn5 with⟨stop,qn⟩ | ⟨go,step⟩
  ·refine uj (T.done X' rfl rfl rfl L.calm i [] s5 (o::σ) H5 (λ_ _=>False) I5 (stat fr5) st5 stop) (λr s6 h6=>?_) λ_ _ z=>z
   obtain⟨rfl,I6⟩:=h6
   have un6:Un (frs X.stack) fp H3 H5 s3.heap s6.heap:=I6.base
   have IX:Inv X pins σ H5 s6:=I3.call' I6.os un6 I6.hok I6.bare λb hb=>⟨(f3 b hb).2.2.2.1,(f3 b hb).2.1,(f3 b hb).2.2.2.2.1,(f3 b hb).2.2.2.2.2⟩
   obtain⟨mC,hnC,_⟩:=I6.loc
   exact fin D C H5 s6 mC IX (I3.fpOk (H':=H5) (UK hC) I6.free) hnC qn
  ·refine uj (T.item X' rfl rfl rfl L.calm i [] s5 (o::σ) H5 (λ_ _=>False) I5 (stat fr5) st5 go) (λr s6 h6=>?_) λ_ _ z=>z.elim
   obtain⟨u,rfl,h6⟩:=h6
   refine uj h6 (λ_ s6 h6=>?_) λ_ _ z=>z
   obtain⟨v,H6,I6,r6,y6,st6,fr6⟩:=h6
   have I6':=I6.pinned (stat fr6) (T.obj _ _ st6)
   have hv6:=step v H6 y6
   show wpAny (model X'.prog X'.w) X'.A (assign (.Name x px) X'.env u) _ _ s6
   refine uj (Q:=λ_ s7=>Inv X' ([]++vj fp s6.heap) (some v::σ) H6 s7) (E:=λ_ _=>False) (UX (yh I6' hNd (i:=0) rfl (.inl hvar) r6 (λs7 I7=>(show Inv X' ([]++vj fp s6.heap) (some v::σ) H6 s7 from I7)) (.inr hvar))) (λ_ s7 I7=>?_) λ_ _ z=>z.elim
   refine uj ((ht cl C s3 H3 fp) _ s7 _ H6 _ I7 hv6) (λb s8 h8=>?_) λ_ _ z=>z.elim
   obtain⟨H8,I8,q8⟩:=h8
   have done:∀ {ys':List V} {H9:Hp} {s9:Shared} {n':Nat},Inv X' ([]++vj fp s6.heap) (some v::σ) H9 s9->W (i+1) n' ys' H9->∃ i ys o H',Inv X' [] (o::σ) H' s9/\tn i s9.heap/\(∀ b∈fp,H' b=none)/\W i n' ys H':=λ{ys' H9 s9 n'} I9 w9=>by
    refine⟨i+1,ys',some v,H9,I9.unpinned,T.keep _ _ _ st6 λb hb o e=>(I9.pin (b,o) (uE _ (uE _ (wb hb e)))).1,λb hb=>?_,w9⟩
    obtain⟨o,e,d⟩:=T.obj _ _ st6 b hb
    exact(I9.pin (b,o) (uE _ (uE _ (wb hb e)))).2.1
   cases b with
   | false=>
    have q8:∃ m',m' < n/\W (i+1) m' ys H8:=q8
    obtain⟨m',hm,w8⟩:=q8
    exact⟨m',hm,done I8 w8⟩
   | true=>
    have q8:te (some v::σ) H8 _:=q8
    refine uj ((he cl C s3 H3 fp) _ s8 _ H8 _ I8 q8) (λyv s9 h9=>?_) λ_ _ z=>z.elim
    obtain⟨y,H9,I9,r9,hD9,hz9,m',hm,w9⟩:=h9
    refine uj (qj (X:=X') _ s9 _ H9 (.ref D) [y] (.ref D) [yv] (λv' H'=>v' = .non/\H' = upd H9 D (.lst (ys++[y]))) I9 rfl (.cons r9 .nil) ⟨D,ys,y,rfl,rfl,hD9,hz9,rfl,rfl⟩) (λ_ s10 h10=>?_) λ_ _ z=>z.elim
    obtain⟨_,H10,I10,_,_,rfl⟩:=h10
    exact⟨m',hm,done I10 w9⟩
 exact Gx (loop _ rfl) (T.self _ 0 _ _ _ st4 (loop _ rfl))
theorem zcz (L:Jp X x scope)(hi:PI X (.Name x px) iter wi)(ht:∀ cl C s3 H3 fp,PTs (blkS X x scope cl C s3 H3 fp) ifs tt)(he:∀ cl C s3 H3 fp,PE (blkS X x scope cl C s3 H3 fp) elt te) (hs:∀ x,foldedSetIterable iter X.env x=pure x:=by intro _;rfl):PE X (.ListComp elt [⟨.Name x px,iter,ifs,0⟩] scope pos) (tLC wi tt te):=by intro pins s σ H Q I h;rw [eval_ListComp];refine zcy (use:=none) (QV:=Q) L I (hi pins s σ H _ I h) ht he hs λD C H' s' m IX fC hn q=>?_;refine⟨m,hn,λh' hs'=>⟨.ref D,H',IX.turned (t':=s'.toks) (λb o hb e=>hs'.extBut b o hb e) fC.1 fC.2.1 fC.2.2.2.1 fC.2.2.2.2.1 fC.2.2.2.2.2,rfl,q⟩⟩
theorem lcsS {N:Lh}{sc scope:Scope}(e1:X.N=N)(e2:X.env.scope=sc)(c:X.calm=true) (h:x∉N.map (ren x)/\(N.map (ren x)).Nodup/\scope.kind=.function/\(∀ y∈scope.names,y.2≠.cell)/\(∀ y∈scope.names,y.2=.local->scope.names.lookup y.1=some .local)/\scope.names.lookup x=some .local /\ (∀ y∈scope.names,y.2=.free->sc.names.lookup y.1=some .cell)/\(∀ y∈N.map (ren x),scope.names.lookup y≠some .local)/\scope.names.lookup (Str.ofString "")=none):Jp X x scope:=by subst e1 e2;obtain⟨h1,h2,h3,h4,h5,h6,h7,h8,h9⟩:=h;exact⟨h1,h2,h3,h4,h5,h6,h7,h8,h9,c⟩
end
section
variable {X:Cx}
noncomputable def zeT:R2:=λx y H Q=>∃ (a:Addr) (xs:List V) (n:Int),x=.ref a/\y=.int n/\H a=some (.lst xs)/\0<=n/\n<=100000/\xs.length * n.toNat<=16777216/\∀ p,H p=none->Q (.ref p) (upd H p (.lst (List.replicate n.toNat xs).flatten))
theorem zcA {xs ys:List V}{us vs:Lf}(h:Vals xs us)(k:Vals ys vs):Vals (xs++ys) (us++vs):=by
 induction h with
 | nil=>exact k
 | cons a _ ih=>exact .cons a ih
theorem Vs {xs:List V}{us:Lf}(h:Vals xs us):∀ n,Vals (List.replicate n xs).flatten (List.replicate n us).flatten
 | 0=>.nil
 | n+1=>by rw [gX,gX,Gi,Gi];exact zcA h (Vs h n)
theorem zeo {α:Type}(xs:List α)(n:Nat):(List.replicate n xs).flatten.length=xs.length * n:=by
 induction n with
 | zero=>simp
 | succ n ih=>rw [gX,Gi,ug,ih,Nat.mul_succ,Nat.add_comm]
theorem W5:OpR X (binaryOp .Mult) zeT:=by
 intro pins s σ H x y v u Q I rx ry h;obtain⟨a,xs,n,rfl,rfl,ha,h0,h1,hz,q⟩:=h;cases rx;obtain⟨t,rfl⟩:=ry;obtain⟨its,rv,p⟩:=jF I ha;obtain⟨⟨cls,dd,data,sl⟩,ho,hc,k,hd⟩:=id p;simp only at hc hd;subst hc hd;have hlen:=rv.length
 have hw:(List.foldl (λx1 x2=>x1++x2) #[] (List.replicate (if its.toArray.isEmpty=true then 0 else n.toNat) its.toArray))=((List.replicate n.toNat its).flatten).toArray:=by
  rw [listMul_foldl];split
  ·rename_i he;have:its=[]:=by simpa using he
   subst this;simp
  ·simp
 refine wpAny_binaryOp_repeat_ref (T:="list") (U:="int") (by decide) ⟨_,ho,rfl⟩ (λs'=>Gn s' n t) noFill_list_mul F.fills_int_mul F.slot_int_rmul repeat_list F.slot_int_index.lookup
  (gA F.slot_int_rmul (Gn s n t) F.entry_int_rmul (F.args_int_rmul_2 _ _) (lm_int_rmul_list_any n t a its.toArray k dd sl) ⟨ho,rfl,⟨_,ho,rfl⟩,
   gA F.slot_list_mul ⟨_,ho,rfl⟩ F.entry_list_mul (F.args_list_mul_2 _ _) (lm_list_mul_any a its.toArray k dd sl n t ?_ ?_ ?_) ⟨ho,?_⟩⟩)
 ·show ¬ (!(decide (-(2 ^ 63:Int)<=n)&&decide (n<2 ^ 63)))=true;rw [uQ (by lia),uQ (by lia)];decide
 ·have:its.toArray.size=xs.length:=by simp [hlen]
  rw [this];lia
 ·have:its.toArray.size=xs.length:=by simp [hlen]
  rw [this];show ¬ decide (_ > sizeLine)=true;rw [uH];simp;lia
 ·rw [hw];refine⟨.ref s.heap.objs.size,_,I.laid (t':=s.toks) (o:=.lst (List.replicate n.toNat xs).flatten) (λb o e=>uc _ e) (uk _) ⟨by rw [zeo,uH];lia,_,0,Vs rv n.toNat,um _ rfl⟩,rfl,q _ (I.hok.fresh (uk _))⟩
noncomputable def rIsB:R2:=λx y H Q=>∃ c,y=.bl c/\((∃ b,x=.bl b/\Q (.bl (b == c)) H))
noncomputable def zep:R2:=λx y H Q=>∃ c,y=.bl c/\((∃ b,x=.bl b/\Q (.bl (!(b == c))) H))
noncomputable def zkf:List V->Hp->VK->Prop:=λxs H Q=>∃ (p:Addr) (bs:List Bool),xs=[.ref p]/\H p=some (.lst (bs.map V.bl))/\Q (.bl (bs.all id)) H
end
section
variable {X:Cx}
noncomputable def zkg:R2:=λx y H Q=>(∃ (a:Addr) (xs:List V) (z:Str),x=.ref a/\y=.str z/\H a=some (.tup xs)/\Q (.bl false) H)\/∃ l m:Lc,x=.str (S l)/\y=.str (S m)/\Q (.bl (decide (l=m))) H
end
noncomputable def pdV:V->Option PyData
 | .non=>some .none
 | .bl b=>some (.bool b)
 | .int i=>some (.int i)
 | .str x=>some (.str x)
 | _=>none
noncomputable def pdVs:List V->Option (List PyData)
 | []=>some []
 | v::r=>match pdV v,pdVs r with
  | some d,some ds=>some (d::ds)
  | _,_=>none
inductive PdA (H:Hp):Addr->PyData->Prop
 | lst {a xs ds}:H a=some (.lst xs)->pdVs xs=some ds->PdA H a (.list ds)
 | tup {a xs ds}:H a=some (.tup xs)->pdVs xs=some ds->PdA H a (.tuple ds)
 | dct {a} {kvs:List (Key×V)} {ks vs:List PyData}:H a=some (.dK kvs)->pdVs (kvs.map λe=>kV e.1)=some ks->pdVs (kvs.map λe=>e.2)=some vs->PdA H a (.dict (ks.zip vs))
theorem PdA.mono {H H':Hp}{a:Addr}{d:PyData}(h:PdA H a d)(g:Same H H'):PdA H' a d:=by
 cases h with
 | lst h e=>exact .lst (g _ _ h) e
 | tup h e=>exact .tup (g _ _ h) e
 | dct h e k=>exact .dct (g _ _ h) e k
def PdT (H:Hp)(x:V)(d:PyData):Prop:=pdV x=some d\/∃ a,x=.ref a/\PdA H a d
theorem PdT.mono {H H':Hp}{x:V}{d:PyData}(h:PdT H x d)(g:Same H H'):PdT H' x d:=by
 rcases h with h | ⟨a,e,h⟩
 ·exact .inl h
 ·exact .inr ⟨a,e,h.mono g⟩
noncomputable def zkh:List V->Hp->VK->Prop:=λxs H Q=>∃ (x:V) (d:PyData),xs=[x]/\PdT H x d/\d.showable=true/\d.shown.length<=sizeLine/\Q (.str d.shown) H
section
variable {X:Cx} {a b c:Expr} {ta tb tc:TE} {pos:Pos}
end
section
variable {X:Cx}
noncomputable def zki:R2:=λx y H Q=>∃ (a:Addr) (xs:List V) (n:Int),x=.ref a/\y=.int n/\H a=some (.tup xs)/\xs≠[]/\2<=n/\n<=100000/\xs.length * n.toNat<=16777216/\∀ p,H p=none->Q (.ref p) (upd H p (.tup (List.replicate n.toNat xs).flatten))
end
def Jq (h:Heap)(a l:Addr)(i:Int):Prop:=∃ o,h.get? a=some o/\o.cls=.type "reversed"/\o.data=.fields #[.ref l,rawInt i]
section
variable {prog:Program} {w:World} {A:Around} {E:Value->Shared->Prop} {s:Shared}
theorem Jq.typeIs {a l:Addr}{i:Int}(x:Jq s.heap a l i):s.TypeIs (.ref a) "reversed":=let ⟨o,ho,hc,_⟩:=x;⟨o,ho,hc⟩
theorem Jq.at {h h':Heap}{a l:Addr}{i:Int}(x:Jq h a l i)(e:∀ o,h.get? a=some o->h'.get? a=some o):Jq h' a l i:=let ⟨o,ho,r⟩:=x;⟨o,e _ ho,r⟩
end
section
variable {X:Cx} {tg:Expr}
noncomputable def ItRT (K:Le)(a:Addr)(n:Nat):It:= ⟨λi H=>∃ xs x,SqT K H a xs/\xs.length=n/\xs.reverse[i]? = some x,λi H x H'=>H' = H/\∀ xs,SqT K H a xs->xs.reverse[i]? = some x,λi _=>i=n⟩
noncomputable def ItRL (K:Le)(a:Addr)(n:Nat):It:= ⟨λi H=>∃ xs x,SqL K H a xs/\xs.length=n/\xs.reverse[i]? = some x,λi H x H'=>H' = H/\∀ xs,SqL K H a xs->xs.reverse[i]? = some x,λi _=>i=n⟩
noncomputable def zkj (K:Le)(ta:TA):TI:=λσ H R=>ta σ H λvs H1=>∃ l xs,vs=[.ref l]/\SqT K H1 l xs/\R (ItRT K l xs.length) H1
noncomputable def zkk (K:Le)(ta:TA):TI:=λσ H R=>ta σ H λvs H1=>∃ l xs,vs=[.ref l]/\SqL K H1 l xs/\R (ItRL K l xs.length) H1
end
noncomputable def repN (c:Nat)(z:Lc):Lc->Lc
 | []=>[]
 | k::r=>(if k=c then z else [k])++repN c z r
section
variable {X:Cx}
variable {st:Stmt} {rest:List Stmt} {t u:TS}
noncomputable def zkl (c:Nat)(z:Lc)(to:TE):TE:=λσ H Q=>to σ H λx H1=>∃ l,x=.str (S l)/\l.length<=100000/\Q (.str (S (repN c z l))) H1
end
section
variable {X:Cx} {pos:Pos}
theorem zhG {o i:Expr}{to ti:TE}{t:TSet}(ho:QE X o to)(hi:QE X i ti)(hs:PSet X t)
  (ha:∀ v,assign (.Subscript o i pos) X.env v=(do
   let ov ← holding [v] (eval o X.env)
   let iv ← holding [v,ov] (eval i X.env)
   standAt pos
   holding [v,ov,iv] (setItem ov iv v)
   release [v,ov,iv] [])):QG X (.Subscript o i pos) (gSub to ti t):=⟨zgU (ho:=ho.h) (hi:=hi.h) (hs:=hs) (ha:=ha)⟩
end
noncomputable def hide (st:Addr)(H:Hp):Hp:=λb=>if b=st then none else H b
theorem zh {st:Addr}{H:Hp}:Same (hide st H) H:=λb o h=>by
 unfold hide at h;split at h
 ·cases h
 ·exact h
theorem hide_ne {st b:Addr}{H:Hp}(h:b≠st):hide st H b=H b:=ub h
theorem vb {st:Addr}{H:Hp}:hide st H st=none:=uf rfl
theorem zt {st:Addr}{H H':Hp}(g:Same H H'):Same (hide st H) (hide st H'):=λb o h=>by
 by_cases e:b=st
 ·rw [e,vb] at h;cases h
 ·rw [hide_ne e] at h ⊢;exact g _ _ h
def Sd (K:Le)(st a:Addr)(ns:List Int)(H:Hp):Prop:=(∃ n:Nat,H st=some (.lst [.ref a,.int n]))/\SqL K (hide st H) a (ns.map V.int)/\ns.length<=63
def Dr (st a:Addr)(H H':Hp):Prop:=Same (hide st H) (hide st H')/\∃ n:Nat,H' st=some (.lst [.ref a,.int n])
theorem Dr.trans {st a:Addr}{H H1 H2:Hp}(h:Dr st a H H1)(k:Dr st a H1 H2):Dr st a H H2:=⟨h.1.trans k.1,k.2⟩
theorem Sd.same {K:Le}{st a:Addr}{ns:List Int}{H H':Hp}(h:Sd K st a ns H)(g:Same H H'):Dr st a H H':=by obtain⟨⟨n,hn⟩,_⟩:=h;exact⟨zt g,n,g _ _ hn⟩
theorem Sd.refl {K:Le}{st a:Addr}{ns:List Int}{H:Hp}(h:Sd K st a ns H):Dr st a H H:=h.same (Same.refl H)
theorem Sd.put {K:Le}{st a:Addr}{ns:List Int}{H:Hp}{n:Nat}(h:Sd K st a ns H):Dr st a H (upd H st (.lst [.ref a,.int n])):=
 ⟨λb o hb=>by
  by_cases e:b=st
  ·rw [e,vb] at hb;cases hb
  ·rw [hide_ne e] at hb ⊢;rw [zr e];exact hb,n,zd⟩
theorem Sd.ne {K:Le}{st a p:Addr}{ns:List Int}{H:Hp}(h:Sd K st a ns H)(hp:H p=none):p≠st:=by obtain⟨⟨n,hn⟩,_⟩:=h;rintro rfl;rw [hn] at hp;cases hp
theorem Sd.new {K:Le}{st a p:Addr}{ns:List Int}{H:Hp}{o:HO}(h:Sd K st a ns H)(hp:H p=none):Dr st a H (upd H p o)/\hide st (upd H p o) p=some o:=⟨h.same (zb hp),by rw [hide_ne (h.ne hp)];exact zd⟩
section
variable {X:Cx} {e:Expr} {te:TE} {pos p2:Pos} {K:Le}
noncomputable def zkm (K:Le)(te:TE):TE:=λσ H Q=>te σ H λx H1=>∃ a xs,x=.ref a/\SqL K H1 a xs/\∀ p,H1 p=none->Q (.ref p) (upd H1 p (.lst xs.reverse))
end
variable {X:Cx}
end L2
namespace L2
open PySem PySem.Spec PySem.Calls PyProof.Rows PySem.W Builtin Builtin.ObjectAttr
section
variable {prog:Program} {w:World} {A:Around} {E:Value->Shared->Prop} {K:Frag} {C:Addr}
end
section
variable {X:Cx} {E:XS} {C:Addr} {x:Str} {e:Expr} {es:Lg} {t:TA} {np cpos pos:Pos} {j:Nat}
end
structure GotX (K:Frag)(H:Hp)(a C:Addr)(fs:List (Str×V)):Prop where
 cl:XCl K C
 ex:(∃ d,vn H a C (some d)/\H d=some (.xd fs))\/(fs=[]/\vn H a C none)
theorem GotX.mono {K:Frag}{H H':Hp}{a C:Addr}{fs:List (Str×V)}(g:GotX K H a C fs)(s:Same H H'):GotX K H' a C fs:= ⟨g.cl,g.ex.imp (λ⟨d,c,e⟩=>⟨d,c.mono s,s _ _ e⟩) λ⟨e,c⟩=>⟨e,c.mono s⟩⟩
section
variable {X:Cx} {pins:List (Addr×Obj)} {σ:St} {H:Hp} {s:Shared} {a C:Addr} {fs:List (Str×V)}
end
end L2
namespace L2
open PySem PySem.Spec PySem.Calls PyProof.Rows PySem.W
section
variable {prog:Program} {w:World} {A:Around} {R:Result->Shared->Prop} {I d:Addr} {fp wr:Ld} {n:Nat} {P:Nat->Value->Prop} {St:Nat->Heap->Prop} {K:Type} [DecidableEq K] {knd:KeyKind prog w K}
end
section
variable {X:Cx} {pins:List (Addr×Obj)} {σ:L2.St} {H:Hp} {s:Shared}
end
section
variable {X:Cx} {pins:List (Addr×Obj)} {σ:L2.St} {H:Hp} {s:Shared}
end
section
variable {P:Program} {w:World} {A:Around} {s:Shared} {a b:Addr} {xs ys:Array Value} {R:Result->Shared->Prop}
end
section
variable {X:Cx} {pins:List (Addr×Obj)} {σ:L2.St} {H:Hp} {s:Shared}
def okV (x:V):Prop:=zH x=true\/∃ a,x=.ref a
noncomputable def rNeI:R2:=λx y H Q=>∃ a b xs,x=.ref a/\y=.ref b/\H a=some (.tup xs)/\H b=some (.tup xs)/\(∀ x∈xs,okV x)/\Q (.bl false) H
noncomputable def rEq0 (K:Frag):R2:=λx y H Q=>∃ a b xs,x=.ref a/\y=.ref b/\SqL K H a xs/\SqL K H b []/\Q (.bl xs.isEmpty) H
noncomputable def rNe0 (K:Frag):R2:=λx y H Q=>∃ a b xs,x=.ref a/\y=.ref b/\SqL K H a xs/\SqL K H b []/\Q (.bl (!xs.isEmpty)) H
theorem zhH {K:Frag}(hK:X.K=K)(hu:X.A.units<cLine):OpR X (compareOp .Eq) (rEq0 K):=by
 subst hK;intro pins s σ H x y v u Q I rx ry h;obtain⟨a,b,xs,rfl,rfl,ha,hb,q⟩:=h;cases rx;cases ry;obtain⟨its,r1,p1,_⟩:=I.list ha;obtain⟨its2,r2,p2,_⟩:=I.list hb;cases r2;have l1:=r1.length;cases xs with
 | nil=>cases r1;exact SeqAt.eq_listAt (e:=λ_=>true) p1.isList p2.isList rfl hu (λj h1=>by simp at h1) ⟨.bl _,H,I,rfl,q⟩
 | cons x xs=>exact SeqAt.eq_list_lengthsAt p1.isList p2.isList (by simp [← l1]) hu ⟨.bl _,H,I,rfl,q⟩
theorem YD {K:Frag}(hK:X.K=K)(hu:X.A.units<cLine):OpR X (compareOp .NotEq) (rNe0 K):=by
 subst hK;intro pins s σ H x y v u Q I rx ry h;obtain⟨a,b,xs,rfl,rfl,ha,hb,q⟩:=h;cases rx;cases ry;obtain⟨its,r1,p1,_⟩:=I.list ha;obtain⟨its2,r2,p2,_⟩:=I.list hb;cases r2;have l1:=r1.length;cases xs with
 | nil=>cases r1;exact SeqAt.RcNeAt.lists (e:=λ_=>true) p1.isList p2.isList rfl hu (λj h1=>by simp at h1) _ _ _ _ ⟨.bl _,H,I,rfl,q⟩
 | cons x xs=>exact SeqAt.RcNeAt.lists_lengths p1.isList p2.isList (by simp [← l1]) hu _ _ _ _ ⟨.bl _,H,I,rfl,q⟩
def DcV (H:Hp)(x y:V):Prop:=∃ a b kvs,x=.ref a/\y=.ref b/\H a=some (.dK kvs)/\H b=some (.dK kvs)/\∀ kv∈kvs,okV kv.2
noncomputable def zkn (K:Frag):R2:=λx y H Q=>∃ a b xs ys,x=.ref a/\y=.ref b/\SqL K H a xs/\SqL K H b ys/\xs.length=ys.length/\(∀ (j:Nat) x y,xs[j]? = some x->ys[j]? = some y->DcV H x y)/\Q (.bl true) H
end
section
variable {X:Cx}
noncomputable def rDIn:R2:=λy x H Q=>∃ a o,x=.ref a/\DGet H a y o/\Q (.bl o.isSome) H
noncomputable def zko:TSet:=λo i v H Q=>∃ a kvs k,o=.ref a/\i=kV k/\H a=some (.dK kvs)/\kvs.length<sizeLine/\Q (upd H a (.dK (putK kvs k v)))
noncomputable def zhI:List V->Hp->VK->Prop:=λxs H Q=>∃ a kvs,xs=[.ref a]/\H a=some (.dK kvs)/\∀ p,H p=none->Q (.ref p) (upd H p (.dK kvs))
end
def FnX (P:Program)(w:World)(K:Frag)(mg:La)(base:Heap)(k:Nat)(f:Addr)(sp:Sp):Prop:=∃ fd ps,keepIn K (.ref f)=true/\Binds K fd ps []/\FnOk P w K mg base (CXE P w) k f fd ps sp
section
variable {X:Cx} {k j:Nat} {o i:Expr} {p pos:Pos} {e:Expr} {es:Lg} {tf:TE} {t:TA} {E:XS}
noncomputable def zeq (P:Program)(w:World)(K:Frag)(mg:La)(base:Heap)(k:Nat)(E:XS)(tf:TE)(t:TA):TE:=λσ H Q=>tf σ H λv H0=>∃ f sp,v=.ref f/\FnX P w K mg base k f sp/\t σ H0 λvs H1=>sp vs H1 Q λc d H'=>E c d σ H'
end
section
variable {X:Cx} {e:Expr} {te:TE}
end
section
variable {X:Cx} {elt iter:Expr} {x:Str} {px pos:Pos} {ifs:Lg} {scope:Scope} {wi:TI} {tt:TT} {te:TE}
end
noncomputable def zcB (K:Frag):List V->Hp->VK->Prop:=λxs H Q=>∃ p ys,xs=[.ref p]/\SqL K H p ys/\∀ l,H l=none->Q (.ref l) (upd H l (.lst ys))
theorem YE {X:Cx}{K:Frag}(hK:X.K=K):qV X (.type "list") (zcB K):=by subst hK;intro pins s σ H xs us Q I r h;obtain⟨p,ys,e,h1,h2⟩:=h;exact WV pins s σ H xs us Q I r ⟨p,ys,e,.inl h1,h2⟩
structure OkM (P:Program)(w:World)(K:Frag)(mg:La)(base:Heap)(k:Nat)(C:Addr)(m:Str)(ps:Lh)(sp:Sp):Prop where
 ex:∃ (f:Addr) (fd:FuncData),Cls K C/\Meth K C m f/\Binds K fd ps []/\FnOk P w K mg base (CXE P w) k f fd ps sp
structure OkC (P:Program)(w:World)(K:Frag)(mg:La)(base:Heap)(k:Nat)(C:Addr)(x:Str)(ps:Lh)(sp:Sp):Prop where
 ex:∃ (f:Addr) (fd:FuncData),Mk K C f/\Binds K fd ps []/\mg x=some (.ref C)/\FnOk P w K mg base (CXE P w) k f fd ps sp
structure Dm (K:Frag)(C:Addr)(m qual:Str)(st:Stmt)(ps:Lh):Prop where
 ex:∃ (f:Addr) (fd:FuncData),Fun K m qual st f fd/\Binds K fd ps []/\Cls K C/\Meth K C m f
structure Dc (K:Frag)(mg:La)(C:Addr)(x qual:Str)(st:Stmt)(ps:Lh):Prop where
 ex:∃ (f:Addr) (fd:FuncData),Fun K "__init__" qual st f fd/\Binds K fd ps []/\Mk K C f/\mg x=some (.ref C)
section
variable {P:Program} {w:World} {K:Frag} {mg:La} {base:Heap} {k j:Nat} {C:Addr} {m x qual:Str} {st:Stmt} {ps N:Lh} {sp sp':Sp}
theorem OkM.mono (F:OkM P w K mg base j C m ps sp)(h:j<=k):OkM P w K mg base k C m ps sp:=by obtain⟨f,fd,c,hm,b,G⟩:=F.ex;exact⟨f,fd,c,hm,b,G.mono h⟩
theorem OkM.imp (F:OkM P w K mg base k C m ps sp)(h:∀ vs H Q E,sp' vs H Q E->sp vs H Q E):OkM P w K mg base k C m ps sp':=by obtain⟨f,fd,c,hm,b,G⟩:=F.ex;exact⟨f,fd,c,hm,b,G.imp h⟩
theorem Dm.ok (D:Dm K C m qual st ps)(Sc:zo N ps (zg st))(len:∀ vs H Q E,sp vs H Q E->vs.length=ps.length) (hbody:∀ (f:Addr) (cdv:Value) (A:Around) (outer:List Env) (s:Shared) (H:Hp) (vs:List V) (Q:VK) (E:XK),Room k (A.deeper (envOfC qual (zg st) s.heap.objs.size f cdv))->sp vs H Q E -> ∃ t,PSs (cxOf (CXE P w) P w K mg base N qual (zg st) f cdv A outer s H E) (zQ st) t/\t { nx:=λ_ H'=>Q .non H',rt:=Q } (start N vs) H):OkM P w K mg base (k+1) C m ps sp:=by obtain⟨f,fd,F,b,cl,hm⟩:=D.ex;refine⟨f,fd,cl,hm,b,?_⟩;obtain⟨oc,od,kV,doc,pm,an,cdv,ct,osl,rfl,lk,hcd⟩:=F.ex;exact KS lk hcd Sc len λA outer s H vs Q E hr h=>hbody f cdv A outer s H vs Q E hr h
theorem Dc.ok (D:Dc K mg C x qual st ps)(Sc:zo N ps (zg st))(len:∀ vs H Q E,sp vs H Q E->vs.length=ps.length) (hbody:∀ (f:Addr) (cdv:Value) (A:Around) (outer:List Env) (s:Shared) (H:Hp) (vs:List V) (Q:VK) (E:XK),Room k (A.deeper (envOfC qual (zg st) s.heap.objs.size f cdv))->sp vs H Q E -> ∃ t,PSs (cxOf (CXE P w) P w K mg base N qual (zg st) f cdv A outer s H E) (zQ st) t/\t { nx:=λ_ H'=>Q .non H',rt:=Q } (start N vs) H):OkC P w K mg base (k+1) C x ps sp:=by obtain⟨f,fd,F,b,M,hm⟩:=D.ex;refine⟨f,fd,M,b,hm,?_⟩;obtain⟨oc,od,kV,doc,pm,an,cdv,ct,osl,rfl,lk,hcd⟩:=F.ex;exact KS lk hcd Sc len λA outer s H vs Q E hr h=>hbody f cdv A outer s H vs Q E hr h
end
section
variable {X:Cx} {K:Frag} {k j:Nat} {C:Addr} {x m f:Str} {ps:Lh} {sp:Sp} {p pos apos pos':Pos} {e o value:Expr} {es:Lg} {to ta tv:TE} {t:TA} {E:XS}
theorem qm (hK:X.K=K)(he:QE X e ta)(hb:attributeBase e f X.env (eval e X.env)=eval e X.env:=by rfl):QE X (.Attribute e f pos) (tFld K ta f):=⟨by subst hK;exact zg2 he.h hb⟩
theorem ZL (hK:X.K=K)(ha:QE X o ta)(hv:QE X value tv)(hs:swapsWith value (some (.Attribute o f pos')) pos.line X.env=pure false:=by rfl):QS X (.Assign [.Attribute o f pos'] value pos) (sFld K ta tv f):=⟨by subst hK;exact zg3 ha.h hv.h hs⟩
theorem wD {pl:Sem Bool}(F:OkM X.prog X.w X.K X.mg X.base k C m ps sp)(hr:Room j X.A)(hk:k<=j)(ho:QE X o to)(ha:QA X (e::es) t)
  (hst:starEach (e::es) X.env=(false,eval e X.env)::starEach es X.env:=by rfl) (hpl:(backTo pos (starEach es X.env)).any (·.1)=false:=by rfl)
  (ht:eval (.Call (.Attribute o m apos) (e::es) [] pos) X.env=(do
   let ov ← eval o X.env
   standAt apos.atName
   let (f,first) ← holding [ov] (getMethod ov m pl)
   callWith pos f first (backTo pos (starEach (e::es) X.env)) (backToKw pos (keywordEach [] X.env))):=by rfl) :
  QE X (.Call (.Attribute o m apos) (e::es) [] pos) (Q4 C m sp [] E0 to t):=by
 obtain⟨f,fd,cl,hm,b,G⟩:=F.ex
 exact⟨zdN ho.h cl hm G (hr.mono hk) b .nil K8 ha.h hst hpl ht⟩
theorem jN {pl:Sem Bool}(F:OkM X.prog X.w X.K X.mg X.base k C m ps sp)(hr:Room j X.A)(hk:k<=j)(ho:QE X o to)
  (ht:eval (.Call (.Attribute o m apos) [] [] pos) X.env=(do
   let ov ← eval o X.env
   standAt apos.atName
   let (f,first) ← holding [ov] (getMethod ov m pl)
   callWith pos f first (backTo pos (starEach [] X.env)) (backToKw pos (keywordEach [] X.env))):=by rfl) :
  QE X (.Call (.Attribute o m apos) [] [] pos) (Q4 C m sp [] E0 to tNil):=by
 obtain⟨f,fd,cl,hm,b,G⟩:=F.ex
 exact⟨zbK ho.h cl hm G (hr.mono hk) b .nil K8 ht⟩
theorem Zo (F:OkC X.prog X.w X.K X.mg X.base k C x ps sp)(hr:Room j X.A)(hk:k+1<=j)(ha:QA X (e::es) t)(hg:Gl X x:=by rfl) (hdb:(x == ("__debug__":Str))=false:=by decide) (he:starEach (e::es) X.env=(false,eval e X.env)::starEach es X.env:=by rfl) (hpl:(backTo pos (starEach es X.env)).any (·.1)=false:=by rfl):QE X (.Call (.Name x p) (e::es) [] pos) (zbI C sp [] E0 t):=by obtain⟨f,fd,M,b,hm,G⟩:=F.ex;exact⟨zdO M G (hr.mono hk) hg hm b .nil K8 ha.h hdb he hpl⟩
noncomputable def zcC (C:Addr)(m:Str)(sp:Sp)(E:XS)(ta:TE)(t:TA):TE:=λσ H Q=>ta σ H λx H1=>∃ a dx fs,x=.ref a/\H1 a=some (.ins C dx fs)/\fs.lookup m=none/\t σ H1 λvs H2=>sp (x::vs) H2 Q λc d H'=>E c d σ H'
theorem jb {pl:Sem Bool}(hx:Thr X E)(F:OkM X.prog X.w X.K X.mg X.base k C m ps sp)(hr:Room j X.A)(hk:k<=j)(ho:QE X o to)(ha:QA X (e::es) t)
  (hst:starEach (e::es) X.env=(false,eval e X.env)::starEach es X.env:=by rfl) (hpl:(backTo pos (starEach es X.env)).any (·.1)=false:=by rfl)
  (ht:eval (.Call (.Attribute o m apos) (e::es) [] pos) X.env=(do
   let ov ← eval o X.env
   standAt apos.atName
   let (f,first) ← holding [ov] (getMethod ov m pl)
   callWith pos f first (backTo pos (starEach (e::es) X.env)) (backToKw pos (keywordEach [] X.env))):=by rfl) :
  QE X (.Call (.Attribute o m apos) (e::es) [] pos) (zcC C m sp E to t):=by
 refine⟨λpins s σ H Q I h=>?_⟩
 obtain⟨f,fd,cl,hm,b,G⟩:=F.ex
 refine UG (pl:=pl) (thn (ho.h pins s σ H _ I h) λu s1 ⟨x,H1,I1,rx,a,dx,fs,ex,ea,l,q⟩=>?_) ht
 subst ex
 obtain rfl:u=Value.ref a:=rx
 refine vG I1 ea cl hm l ?_
 refine Ug (first:=[.ref a]) (h₀:=X.base) I.ok.mod.kin hm.kp (thn (ha.h pos pins s1 σ H1 _ I1 q) λus s2 ⟨vs,H2,I2,r,q2⟩=>⟨I2.kIn,?_⟩) hst hpl
 exact K4 (us:=.ref a::us) (vs:=.ref a::vs) G (hr.mono hk) b hx I2 (.cons rfl r) q2
end
structure qX (k:Nat)(A:Around):Prop where
 dp:A.depth+3 * k+5<recursionLimit
 un:A.units+16 * k+200<cLine
 gd:A.guards=some []
theorem Room.n {k:Nat}{A:Around}(r:Room k A):qX k A:=⟨r.dp,r.un,r.gd⟩
theorem qX.mono {j k:Nat}{A:Around}(r:qX k A)(h:j<=k):qX j A:=⟨by have:=r.dp;lia,by have:=r.un;lia,r.gd⟩
theorem qX.deeper {k:Nat}{A:Around}(r:qX (k+1) A)(env:Env):qX k (A.deeper env):=
 ⟨by have:=r.dp;show A.depth+1+3 * k+5<_;lia,by have:=r.un;show A.units+3+16 * k+200<_;lia,r.gd⟩
theorem qX.depth {k:Nat}{A:Around}(r:qX k A):A.depth<recursionLimit:=by have:=r.dp;lia
structure Qp (P:Program)(w:World)(K:Le)(mg:La)(base:Heap)(CX:CXT)(k:Nat)(f:Addr)(fd:FuncData)(ps:Lh)(sp:Sp):Prop where
 len:∀ vs H Q E,sp vs H Q E->vs.length=ps.length
 run:∀ (A:Around) (outer:List Env) (s:Shared) (H:Hp) (args:Args) (us:Lf) (vs:List V) (Q:VK) (E:XK),qX k A->Env0 P w K mg base A outer s H->BindsTo s fd args (ps.zip us)->Vals vs us->sp vs H Q E ->
  codeAny (model P w) A (.call (.ref f) args) (CR CX outer P w H s Q E) s
theorem Qp.ok {P:Program}{w:World}{K:Le}{mg:La}{base:Heap}{CX:CXT}{k:Nat}{f:Addr}{fd:FuncData}{ps:Lh}{sp:Sp}(F:Qp P w K mg base CX k f fd ps sp):FnOk P w K mg base CX k f fd ps sp:=⟨F.len,λA outer s H args us vs Q E hr=>F.run A outer s H args us vs Q E hr.n⟩
noncomputable abbrev Jr (CX:CXT)(P:Program)(w:World)(K:Le)(mg:La)(base:Heap)(N:Lh)(qual:Str)(scope:Scope)(f:Addr)(cd:Value)(A:Around)(outer:List Env)(s:Shared)(H:Hp)(E:XK):Cx:={ cxOf CX P w K mg base N qual scope f cd A outer s H E with calm:=false }
theorem YF {CX:CXT}{P:Program}{w:World}{K:Le}{mg:La}{base:Heap}{N ps:Lh}{qual:Str}{scope:Scope}{f:Addr}{cd:Value}{A:Around}{outer:List Env}{s s1:Shared}{H:Hp}{E:XK}{us:Lf}{vs:List V} (S:zo N ps scope) (e0:Env0 P w K mg base A outer s H) (hl:vs.length=ps.length) (r:Vals vs us) (x:InCallC s s.heap.objs.size (bindL (envOfC qual scope s.heap.objs.size f cd).kindOf (ps.zip us) λ_=>none) (cellsFrom (s.heap.objs.size+1) scope.names []) (bindC (envOfC qual scope s.heap.objs.size f cd).kindOf (ps.zip us) λ_=>none) s1) : Inv (Jr CX P w K mg base N qual scope f cd A outer s H E) [] (start N vs) H s1:=by
 have hpl:ps.length<=N.length:=by have:=congrArg List.length S.pre;rw [Ul] at this;lia
 obtain⟨h1,tk,rfl,hk⟩:=x.done;have noA:∀ b:Addr,b∉(Jr CX P w K mg base N qual scope f cd A outer s H E).ex:=λb z=>absurd (show b∈([]:Ld) from z) (by simp)
 refine⟨⟨e0.mod,S.kind,rfl,rfl,uk _,λy z c h1 h2=>?_,λy hy=>?_,λy c _ h=>?_,λz=>absurd (show false=true from z) (by decide),Around.frames_deeper e0.frames,.inr ⟨rfl,rfl⟩,λb z=>absurd z (noA b),e0.bs,e0.bsz,λb _ _=>noA b,λb z=>absurd z (noA b),e0.funs,e0.frf⟩,
  rfl,e0.bare,Un.kept hk,⟨_,x.toInCall.ns,λi y v h1 h2 h3=>?_⟩,λy c h=>⟨_,x.cell y c h⟩,e0.hok.fresh (uk _),λy c h=>?_,λp hp=>absurd (show p∈([]:List (Addr×Obj)) from hp) (by simp),e0.hok.kept hk,?_⟩
 ·exact name_of_addr x.apart (uC h1) (uC h2)
 ·have hy:scope.names.lookup y=some .cell\/scope.names.lookup y=some .free:=hy;rcases hy with hy | hy
  ·exact Zd hy
  ·exact absurd rfl (S.nofree _ (uC hy))
 ·exact gc (x.above y c (uC h))
 ·have hi:i<vs.length:=by
   unfold start at h2
   by_cases hi:i<vs.length
   ·exact hi
   ·rw [gj (by simpa using hi)] at h2
    rw [GS] at h2
    split at h2<;>cases h2
  have ha:vs[i]? = some v:=by
   unfold start at h2
   rw [UN (by simpa using hi),Um] at h2
   cases e:vs[i]? with
   | none=>rw [e] at h2;cases h2
   | some a=>rw [e] at h2;cases h2;rfl
  obtain⟨u,hu,rv⟩:=r.get ha
  have hp:ps[i]? = some y:=by
   rw [← S.pre,GP (by lia)];exact h1
  have ndP:ps.Nodup:=by rw [← S.pre];exact S.nd.sublist (List.take_sublist _ _)
  refine⟨u,rv,?_⟩
  rcases S.par y (uZ hp) with k | k
  ·exact .inl ⟨k,ZD ndP hp hu k⟩
  ·obtain⟨c,e⟩:=Zd (n:=s.heap.objs.size+1) k
   refine .inr ⟨.inl k,c,e,?_⟩
   have q:=x.cell y c e
   rw [ZE ndP hp hu (by show scope.names.lookup y≠_;rw [k];decide)] at q
   exact q
 ·exact e0.hok.fresh (gc (x.above y c (uC h)))
 ·unfold start;show _=N.length;rw [ug,uS,List.length_replicate];lia
theorem zcD {CX:CXT}{P:Program}{w:World}{K:Le}{mg:La}{base:Heap}{k:Nat}{f:Addr}{name qual:Str}{params:Arguments}{body:List Stmt}{scope:Scope}{dV kV doc pm cdv ct oc:Value}{an od:Option Addr} {osl:Array (Option Value)} {N ps:Lh} {sp:Sp} (lk:K.lookup f=some ⟨oc,od,.func (PySem.W.fnOf name qual params body scope dV kV doc pm an cdv ct),osl⟩) (hcd:PySem.W.codeIn K cdv qual=true) (S:zo N ps scope) (len:∀ vs H Q E,sp vs H Q E->vs.length=ps.length) (hbody:∀ (A:Around) (outer:List Env) (s:Shared) (H:Hp) (vs:List V) (Q:VK) (E:XK),qX k (A.deeper (envOfC qual scope s.heap.objs.size f cdv))->sp vs H Q E -> ∃ t,PSs (Jr CX P w K mg base N qual scope f cdv A outer s H E) body t/\t { nx:=λ_ H'=>Q .non H',rt:=Q } (start N vs) H) : Qp P w K mg base CX (k+1) f (PySem.W.fnOf name qual params body scope dV kV doc pm an cdv ct) ps sp:=by
 refine⟨len,λA outer s H args us vs Q E hr e0 hb r hsp=>?_⟩;have hl:=len _ _ _ _ hsp;have KX:K.In s.heap:=e0.mod.kin.keeps λb o e=>(e0.bs b o e).1;have lim:s.heap.NoLimit:=e0.mod.nolimit.keeps λb o e=>(e0.bs b o e).1
 have hkind:∀ y∈ps.zip us,scope.names.lookup y.1=some .local\/(scope.names.lookup y.1=some .cell/\((cellsFrom (s.heap.objs.size+1) scope.names []).lookup y.1).isSome=true):=λ⟨n,v⟩ hy=>by
  rcases S.par n (U8 hy).1 with q | q
  ·exact .inl q
  ·exact .inr ⟨q,UZ _ _ _ (.inl q)⟩
 refine gf hr.depth (KX _ _ lk) rfl S.co S.gen rfl (g8 KX hcd) (hb _ _ _ _ ?_);refine U0 S.kind hkind λenv he s1 x=>?_;subst he;refine⟨lim.keeps x.toInCall.keep,g9 ?_⟩;obtain⟨t,ht,hq⟩:=hbody A outer s H vs Q E (hr.deeper _) hsp;have I:Inv (Jr CX P w K mg base N qual scope f cdv A outer s H E) [] (start N vs) H s1:=YF S e0 hl r x;refine uj (ht [] s1 (start N vs) H _ I hq) (λfl s' hs=>?_) λe s' hs=>hs
 have fin:∀ {σ':St} {H':Hp} {v:V} {u:Value},Inv (Jr CX P w K mg base N qual scope f cdv A outer s H E) [] σ' H' s'->RelV v u->Q v H'->CE outer P w H s Q u s':=
  λ{σ' H' v u} J rv q=>⟨v,H',J.os,J.bare,J.base,J.hok,rv,q⟩
 cases fl with
 | ret u=>obtain⟨v,σ',H',J,rv,q⟩:=hs;exact fin J rv q
 | next=>obtain⟨σ',H',J,q⟩:=hs;exact fin (v:=V.non) (u:=Value.none) J rfl q
 | brk=>obtain⟨_,_,_,q⟩:=hs;exact False.elim q
 | cont=>obtain⟨_,_,_,q⟩:=hs;exact False.elim q
section
variable {X:Cx} {CX:CXT} {k:Nat} {f C:Addr} {fd:FuncData} {ps:Lh} {sp:Sp} {dvs:List V} {ds:Lf} {E:XK} {x m:Str} {p pos apos:Pos} {e o:Expr} {es:Lg} {ta:TE} {t:TA}
theorem zer {pins:List (Addr×Obj)}{σ:St}{H:Hp}{s:Shared}{Q:VK}{us:Lf}{vs:List V}(F:Qp X.prog X.w X.K X.mg X.base CX k f fd ps sp)(hr:qX k X.A)(hb:Binds X.K fd ps ds)(hd:Vals dvs ds)(hx:Passes CX X E) (I:Inv X pins σ H s) (r:Vals vs us) (h:sp (vs++dvs) H Q E):wpAny (model X.prog X.w) X.A (call (.ref f) us) (EP X pins σ Q) X.xe s:=by
 have r2:Vals (vs++dvs) (us++ds):=r.append hd;have hl:(us++ds).length=ps.length:=by rw [← r2.length];exact F.len _ _ _ _ h
 refine Ua (Ue (F.run X.A X.stack s H ⟨us,[]⟩ (us++ds) (vs++dvs) Q E hr I.env0 (hb s us I.kIn hl) r2 h) λr s' hq=>?_);cases r with
 | error e=>exact hx pins σ H s e s' I hq
 | ok fl=>
  cases fl with
  | ret u=>exact I.after hq
  | next=>exact False.elim hq
  | brk=>exact False.elim hq
  | cont=>exact False.elim hq
theorem zbf {pl:Sem Bool}(he:PE X o ta)(c:Cls X.K C)(hm:Meth X.K C m f)(F:Qp X.prog X.w X.K X.mg X.base CX k f fd ps sp)(hr:qX k X.A)(hb:Binds X.K fd ps ds)(hd:Vals dvs ds)(hx:Passes CX X E)
  (ht:eval (.Call (.Attribute o m apos) [] [] pos) X.env=(do
   let ov ← eval o X.env
   standAt apos.atName
   let (f,first) ← holding [ov] (getMethod ov m pl)
   callWith pos f first (backTo pos (starEach [] X.env)) (backToKw pos (keywordEach [] X.env))):=by rfl) :
  PE X (.Call (.Attribute o m apos) [] [] pos) (Q4 C m sp dvs E ta tNil):=by
 intro pins s σ H Q I h
 refine UG (pl:=pl) (thn (he pins s σ H _ I h) λu s1 ⟨x,H1,I1,rx,a,dx,fs,ex,ea,l,q⟩=>?_) ht
 subst ex
 obtain rfl:u=Value.ref a:=rx
 refine vG I1 ea c hm l ?_
 exact gS (first:=[.ref a]) I1.kIn hm.kp (zer (us:=[.ref a]) (vs:=[.ref a]) F hr hb hd hx I1 (.cons rfl .nil) q)
end
noncomputable def Vt (C:Addr)(fs:List V->List (Str×V))(pay:List V->Prop):Sp:=λvs H Q _=>∃ a xs,vs=.ref a::xs/\H a=some (ExN C a)/\pay xs/\∀ d,H d=none->d≠a->Q .non (upd (upd H a (ExD C d a)) d (.xd (fs xs)))
structure ErrN (P:Program)(w:World)(K:Frag)(mg:La)(base:Heap)(x:Str)(C:Addr)(fs:List V->List (Str×V))(pay:List V->Prop):Prop where
 gl:mg x=some (.ref C)
 cl:XCl K C
 kp:keepIn K (.ref C)=true
 ex:∃ (fI:Addr) (fd:FuncData) (oI:Obj) (ps:Lh),Ql K C=some (some (.ref fI))/\K.lookup fI=some oI/\oI.cls=.type "function"/\Binds K fd ps []/\Qp P w K mg base CX0 1 fI fd ps (Vt C fs pay)
section
variable {X:Cx} {E:XS} {C:Addr} {x f:Str} {fs:List V->List (Str×V)} {pay:List V->Prop} {e:Expr} {es:Lg} {t:TA} {np cpos pos pos':Pos} {j:Nat} {name:Str}
def MdE (X:Cx)(C:Addr)(E:XS)(σ:St)(v:Value)(s₁:Shared):Prop:=∃ a d vs sl H2,v=.ref a/\s₁.heap.get? a=some ⟨.ref C,some d,.fields vs,sl⟩/\(vs[1]? = some .none/\vs[2]? = some .none/\vs.size=6)/\Inv X [] σ H2 s₁/\X.s₀.heap.objs.size<=a/\H2 a=none/\(∀ q∈X.pn,q.1≠a)/\E (.ref C) (some d) σ H2
noncomputable def Zp (C:Addr)(fs:List V->List (Str×V))(pay:List V->Prop)(E:XS)(t:TA):TS:=λ_ σ H=>t σ H λvs H1=>pay vs/\vs.length<=1000/\∀ d H2,Same H1 H2->H1 d=none->H2 d=some (.xd (fs vs))->E (.ref C) (some d) σ H2
theorem qX.make {k:Nat}{A:Around}(r:qX (k+1) A)(C:Addr)(us:Lf)(kw:List (Str×Value)):qX k (A.under (.builtin "type.__call__" ⟨.ref C::us,kw⟩)):=
 ⟨by have:=r.dp;rw [Q2];lia,by have:=r.un;rw [Q3];lia,by rw [Qg];exact r.gd⟩
theorem zam {pins:List (Addr×Obj)}{s:Shared}{σ:St}{H:Hp}{D:Ends}(R:ErrN X.prog X.w X.K X.mg X.base x C fs pay)(hr:qX j X.A)(hj:2<=j)(ha:PA X (e::es) t)(hg:Gl X x)(hdb:(x == ("__debug__":Str))=false) (he:starEach (e::es) X.env=(false,eval e X.env)::starEach es X.env) (hpl:(backTo cpos (starEach es X.env)).any (·.1)=false) (I:Inv X pins σ H s) (h:Zp C fs pay E t D σ H) : wpAny (model X.prog X.w) X.A (eval (.Call (.Name x np) (e::es) [] cpos) X.env) (MdE X C E σ) X.xe s:=by
 have c:=R.cl;refine uV (jR I hg R.gl ?_ hdb);refine Ug (h₀:=X.base) I.ok.mod.kin R.kp (thn (ha cpos pins s σ H _ I h) λus s1 ⟨vs,H1,I1,r,hp,hl,q⟩=>⟨I1.kIn,?_⟩) he hpl;obtain⟨fI,fd,oI,ps,i1,i2,i3,hb,F⟩:=R.ex;refine X2 I1.kIn c.sh i1 i2 i3 (by show us.length<=_;rw [← Vals.length r];exact ux hl (by rw [uH];decide)) λh' a g1 g2=>?_;obtain⟨t0,z1,_,_⟩:=g2.there;have n1:=I1.hok.fresh g1;have I2:Inv X pins σ (upd H1 a (ExN C a)) { s1 with heap:=h' }:=I1.laid (t':=s1.toks) g2.keeps g1 (Yt (t:=t0) z1 rfl ⟨rfl,rfl,rfl⟩)
 have hsp:Vt C fs pay (.ref a::vs) (upd H1 a (ExN C a)) (λw2 H2=>w2=.non/\∃ d,upd H1 a (ExN C a) d=none/\d≠a/\H2=upd (upd (upd H1 a (ExN C a)) a (ExD C d a)) d (.xd (fs vs))) E0:=
  ⟨a,vs,rfl,zd,hp,λd q1 q2=>⟨rfl,d,q1,q2,rfl⟩⟩
 have r2:Vals (V.ref a::vs) (Value.ref a::us):=.cons rfl r;have hb':=hb { s1 with heap:=h' } (.ref a::us) I2.kIn (by rw [← F.len _ _ _ _ hsp,uz];exact congrArg (· + 1) (Vals.length r).symm);refine Ua (Ue (F.run (X.A.under (.builtin "type.__call__" ⟨.ref C::us,[]⟩)) X.stack { s1 with heap:=h' } _ ⟨.ref a::us,[]⟩ _ _ _ _ ((hr.mono hj).make C us []) (I2.env0.make C us []) hb' (by simpa using r2) hsp) λr s' hq=>?_);rcases r with er | fl
 ·exact False.elim hq
 cases fl with
 | next=>exact False.elim hq
 | brk=>exact False.elim hq
 | cont=>exact False.elim hq
 | ret w2=>
  obtain⟨v2,H2,I3,rv2,rfl,d,q1,q2,rfl⟩:=I2.after hq;have hx1:jr X.prog X.w (upd (upd (upd H1 a (ExN C a)) a (ExD C d a)) d (.xd (fs vs))) s'.heap a (ExD C d a):=I3.hok a _ (by rw [zr (Ne.symm q2),zd]);obtain⟨⟨vs',sl',e1,e2⟩,_⟩:=hx1;have np:∀ q∈X.pn,q.1≠a:=λq hq y=>by have:=(I1.pin q (uW _ hq)).1;exact absurd (uq (ue this) (y ▸ g1)) (uM _)
  have q1':H1 d=none:=by rw [zr q2] at q1;exact q1
  have sa:Same H1 (λb=>if b=a then none else upd (upd (upd H1 a (ExN C a)) a (ExD C d a)) d (.xd (fs vs)) b):=λb o hb=>by
   have ba:b≠a:=λy=>by rw [y,n1] at hb;cases hb
   have bd:b≠d:=λy=>by rw [y,q1'] at hb;cases hb
   simp only [ub ba];rw [zr bd,zr ba,zr ba];exact hb
  refine⟨rv2,a,d,vs',sl',_,rfl,e1,e2,?_,ux I1.sz g1,?_,np,q d _ sa q1' ?_⟩
  ·have I4:Inv X [] σ (upd (upd (upd H1 a (ExN C a)) a (ExD C d a)) d (.xd (fs vs))) s':=I3.pins_of λp hp=>absurd hp (by simp)
   have key:∀ b o,(λb=>if b=a then none else upd (upd (upd H1 a (ExN C a)) a (ExD C d a)) d (.xd (fs vs)) b) b=some o->b≠a/\upd (upd (upd H1 a (ExN C a)) a (ExD C d a)) d (.xd (fs vs)) b=some o:=λb o z=>by
    by_cases hb:b=a
    ·simp [hb] at z
    ·simp only [ub hb] at z;exact⟨hb,z⟩
   have back:∀ b o,b≠a->upd (upd (upd H1 a (ExN C a)) a (ExD C d a)) d (.xd (fs vs)) b=some o->(λb=>if b=a then none else upd (upd (upd H1 a (ExN C a)) a (ExD C d a)) d (.xd (fs vs)) b) b=some o:=λb o hb z=>by simp only [ub hb];exact z
   have nex:∀ b o,upd (upd (upd H1 a (ExN C a)) a (ExD C d a)) d (.xd (fs vs)) b=some o->(∀ φ,o≠.ext φ)->b≠a:=λb o z no y=>by rw [y,zr (Ne.symm q2),zd] at z;cases z;exact no _ rfl
   refine I4.step (h':=s'.heap) (g':=s'.gens) (t':=s'.toks) (d':=s'.drawn) (ch:=[]) (λ_ z=>absurd z (by simp)) (λb o _ _ _ z _=>z) (λb o _ _ _ z _=>⟨o.slots,z⟩) (λb o _ _ z=>?_) (λb o _ z=>⟨o,z⟩) (λb xs z=>back b _ (nex b _ z λ_ y=>by cases y) z) (λb o u z=>back b _ (nex b _ z λ_ y=>by cases y) z)
    (λb ps z=>⟨#[],by rw [Gd];exact back b _ (nex b _ z λ_ y=>by cases y) z⟩) (λm z=>z) (λb o z=>?_) I4.bare
   ·by_cases hb:b=a
    ·simp [hb]
    ·simp only [ub hb];exact z
   ·obtain⟨hb,z⟩:=key b o z;exact(I4.hok b o z).stay (λ_ _ _ y=>y) (λc y=>back c _ (nex c _ y λ_ y=>by cases y) y) λc xs y=>back c _ (nex c _ y λ_ y=>by cases y) y
  ·simp
  ·simp only [ub q2];rw [zd]
theorem zbg (hx:Thr X E)(R:ErrN X.prog X.w X.K X.mg X.base x C fs pay)(hr:Room j X.A)(hj:2<=j)(ha:PA X (e::es) t)(hg:Gl X x:=by rfl) (hdb:(x == ("__debug__":Str))=false:=by decide) (he:starEach (e::es) X.env=(false,eval e X.env)::starEach es X.env:=by rfl) (hpl:(backTo cpos (starEach es X.env)).any (·.1)=false:=by rfl) : PS X (.Raise (some (.Call (.Name x np) (e::es) [] cpos)) none pos) (Zp C fs pay E t):=by intro pins s σ H D I h;rw [gO];refine ua (u5 (Wq (C:=C) (K:=X.K) hr.hd ?_));refine ua (thn (zam R hr.n hj ha hg hdb he hpl I h) λv s₁ ⟨a,d,vs,sl,H2,e0,e1,e2,J,h1,h2,h3,q⟩=>ua (u5 (ud ⟨a,_,vs,sl,e0,J.kIn,R.cl,e1,e2.1,hx _ _ ⟨a,_,_,H2,[],σ,rfl,J,h1,h2,h3,.inl ⟨sl,vs,e1,e2.1,λ_=>e2.2.1⟩,q⟩⟩)))
theorem JY:entryFor table "proto.unchain" = some Builtin.«proto.unchain»:=entryFor_of_tree (by kernel_rfl)
theorem YG {prog:Program}{w:World}{A:Around}{Ee:Value->Shared->Prop}{K:Frag}{s:Shared}{env:Env}{y cz:Sem Value}{ea:Addr}{Q:Flow->Shared->Prop}(hh:A.handled=some (.ref ea))(hcz:∀ (Q:Value->Shared->Prop) (s:Shared),Q .none s->wpAny (model prog w) A cz Q Ee s) (h:wpAny (model prog w) A y (λv s₁=>∃ a dd vs sl eo ws,v=.ref a/\K.In s₁.heap/\XCl K C/\s₁.heap.get? a=some ⟨.ref C,dd,.fields vs,sl⟩/\vs[1]? = some .none/\vs.size=6/\ea≠a/\s₁.heap.get? ea=some eo/\eo.data=.fields ws/\ws[2]? = some .none /\ ∀ h' vs',Kp [a] [] s₁.heap h'->h'.get? a=some ⟨.ref C,dd,.fields vs',sl⟩->vs'[1]? = some .none->Ee (.ref a) { s₁ with heap:=h' }) Ee s):wpAny (model prog w) A (raiseStmt env (some y) (some cz)) Q Ee s:=by
 unfold raiseStmt;refine ua (uj h (λv s₁ z=>?_) λ_ _ z=>z);obtain⟨a,dd,vs,sl,eo,ws,rfl,KX,c,e0,h1,h6,ne,he,hd,h2,k⟩:=z;obtain⟨nm,q,N,bs,bm,hdd,sn,sub,ab,col,dd',k0,k1,k2,k3,k5,cd,hC,hcd,hmro,hns,hdd,OT,hok⟩:=ye KX c.sh;refine ua (uX (hcz _ _ (ua (ud ?_))));obtain⟨hp,g,dr,tk,os⟩:=s₁;have hcB:(Value.ref C::bm).contains (.type "BaseException")=true:=by rw [UW,OT.hasType (X:="BaseException") (b:=true) (by decide +kernel),Uz]
 repeat (first | (with_reducible refine uG e0 ?_) | (with_reducible refine uG hC ?_) | (with_reducible refine uJ e0 rfl h1 ?_) | (with_reducible refine UO hC ?_;rw [hcB]) | wp_step)
 have nC:C≠a:=λz=>by rw [z,e0] at hC;injection hC with hC;injection hC with hC;cases hC
 have hC2:((hp.update a (Obj.mapFields λx=>x.setIfInBounds 3 Value.none)).update a (Obj.mapFields λx=>x.setIfInBounds 4 (Value.bool true))).get? C=some (excClassObj nm q C N bs bm _ sn sub ab col dd' k0 k1 k2 k3 k5 "ValueError.__new__"):=(uo _ _ (Ne.symm nC)).trans ((uo _ _ (Ne.symm nC)).trans hC);have ea2:((hp.update a (Obj.mapFields λx=>x.setIfInBounds 3 Value.none)).update a (Obj.mapFields λx=>x.setIfInBounds 4 (Value.bool true))).get? ea=some eo:=(uo _ _ (Ne.symm ne)).trans ((uo _ _ (Ne.symm ne)).trans he);have a1:(hp.update a (Obj.mapFields λx=>x.setIfInBounds 3 Value.none)).get? a=some ⟨.ref C,dd,.fields (vs.setIfInBounds 3 .none),sl⟩:=uU _ e0 rfl;have a2:((hp.update a (Obj.mapFields λx=>x.setIfInBounds 3 Value.none)).update a (Obj.mapFields λx=>x.setIfInBounds 4 (Value.bool true))).get? a=some ⟨.ref C,dd,.fields ((vs.setIfInBounds 3 .none).setIfInBounds 4 (.bool true)),sl⟩:=uU _ a1 rfl
 have k2':Kp [a] [] hp ((hp.update a (Obj.mapFields λx=>x.setIfInBounds 3 Value.none)).update a (Obj.mapFields λx=>x.setIfInBounds 4 (Value.bool true))):=
  have oth:∀ b,b∉[a]->((hp.update a (Obj.mapFields λx=>x.setIfInBounds 3 Value.none)).update a (Obj.mapFields λx=>x.setIfInBounds 4 (Value.bool true))).get? b=hp.get? b:=λb hb=>(uo _ _ (λz=>hb (by simp [z]))).trans (uo _ _ (λz=>hb (by simp [z])))
  ⟨λb o hb _ q=>(oth b hb).trans q,λb o hb q=>⟨o.slots,(oth b hb).trans q⟩⟩
 have s1:((vs.setIfInBounds 3 .none).setIfInBounds 4 (.bool true))[1]? = some .none:=by simpa [UC] using h1
 have s2:2<((vs.setIfInBounds 3 .none).setIfInBounds 4 (.bool true)).size:=by simp [h6]
 generalize ((vs.setIfInBounds 3 Value.none).setIfInBounds 4 (.bool true))=vs2 at a2 s1 s2;generalize ((hp.update a (Obj.mapFields λx=>x.setIfInBounds 3 Value.none)).update a (Obj.mapFields λx=>x.setIfInBounds 4 (Value.bool true)))=hp2 at hC2 ea2 a2 k2' ⊢;clear a1
 repeat (first | (with_reducible refine uG hC2 ?_) | (with_reducible refine uJ a2 rfl s1 ?_) | wp_step)
 unfold raiseNew;refine ua (wpAny_handled ?_);rw [hh];have hne:(Value.ref ea != Value.ref a)=true:=by simpa using ne
 show wpAny (model prog w) A (if (Value.ref ea != Value.ref a)=true then _ else _) Q Ee _;rw [uf hne];refine ua (uX (wpAny_runValue (codeAny_builtin JY ?_)));unfold Builtin.«proto.unchain»;refine ua (uJ ea2 hd h2 ?_);rw [uf (show(Value.none == Value.none)=true from rfl)];refine ua (ud ?_);refine ud (ua ?_);show wpAny (model prog w) A (setField (.ref a) 2 (.ref ea)) _ Ee _;refine Ut a2 rfl s2 (wpAny_throw ?_);refine k _ (vs2.setIfInBounds 2 (.ref ea)) ?_ (uU _ a2 rfl) (by simpa [UC] using s1);have oth:∀ b,b∉[a]->(hp2.update a (Obj.mapFields (·.setIfInBounds 2 (Value.ref ea)))).get? b=hp2.get? b:=λb hb=>uo _ _ (λz=>hb (by simp [z]));exact⟨λb o hb hf q=>(oth b hb).trans (k2'.keep b o hb hf q),λb o hb q=>let ⟨sl,q⟩:=k2'.slot b o hb q;⟨sl,(oth b hb).trans q⟩⟩
noncomputable def W6 (ea C:Addr)(fs:List V->List (Str×V))(pay:List V->Prop)(E:XS)(t:TA):TS:=Zp C fs pay (λc d σ H2=>E c d σ H2/\Pla H2 ea/\∃ dd ys,d=some dd/\H2 dd=some (.xd ys)/\ys.length≠1) t
theorem zbh {ea:Addr}{jc:Nat}{pc:Pos}(hx:∀ e s',FlN X E e s'->X.xe e s')(hh:X.A.handled=some (.ref ea))(R:ErrN X.prog X.w X.K X.mg X.base x C fs pay)(hr:qX j X.A)(hj:2<=j)(ha:PA X (e::es) t)(hg:Gl X x:=by rfl) (hdb:(x == ("__debug__":Str))=false:=by decide) (he:starEach (e::es) X.env=(false,eval e X.env)::starEach es X.env:=by rfl) (hpl:(backTo cpos (starEach es X.env)).any (·.1)=false:=by rfl) : PS X (.Raise (some (.Call (.Name x np) (e::es) [] cpos)) (some (.Constant .none jc pc)) pos) (W6 ea C fs pay E t):=by
 intro pins s σ H D I h;rw [gO];refine ua (u5 (YG (C:=C) (K:=X.K) hh (λQ s q=>ua (Constant_none (ua (u5 (ud q))))) ?_));refine ua (thn (zam (D:=D) R hr hj ha hg hdb he hpl I h) λv s₁ ⟨a,d,vs,sl,H2,e0,e1,e2,J,h1,h2,h3,q,⟨eo,ws,pE,pd,p2⟩,dd,ys,ed,hd,hl⟩=>ua (u5 (ud ?_)));obtain⟨ge,_⟩:=(show jr X.prog X.w H2 s₁.heap ea (.frz eo (.own ea)) from J.hok ea _ pE)
 refine⟨a,some d,vs,sl,eo,ws,e0,J.kIn,R.cl,e1,e2.1,e2.2.2,(λz=>by rw [z,h2] at pE;cases pE),ge,pd,p2,λh' vs' k z1 z2=>hx _ _ ⟨a,.ref C,some d,H2,σ,rfl,?_,h1,h2,h3,⟨sl,vs',z1,z2,λ⟨b,f,v,eb,hb⟩=>?_⟩,q⟩⟩
 ·exact J.kp (k.mono (λ_ z=>z) λb z=>absurd z (by simp)) (λb hb=>by rw [show b=a by simpa using hb];exact⟨vI J e1 rfl h1 h3,h2⟩) (λ_ _=>rfl) (J.hok.kp k (λb hb=>by rw [show b=a by simpa using hb];exact h2) λb z=>absurd z (by simp))
 ·cases ed;cases eb;rw [hd] at hb;cases hb;exact absurd rfl hl
noncomputable def zan (C:Addr)(ta tv:TE)(name:Str):TS:=λD σ H=>tv σ H λy H1=>ta σ H1 λx H2=>∃ a d fs,x=.ref a/\H2 a=some (ExD C d a)/\H2 d=some (.xd fs)/\fs.length<=1000/\fs.lookup name=none/\D.nx σ (upd H2 d (.xd (fs++[(name,y)])))
theorem zes {fs:List (Str×V)}{y:Str}{v:V}(h:fs.lookup y=some v):y∈fs.map (·.1):=by
 induction fs with
 | nil=>cases h
 | cons p fs ih=>
  obtain⟨k,u⟩:=p;by_cases hk:y=k
  ·rw [hk];exact .head _
  ·rw [uY,show(y == k)=false from uT.mpr hk] at h;exact .tail _ (ih h)
theorem QN {o value:Expr}{ta tv:TE}(c:XCl X.K C)(hn:findIn X.K (.ref C) name=some none)(ha:PE X o ta)(hv:PE X value tv)(hs:swapsWith value (some (.Attribute o name pos')) pos.line X.env=pure false:=by rfl) : PS X (.Assign [.Attribute o name pos'] value pos) (zan C ta tv name):=by
 intro pins s σ H D I h;refine UL (thn (hv pins s σ H _ I h) λu s1 ⟨y,H1,I1,ry,q⟩=>thn (ha pins s1 σ H1 _ I1 q) λov s2 ⟨x,H2,I2,rx,a,d,fs,ex,ea,ed,hl,hnl,q2⟩=>?_) hs;subst ex;obtain rfl:ov=Value.ref a:=rx;obtain⟨⟨vs,sl,e,h1⟩,_⟩:=I2.hok a _ ea;obtain⟨mA,hN,hf⟩:=I2.hok d _ ed
 have hw:Within mA (fs.map (·.1)):=λy hy=>by
  have hy2:=hf y;cases hL:fs.lookup y with
  | none=>
   rw [hL] at hy2;cases hm:mA y with
   | none=>exact absurd hm hy
   | some u=>rw [hm] at hy2;exact hy2.elim
  | some v=>exact zes hL
 refine zb1 I2.kIn e c.sh c.hd c.sa hn hN hw (by rw [uS,uH];exact Nat.lt_of_le_of_lt hl (by decide)) λh' tk g3 g4=>?_;refine⟨σ,_,?_,q2⟩;have nb:∀ b,H2 b=none->b≠d:=λb z y=>by rw [y,ed] at z;cases z
 have u:Un X.fs [] H2 (upd H2 d (.xd (fs++[(name,y)]))) s2.heap h':=by
  refine⟨λb o z n _ _=>g4 b o (nb b n) z,λb o z n _ _=>⟨o.slots,g4 b o (nb b n) z⟩,λb o z n _=>by rw [zr (nb b n)];exact n,λb o z _=>?_,λb xs z=>?_,λb o u z=>?_,λb ps z=>⟨#[],?_⟩⟩
  ·by_cases hb:b=d
   ·obtain⟨od,es,ep,hod,_⟩:=id g3;rw [hb];exact⟨od,hod⟩
   ·exact⟨o,g4 b o hb z⟩
  all_goals
   have nb:b≠d:=λy=>by rw [y,ed] at z;cases z
   rw [zr nb,z]
  simp
 refine I2.un u λb o z=>?_;by_cases hb:b=d
 ·subst hb;rw [zd] at z;cases z;refine⟨_,g3,λf=>?_⟩;rw [List.lookup_append];by_cases hf2:f=name
  ·subst hf2;simp only [uf,hnl,Option.none_or];simpa [List.lookup,RelO] using ry
  ·have:(f == name)=false:=uT.mpr hf2;simp only [ub hf2,List.lookup,this,Option.or_none];exact hf f
 ·rw [zr hb] at z;have nown:∀ c y,H2 c=some (.own y)->c≠d:=λc y r q=>by rw [q,ed] at r;cases r
  have ntup:∀ c y,H2 c=some (.tup y)->c≠d:=λc y r q=>by rw [q,ed] at r;cases r
  refine(I2.hok b o z).stay (λc v hc q=>g4 c v ?_ q) (λc q=>by rw [zr (nown c _ q)];exact q) λc xs q=>by rw [zr (ntup c _ q)];exact q
  rcases hc with rfl | hc
  ·exact hb
  ·exact nown c _ hc
end
section
variable {P:Program} {w:World} {K:Frag} {mg:La} {base:Heap} {k j:Nat} {C:Addr} {m x qual:Str} {st:Stmt} {ps N:Lh} {sp sp':Sp}
theorem Fun.okN {f:Addr}{fd:FuncData}(F:Fun K x qual st f fd)(S:zo N ps (zg st))(len:∀ vs H Q E,sp vs H Q E->vs.length=ps.length) (hbody:∀ (cdv:Value) (A:Around) (outer:List Env) (s:Shared) (H:Hp) (vs:List V) (Q:VK) (E:XK),sp vs H Q E -> ∃ t,PSs (Jr CX0 P w K mg base N qual (zg st) f cdv A outer s H E) (zQ st) t/\t { nx:=λ_ H'=>Q .non H',rt:=Q } (start N vs) H):Qp P w K mg base CX0 (k+1) f fd ps sp:=by obtain⟨oc,od,kV,doc,pm,an,cdv,ct,osl,rfl,lk,hcd⟩:=F.ex;exact zcD lk hcd S len λA outer s H vs Q E hr hsp=>hbody cdv A outer s H vs Q E hsp
structure OkMN (P:Program)(w:World)(K:Frag)(mg:La)(base:Heap)(k:Nat)(C:Addr)(m:Str)(ps:Lh)(sp:Sp):Prop where
 ex:∃ (f:Addr) (fd:FuncData),Cls K C/\Meth K C m f/\Binds K fd ps []/\Qp P w K mg base (CXE P w) k f fd ps sp
theorem OkMN.ok (F:OkMN P w K mg base k C m ps sp):OkM P w K mg base k C m ps sp:=by obtain⟨f,fd,c,hm,b,G⟩:=F.ex;exact⟨f,fd,c,hm,b,G.ok⟩
theorem Dm.okN (D:Dm K C m qual st ps)(Sc:zo N ps (zg st))(len:∀ vs H Q E,sp vs H Q E->vs.length=ps.length) (hbody:∀ (f:Addr) (cdv:Value) (A:Around) (outer:List Env) (s:Shared) (H:Hp) (vs:List V) (Q:VK) (E:XK),qX k (A.deeper (envOfC qual (zg st) s.heap.objs.size f cdv))->sp vs H Q E -> ∃ t,PSs (Jr (CXE P w) P w K mg base N qual (zg st) f cdv A outer s H E) (zQ st) t/\t { nx:=λ_ H'=>Q .non H',rt:=Q } (start N vs) H):OkMN P w K mg base (k+1) C m ps sp:=by obtain⟨f,fd,F,b,cl,hm⟩:=D.ex;refine⟨f,fd,cl,hm,b,?_⟩;obtain⟨oc,od,kV,doc,pm,an,cdv,ct,osl,rfl,lk,hcd⟩:=F.ex;exact zcD lk hcd Sc len λA outer s H vs Q E hr h=>hbody f cdv A outer s H vs Q E hr h
theorem qX.marked {A:Around}(r:qX k A)(v:Option Value):qX k (A.mark v):=⟨r.dp,r.un,r.gd⟩
end
section
variable {X:Cx} {K:Frag} {k j:Nat} {C Dc:Addr} {x m n:Str} {ps:Lh} {sp:Sp} {p pos apos cpos np hpos:Pos} {e o:Expr} {es:Lg} {to:TE} {t:TA} {E:XS} {fs:List V->List (Str×V)} {pay:List V->Prop} {i:Nat} {tb:XS->TS} {th:Addr->TS} {body suite:List Stmt} {b₀:Stmt}
theorem zbi {pl:Sem Bool}(F:OkMN X.prog X.w X.K X.mg X.base k C m ps sp)(hr:qX j X.A)(hk:k<=j)(ho:QE X o to)
  (ht:eval (.Call (.Attribute o m apos) [] [] pos) X.env=(do
   let ov ← eval o X.env
   standAt apos.atName
   let (f,first) ← holding [ov] (getMethod ov m pl)
   callWith pos f first (backTo pos (starEach [] X.env)) (backToKw pos (keywordEach [] X.env))):=by rfl) :
  QE X (.Call (.Attribute o m apos) [] [] pos) (Q4 C m sp [] E0 to tNil):=by
 obtain⟨f,fd,cl,hm,b,G⟩:=F.ex
 exact⟨zbf ho.h cl hm G (hr.mono hk) b .nil K8 ht⟩
theorem vA (hx:Thr X E)(R:ErrN X.prog X.w X.K X.mg X.base x C fs pay)(hr:Room j X.A)(hj:2<=j)(ha:QA X (e::es) t)(hg:Gl X x:=by rfl) (hdb:(x == ("__debug__":Str))=false:=by decide)
  (he:starEach (e::es) X.env=(false,eval e X.env)::starEach es X.env:=by rfl) (hpl:(backTo cpos (starEach es X.env)).any (·.1)=false:=by rfl) :
  QS X (.Raise (some (.Call (.Name x np) (e::es) [] cpos)) none pos) (Zp C fs pay E t):=⟨zbg hx R hr hj ha.h hg hdb he hpl⟩
theorem zbj {ea:Addr}{jc:Nat}{pc:Pos}(hx:∀ e s',FlN X E e s'->X.xe e s')(hh:X.A.handled=some (.ref ea))(R:ErrN X.prog X.w X.K X.mg X.base x C fs pay)(hr:qX j X.A)(hj:2<=j)(ha:QA X (e::es) t)(hg:Gl X x:=by rfl) (hdb:(x == ("__debug__":Str))=false:=by decide)
  (he:starEach (e::es) X.env=(false,eval e X.env)::starEach es X.env:=by rfl) (hpl:(backTo cpos (starEach es X.env)).any (·.1)=false:=by rfl) :
  QS X (.Raise (some (.Call (.Name x np) (e::es) [] cpos)) (some (.Constant .none jc pc)) pos) (W6 ea C fs pay E t):=⟨zbh hx hh R hr hj ha.h hg hdb he hpl⟩
theorem FlN.swap {pn:List (Addr×Obj)}{ea:Addr}{xe xe':Value->Shared->Prop}{e:Value}{s:Shared}(h:FlN (X.exInG pn ea xe) E e s):FlN (X.exInG pn ea xe') E e s:=by obtain⟨a,c,d,H',σ,e1,I,r⟩:=h;have ok:=I.ok;exact⟨a,c,d,H',σ,e1,⟨⟨ok.mod,ok.kind,ok.glob,ok.blt,ok.above,ok.inj,ok.has,ok.cab,λz=>absurd (show false=true from z) (by decide),ok.frames,ok.stk,ok.exf,ok.bs,ok.bsz,ok.noex,ok.exfs,ok.funs,ok.frf⟩,I.os,I.bare,I.base,I.loc,I.cell,I.free,I.freeC,I.pin,I.hok,I.len⟩,r⟩
theorem zet (hx:Thr X E)(hm:X.mg x=some (.ref Dc))(cD:XCl X.K Dc)(hN:X.N.Nodup)(hi:X.N[i]? = some n)(hl:X.env.scope.names.lookup n=some .local)(hst:X.stack=X.env::X.outer)(hf:X.env.frame=some X.env.locals)
  (hb:∀ (E:XS) (pn:List (Addr×Obj)) (xe:Value->Shared->Prop),PassesOwn (model X.prog X.w) X.A X.env xe->Thr (X.tryIn pn xe) E->QSs (X.tryIn pn xe) body (tb E))
  (hh:∀ pn ea xe,(∀ e s',FlN (X.exInG pn ea xe) (λc d σ H=>E c d (σ.map λ_=>none) H) e s'->xe e s')->QSs (X.exInG pn ea xe) (b₀::suite) (th ea)) (hg:Gl X x:=by rfl) (hdb:(x == ("__debug__":Str))=false:=by decide) :
  QS X (.Try body [.ExceptHandler (some (.Name x np)) (some n) (b₀::suite) hpos] [] [] pos) (zb7 X.K Dc i tb th):=
 ⟨zd9 hx hm cD hN hi hl hst hf (λE pn xe a b=>(hb E pn xe a b).h) (λpn ea=>(hh pn ea _ λ_ _ z=>z.swap).h) hg hdb⟩
end
theorem Js {K:Frag}{C:Addr}{f g p q:Str}{a:Addr}{v u:V}{i:Nat}{z:V}{H:Hp}{Q:VK}(ea:H a=some (ExN C a))(hi:([V.ref a,v,u]:List V)[i]? = some z)(hp:payT z)(hn:f≠g)(k:∀ d,H d=none->d≠a->Q .non (upd (upd H a (ExD C d a)) d (.xd [(f,v),(g,u)]))) : tSeq (QZ (tCB (Wr C) (yi (tVar 0) (yi (tFs (tVar i)) tNil)))) (tSeq (X4 K C (tVar 0) (tVar 1) f) (zan C (tVar 0) (tVar 2) g)) { nx:=λ_ H'=>Q .non H',rt:=Q } (start ["self",p,q] [.ref a,v,u]) H:=by
 refine⟨.ref a,rfl,z,?_,hp,λy=>⟨a,.str y,rfl,ea,v,rfl,.ref a,rfl,a,rfl,ea,λd h1 h2=>⟨u,rfl,.ref a,rfl,a,d,_,rfl,?_,zd,by show 1<=1000;decide,?_,?_⟩⟩⟩
 ·show(List.map some [V.ref a,v,u]++_)[i]? = some (some z);rw [UN (by rw [uS];exact(uF.mp hi).1),Um,hi];rfl
 ·rw [zr (Ne.symm h2),zd]
 ·have:(g == f)=false:=uT.mpr (Ne.symm hn);simp [List.lookup,this]
 ·show Q _ _;rw [Zb];exact k d h1 h2
theorem YH {K:Frag}{C:Addr}{f g h p q r:Str}{a:Addr}{v u x:V}{tx:Str}{H:Hp}{Q:VK}(ea:H a=some (ExN C a))(hn:f≠g/\f≠h/\g≠h)(k:∀ d,H d=none->d≠a->Q .non (upd (upd H a (ExD C d a)) d (.xd [(f,v),(g,u),(h,x)]))) : tSeq (QZ (tCB (Wr C) (yi (tVar 0) (yi (tC (.str tx)) tNil)))) (tSeq (X4 K C (tVar 0) (tVar 1) f) (tSeq (zan C (tVar 0) (tVar 2) g) (zan C (tVar 0) (tVar 3) h))) { nx:=λ_ H'=>Q .non H',rt:=Q } (start ["self",p,q,r] [.ref a,v,u,x]) H:=by
 have n1:(g == f)=false:=uT.mpr (Ne.symm hn.1);have n2:(h == f)=false:=uT.mpr (Ne.symm hn.2.1);have n3:(h == g)=false:=uT.mpr (Ne.symm hn.2.2);refine⟨.ref a,rfl,a,.str tx,rfl,ea,v,rfl,.ref a,rfl,a,rfl,ea,λd h1 h2=>⟨u,rfl,.ref a,rfl,a,d,_,rfl,?_,zd,by show 1<=1000;decide,?_,⟨x,rfl,.ref a,rfl,a,d,_,rfl,?_,zd,by show 2<=1000;decide,?_,?_⟩⟩⟩
 ·rw [zr (Ne.symm h2),zd]
 ·simp [List.lookup,n1]
 ·rw [zr (Ne.symm h2),zr (Ne.symm h2),zd]
 ·simp [List.lookup,n2,n3]
 ·show Q _ _;rw [Zb,Zb];exact k d h1 h2
mutual
theorem Ww {H:Hp}:∀ {d e:Dat} {v:V},IsDt H d v->IsDt H e v->d=e
 | .fl x,.fl y,v,h,k=>by obtain⟨rfl,_⟩:=h;obtain⟨rfl,_⟩:=k;rfl
 | .fl x,.tp _,v,h,k=>by obtain⟨rfl,f⟩:=h;obtain⟨a,_,rfl,_⟩:=k;cases f
 | .fl x,.ls _,v,h,k=>by obtain⟨rfl,f⟩:=h;obtain⟨a,_,rfl,_⟩:=k;cases f
 | .tp _,.fl y,v,h,k=>by obtain⟨rfl,f⟩:=k;obtain⟨a,_,rfl,_⟩:=h;cases f
 | .ls _,.fl y,v,h,k=>by obtain⟨rfl,f⟩:=k;obtain⟨a,_,rfl,_⟩:=h;cases f
 | .tp ds,.tp es,v,h,k=>by obtain⟨a,vs,rfl,h1,h2⟩:=h;obtain⟨_,us,e,k1,k2⟩:=k;cases e;rw [h1] at k1;cases k1;rw [ZM h2 k2]
 | .ls ds,.ls es,v,h,k=>by obtain⟨a,vs,rfl,h1,h2⟩:=h;obtain⟨_,us,e,k1,k2⟩:=k;cases e;rw [h1] at k1;cases k1;rw [ZM h2 k2]
 | .tp ds,.ls es,v,h,k=>by obtain⟨a,vs,rfl,h1,h2⟩:=h;obtain⟨_,us,e,k1,k2⟩:=k;cases e;rw [h1] at k1;cases k1
 | .ls ds,.tp es,v,h,k=>by obtain⟨a,vs,rfl,h1,h2⟩:=h;obtain⟨_,us,e,k1,k2⟩:=k;cases e;rw [h1] at k1;cases k1
theorem ZM {H:Hp}:∀ {ds es:List Dat} {vs:List V},IsDs H ds vs->IsDs H es vs->ds=es
 | [],[],_,_,_=>rfl
 | [],_::_,vs,h,k=>by have h:vs=[]:=h;obtain⟨v,r,e,_⟩:=k;rw [h] at e;cases e
 | _::_,[],vs,h,k=>by have k:vs=[]:=k;obtain⟨v,r,e,_⟩:=h;rw [k] at e;cases e
 | d::ds,e::es,vs,h,k=>by obtain⟨v,r,rfl,h1,h2⟩:=h;obtain⟨_,_,e0,k1,k2⟩:=k;cases e0;rw [Ww h1 k1,ZM h2 k2]
end
open Classical in
noncomputable def eqW (H:Hp)(d:Dat):Value->Bool
 | .ref a=>decide (∃ e,IsDt H e (.ref a)/\eqD e d=true)
 | _=>false
open Classical in
theorem zcE {H:Hp}{d e:Dat}{a:Addr}(h:IsDt H e (.ref a)):eqW H d (.ref a)=eqD e d:=by
 unfold eqW;cases hq:eqD e d with
 | true=>exact uQ ⟨e,h,hq⟩
 | false=>refine uK λ⟨e',h',q⟩=>?_;rw [Ww h' h,hq] at q;cases q
noncomputable def zeU:R2:=λx y H Q=>∃ p xs ds d,y=.ref p/\H p=some (.lst xs)/\IsDs H ds xs/\IsDt H d x/\(∀ e∈ds,depD e<=50)/\(∀ v∈xs,∃ a,v=.ref a)/\Q (.bl (!(ds.any λe=>eqD e d))) H
theorem zeu {X:Cx}(hu:X.A.units+64<cLine):OpR X (compareOp .NotIn) zeU:=by
 intro pins s σ H x y v u Q I rx ry h;obtain⟨p,xs,ds,d,rfl,hp,hds,hd,hdep,hrf,q⟩:=h;cases ry;obtain⟨its,r,pl,hz⟩:=I.list (SqL.of hp)
 have key:∀ {xs:List V} {us:Lf} {ds:List Dat},Vals xs us->IsDs H ds xs->(∀ e∈ds,depD e<=50)->(∀ v∈xs,∃ a,v=.ref a)->(∀ w∈us,SeqAt.EqAt X.A.in1 s w v (eqW H d w))/\us.any (eqW H d)=ds.any λe=>eqD e d:=by
  intro xs us ds r
  induction r generalizing ds with
  | nil=>
   intro h _ _;cases ds with
   | nil=>exact⟨(λw hw=>by cases hw),rfl⟩
   | cons e ds=>obtain⟨_,_,e0,_⟩:=h;cases e0
  | @cons y w ys ws rv t ih=>
   intro h hp hr;cases ds with
   | nil=>cases (show y::ys=[] from h)
   | cons e ds=>
    obtain⟨_,_,e0,h1,h2⟩:=h;cases e0;obtain⟨a,rfl⟩:=hr y (.head _);obtain⟨i1,i2⟩:=ih h2 (λe he=>hp e (.tail _ he)) λv hv=>hr v (.tail _ hv);obtain rfl:w=Value.ref a:=rv;have hd1:=hp e (.head _);refine⟨λw' hw=>?_,by rw [Ui,Ui,i2,zcE h1]⟩;rcases uy.mp hw with rfl | hw
    ·rw [zcE h1];exact zce I e d X.A.in1 _ _ _ _ (by show X.A.units+1+_<_;lia) h1 hd rfl rx
    ·exact i1 w' hw
 obtain⟨k1,k2⟩:=key r hds hdep hrf;refine SeqAt.notIn_listAt (eqW H d) pl.isList (λw hw=>k1 w (by simpa using hw)) ⟨.bl _,H,I,rfl,?_⟩;rw [show its.toArray.any (eqW H d)=its.any (eqW H d) by simp,k2];exact q
end L2
namespace L2
open PySem PySem.Spec PyProof.Rows
theorem ex1 {A0:Type}{G:Prop}{p:A0->Prop}(h:∃ a0,p a0)(k:∀ a0,p a0->G):G:=by obtain⟨a0,h⟩:=h;exact k _ h
theorem ex2 {A0 A1:Type}{G:Prop}{p:A0->A1->Prop}(h:∃ a0 a1,p a0 a1)(k:∀ a0 a1,p a0 a1->G):G:=by obtain⟨a0,a1,h⟩:=h;exact k _ _ h
theorem ex3 {A0 A1 A2:Type}{G:Prop}{p:A0->A1->A2->Prop}(h:∃ a0 a1 a2,p a0 a1 a2)(k:∀ a0 a1 a2,p a0 a1 a2->G):G:=by obtain⟨a0,a1,a2,h⟩:=h;exact k _ _ _ h
theorem ex4 {A0 A1 A2 A3:Type}{G:Prop}{p:A0->A1->A2->A3->Prop}(h:∃ a0 a1 a2 a3,p a0 a1 a2 a3)(k:∀ a0 a1 a2 a3,p a0 a1 a2 a3->G):G:=by obtain⟨a0,a1,a2,a3,h⟩:=h;exact k _ _ _ _ h
theorem ex5 {A0 A1 A2 A3 A4:Type}{G:Prop}{p:A0->A1->A2->A3->A4->Prop}(h:∃ a0 a1 a2 a3 a4,p a0 a1 a2 a3 a4)(k:∀ a0 a1 a2 a3 a4,p a0 a1 a2 a3 a4->G):G:=by obtain⟨a0,a1,a2,a3,a4,h⟩:=h;exact k _ _ _ _ _ h
theorem ex6 {A0 A1 A2 A3 A4 A5:Type}{G:Prop}{p:A0->A1->A2->A3->A4->A5->Prop}(h:∃ a0 a1 a2 a3 a4 a5,p a0 a1 a2 a3 a4 a5)(k:∀ a0 a1 a2 a3 a4 a5,p a0 a1 a2 a3 a4 a5->G):G:=by obtain⟨a0,a1,a2,a3,a4,a5,h⟩:=h;exact k _ _ _ _ _ _ h
theorem ex7 {A0 A1 A2 A3 A4 A5 A6:Type}{G:Prop}{p:A0->A1->A2->A3->A4->A5->A6->Prop}(h:∃ a0 a1 a2 a3 a4 a5 a6,p a0 a1 a2 a3 a4 a5 a6)(k:∀ a0 a1 a2 a3 a4 a5 a6,p a0 a1 a2 a3 a4 a5 a6->G):G:=by obtain⟨a0,a1,a2,a3,a4,a5,a6,h⟩:=h;exact k _ _ _ _ _ _ _ h
theorem ex8 {A0 A1 A2 A3 A4 A5 A6 A7:Type}{G:Prop}{p:A0->A1->A2->A3->A4->A5->A6->A7->Prop}(h:∃ a0 a1 a2 a3 a4 a5 a6 a7,p a0 a1 a2 a3 a4 a5 a6 a7)(k:∀ a0 a1 a2 a3 a4 a5 a6 a7,p a0 a1 a2 a3 a4 a5 a6 a7->G):G:=by obtain⟨a0,a1,a2,a3,a4,a5,a6,a7,h⟩:=h;exact k _ _ _ _ _ _ _ _ h
@[elab_as_elim] theorem av1 {V:Type}{G:V->Prop}{v l:V}{B0:Prop}(h:v=l/\B0)(k:B0->G l):G v:=by obtain⟨rfl,b0⟩:=h;exact k b0
@[elab_as_elim] theorem av2 {V:Type}{G:V->Prop}{v l:V}{B0 B1:Prop}(h:v=l/\B0/\B1)(k:B0->B1->G l):G v:=by obtain⟨rfl,b0,b1⟩:=h;exact k b0 b1
@[elab_as_elim] theorem av3 {V:Type}{G:V->Prop}{v l:V}{B0 B1 B2:Prop}(h:v=l/\B0/\B1/\B2)(k:B0->B1->B2->G l):G v:=by obtain⟨rfl,b0,b1,b2⟩:=h;exact k b0 b1 b2
@[elab_as_elim] theorem av4 {V:Type}{G:V->Prop}{v l:V}{B0 B1 B2 B3:Prop}(h:v=l/\B0/\B1/\B2/\B3)(k:B0->B1->B2->B3->G l):G v:=by obtain⟨rfl,b0,b1,b2,b3⟩:=h;exact k b0 b1 b2 b3
@[elab_as_elim] theorem av5 {V:Type}{G:V->Prop}{v l:V}{B0 B1 B2 B3 B4:Prop}(h:v=l/\B0/\B1/\B2/\B3/\B4)(k:B0->B1->B2->B3->B4->G l):G v:=by obtain⟨rfl,b0,b1,b2,b3,b4⟩:=h;exact k b0 b1 b2 b3 b4
@[elab_as_elim] theorem av6 {V:Type}{G:V->Prop}{v l:V}{B0 B1 B2 B3 B4 B5:Prop}(h:v=l/\B0/\B1/\B2/\B3/\B4/\B5)(k:B0->B1->B2->B3->B4->B5->G l):G v:=by obtain⟨rfl,b0,b1,b2,b3,b4,b5⟩:=h;exact k b0 b1 b2 b3 b4 b5
@[elab_as_elim] theorem av8 {V:Type}{G:V->Prop}{v l:V}{B0 B1 B2 B3 B4 B5 B6 B7:Prop}(h:v=l/\B0/\B1/\B2/\B3/\B4/\B5/\B6/\B7)(k:B0->B1->B2->B3->B4->B5->B6->B7->G l):G v:=by obtain⟨rfl,b0,b1,b2,b3,b4,b5,b6,b7⟩:=h;exact k b0 b1 b2 b3 b4 b5 b6 b7
@[elab_as_elim] theorem av9 {V:Type}{G:V->Prop}{v l:V}{B0 B1 B2 B3 B4 B5 B6 B7 B8:Prop}(h:v=l/\B0/\B1/\B2/\B3/\B4/\B5/\B6/\B7/\B8)(k:B0->B1->B2->B3->B4->B5->B6->B7->B8->G l):G v:=by obtain⟨rfl,b0,b1,b2,b3,b4,b5,b6,b7,b8⟩:=h;exact k b0 b1 b2 b3 b4 b5 b6 b7 b8
theorem seq_step {a b:TS}{D:Ends}{σ:St}{H:Hp}(h:∀ N:St->Hp->Prop,(∀ σ' H',b D σ' H'->N σ' H')->a { D with nx:=N } σ H):tSeq a b D σ H:=h (b D) λ_ _ z=>z
end L2
set_option maxHeartbeats 4000000
set_option pp.deepTerms true
set_option pp.maxSteps 200000
namespace My
open PySem L2 PySem.Spec PyProof.Rows
noncomputable def top (i:Nat):Stmt:=PySem.Challenge.pw_sealpress_k76_whole_just_where_all_ways.main.body.getD i (.Pass ⟨0,0,0,0⟩)
noncomputable abbrev ZN:Stmt:=top 27
noncomputable abbrev Wx:Lh:=["number"]
noncomputable abbrev xw:Lh:=["number"]
theorem YI:zo Wx xw (zg ZN):=⟨rfl,rfl,rfl,by decide +kernel,rfl,by decide +kernel,by decide +kernel⟩
noncomputable abbrev yq:Stmt:=top 28
noncomputable abbrev Qq:Lh:=["figures","number"]
noncomputable abbrev jo:Lh:=["figures"]
theorem Zq:zo Qq jo (zg yq):=⟨rfl,rfl,rfl,by decide +kernel,rfl,by decide +kernel,by decide +kernel⟩
noncomputable abbrev ko:Stmt:=top 32
noncomputable abbrev Jt:Lh:=["state"]
noncomputable abbrev wF:Lh:=["state"]
theorem Vu:zo Jt wF (zg ko):=⟨rfl,rfl,rfl,by decide +kernel,rfl,by decide +kernel,by decide +kernel⟩
noncomputable abbrev vo:Stmt:=top 34
noncomputable abbrev y8:Lh:=["sign"]
noncomputable abbrev qG:Lh:=["sign"]
theorem Ju:zo y8 qG (zg vo):=⟨rfl,rfl,rfl,by decide +kernel,rfl,by decide +kernel,by decide +kernel⟩
noncomputable abbrev kq:Stmt:=top 35
noncomputable abbrev Jv:Lh:=["sign"]
noncomputable abbrev wG:Lh:=["sign"]
theorem Vv:zo Jv wG (zg kq):=⟨rfl,rfl,rfl,by decide +kernel,rfl,by decide +kernel,by decide +kernel⟩
noncomputable abbrev ku:Stmt:=top 36
noncomputable abbrev Jw:Lh:=["sign"]
noncomputable abbrev wH:Lh:=["sign"]
theorem Vw:zo Jw wH (zg ku):=⟨rfl,rfl,rfl,by decide +kernel,rfl,by decide +kernel,by decide +kernel⟩
noncomputable abbrev YJ:Stmt:=top 37
noncomputable abbrev zcF:Lh:=["talk","sign"]
noncomputable abbrev Zr:Lh:=["talk","sign"]
theorem zew:zo zcF Zr (zg YJ):=⟨rfl,rfl,rfl,by decide +kernel,rfl,by decide +kernel,by decide +kernel⟩
noncomputable abbrev ZO:Stmt:=top 41
noncomputable abbrev Wy:Lh:=["mode","opens","events"]
noncomputable abbrev zK:Lh:=["mode","opens","events"]
theorem YK:zo Wy zK (zg ZO):=⟨rfl,rfl,rfl,by decide +kernel,rfl,by decide +kernel,by decide +kernel⟩
noncomputable abbrev YL:Stmt:=top 42
noncomputable abbrev zcG:Lh:=["mode","opens","sign"]
noncomputable abbrev jB:Lh:=["mode","opens","sign"]
theorem zex:zo zcG jB (zg YL):=⟨rfl,rfl,rfl,by decide +kernel,rfl,by decide +kernel,by decide +kernel⟩
noncomputable abbrev ky:Stmt:=top 43
noncomputable abbrev Jx:Lh:=["mode","word","opens","talk","most"]
noncomputable abbrev zY:Lh:=["mode","word","opens","talk","most"]
theorem Vx:zo Jx zY (zg ky):=⟨rfl,rfl,rfl,by decide +kernel,rfl,by decide +kernel,by decide +kernel⟩
noncomputable abbrev kz:Stmt:=top 44
noncomputable abbrev Jy:Lh:=["opens","events"]
noncomputable abbrev jd:Lh:=["opens","events"]
theorem Vy:zo Jy jd (zg kz):=⟨rfl,rfl,rfl,by decide +kernel,rfl,by decide +kernel,by decide +kernel⟩
noncomputable abbrev kA:Stmt:=top 45
noncomputable abbrev Jz:Lh:=["opens","events","mode"]
noncomputable abbrev wI:Lh:=["opens","events"]
theorem Qr:zo Jz wI (zg kA):=⟨rfl,rfl,rfl,by decide +kernel,rfl,by decide +kernel,by decide +kernel⟩
noncomputable abbrev JA:Stmt:=top 46
noncomputable abbrev Vz:Lh:=["opens","sign","events"]
noncomputable abbrev wg:Lh:=["opens","sign","events"]
theorem zbk:zo Vz wg (zg JA):=⟨rfl,rfl,rfl,by decide +kernel,rfl,by decide +kernel,by decide +kernel⟩
noncomputable abbrev zcH:Stmt:=top 47
noncomputable abbrev zeV:Lh:=["opens","talk","sign","answer"]
noncomputable abbrev ZP:Lh:=["opens","talk","sign"]
theorem zcI:zo zeV ZP (zg zcH):=⟨rfl,rfl,rfl,by decide +kernel,rfl,by decide +kernel,by decide +kernel⟩
noncomputable abbrev vO:Stmt:=top 48
noncomputable abbrev Zs:Lh:=["word","sign"]
noncomputable abbrev qC:Lh:=["word","sign"]
theorem JZ:zo Zs qC (zg vO):=⟨rfl,rfl,rfl,by decide +kernel,rfl,by decide +kernel,by decide +kernel⟩
noncomputable abbrev ZQ:Stmt:=top 49
noncomputable abbrev Wz:Lh:=["word","opens","talk","sign"]
noncomputable abbrev xx:Lh:=["word","opens","talk","sign"]
theorem YM:zo Wz xx (zg ZQ):=⟨rfl,rfl,rfl,by decide +kernel,rfl,by decide +kernel,by decide +kernel⟩
noncomputable abbrev ZR:Stmt:=top 50
noncomputable abbrev WA:Lh:=["word","opens","talk","sign"]
noncomputable abbrev xy:Lh:=["word","opens","talk","sign"]
theorem YN:zo WA xy (zg ZR):=⟨rfl,rfl,rfl,by decide +kernel,rfl,by decide +kernel,by decide +kernel⟩
noncomputable abbrev ZS:Stmt:=top 51
noncomputable abbrev WB:Lh:=["word","opens","talk","sign"]
noncomputable abbrev xA:Lh:=["word","opens","talk","sign"]
theorem YO:zo WB xA (zg ZS):=⟨rfl,rfl,rfl,by decide +kernel,rfl,by decide +kernel,by decide +kernel⟩
noncomputable abbrev ZT:Stmt:=top 52
noncomputable abbrev WC:Lh:=["word","opens","talk","sign"]
noncomputable abbrev xB:Lh:=["word","opens","talk","sign"]
theorem YQ:zo WC xB (zg ZT):=⟨rfl,rfl,rfl,by decide +kernel,rfl,by decide +kernel,by decide +kernel⟩
noncomputable abbrev kB:Stmt:=top 53
noncomputable abbrev JB:Lh:=["word","opens","talk","sign"]
noncomputable abbrev wJ:Lh:=["word","opens","talk","sign"]
theorem VA:zo JB wJ (zg kB):=⟨rfl,rfl,rfl,by decide +kernel,rfl,by decide +kernel,by decide +kernel⟩
noncomputable abbrev ZU:Stmt:=top 54
noncomputable abbrev WD:Lh:=["word","opens","talk","sign"]
noncomputable abbrev xC:Lh:=["word","opens","talk","sign"]
theorem YR:zo WD xC (zg ZU):=⟨rfl,rfl,rfl,by decide +kernel,rfl,by decide +kernel,by decide +kernel⟩
noncomputable abbrev JC:Stmt:=top 55
noncomputable abbrev VB:Lh:=["word","opens","talk","sign"]
noncomputable abbrev vB:Lh:=["word","opens","talk","sign"]
theorem zbl:zo VB vB (zg JC):=⟨rfl,rfl,rfl,by decide +kernel,rfl,by decide +kernel,by decide +kernel⟩
noncomputable abbrev ZV:Stmt:=top 56
noncomputable abbrev WE:Lh:=["word","opens","talk","sign"]
noncomputable abbrev xD:Lh:=["word","opens","talk","sign"]
theorem YS:zo WE xD (zg ZV):=⟨rfl,rfl,rfl,by decide +kernel,rfl,by decide +kernel,by decide +kernel⟩
noncomputable abbrev W7:Stmt:=top 57
noncomputable abbrev zao:Lh:=["word","opens","talk","sign"]
noncomputable abbrev yr:Lh:=["word","opens","talk","sign"]
theorem zcJ:zo zao yr (zg W7):=⟨rfl,rfl,rfl,by decide +kernel,rfl,by decide +kernel,by decide +kernel⟩
noncomputable abbrev ZW:Stmt:=top 58
noncomputable abbrev WG:Lh:=["word","opens","talk","sign"]
noncomputable abbrev xE:Lh:=["word","opens","talk","sign"]
theorem YT:zo WG xE (zg ZW):=⟨rfl,rfl,rfl,by decide +kernel,rfl,by decide +kernel,by decide +kernel⟩
noncomputable abbrev ZX:Stmt:=top 59
noncomputable abbrev WH:Lh:=["word","opens","talk","sign"]
noncomputable abbrev xF:Lh:=["word","opens","talk","sign"]
theorem YU:zo WH xF (zg ZX):=⟨rfl,rfl,rfl,by decide +kernel,rfl,by decide +kernel,by decide +kernel⟩
noncomputable abbrev ZY:Stmt:=top 60
noncomputable abbrev WI:Lh:=["word","opens","talk","sign"]
noncomputable abbrev xG:Lh:=["word","opens","talk","sign"]
theorem YV:zo WI xG (zg ZY):=⟨rfl,rfl,rfl,by decide +kernel,rfl,by decide +kernel,by decide +kernel⟩
noncomputable abbrev JD:Stmt:=top 61
noncomputable abbrev VC:Lh:=["word","opens","talk","sign"]
noncomputable abbrev vC:Lh:=["word","opens","talk","sign"]
theorem zbm:zo VC vC (zg JD):=⟨rfl,rfl,rfl,by decide +kernel,rfl,by decide +kernel,by decide +kernel⟩
noncomputable abbrev yt:Stmt:=top 62
noncomputable abbrev Qs:Lh:=["word","opens","talk","sign"]
noncomputable abbrev jY:Lh:=["word","opens","talk","sign"]
theorem W8:zo Qs jY (zg yt):=⟨rfl,rfl,rfl,by decide +kernel,rfl,by decide +kernel,by decide +kernel⟩
noncomputable abbrev yu:Stmt:=top 63
noncomputable abbrev Qt:Lh:=["word","opens","talk","sign"]
noncomputable abbrev jZ:Lh:=["word","opens","talk","sign"]
theorem W9:zo Qt jZ (zg yu):=⟨rfl,rfl,rfl,by decide +kernel,rfl,by decide +kernel,by decide +kernel⟩
noncomputable abbrev kC:Stmt:=top 64
noncomputable abbrev JE:Lh:=["word","opens","talk","sign"]
noncomputable abbrev wK:Lh:=["word","opens","talk","sign"]
theorem VD:zo JE wK (zg kC):=⟨rfl,rfl,rfl,by decide +kernel,rfl,by decide +kernel,by decide +kernel⟩
noncomputable abbrev ZZ:Stmt:=top 65
noncomputable abbrev WJ:Lh:=["word","opens","talk","sign"]
noncomputable abbrev xH:Lh:=["word","opens","talk","sign"]
theorem YW:zo WJ xH (zg ZZ):=⟨rfl,rfl,rfl,by decide +kernel,rfl,by decide +kernel,by decide +kernel⟩
noncomputable abbrev Z0:Stmt:=top 66
noncomputable abbrev WK:Lh:=["word","opens","talk","sign"]
noncomputable abbrev xI:Lh:=["word","opens","talk","sign"]
theorem YX:zo WK xI (zg Z0):=⟨rfl,rfl,rfl,by decide +kernel,rfl,by decide +kernel,by decide +kernel⟩
noncomputable abbrev kD:Stmt:=top 67
noncomputable abbrev JF:Lh:=["word","opens","talk","sign"]
noncomputable abbrev wL:Lh:=["word","opens","talk","sign"]
theorem VE:zo JF wL (zg kD):=⟨rfl,rfl,rfl,by decide +kernel,rfl,by decide +kernel,by decide +kernel⟩
noncomputable abbrev yU:Stmt:=top 68
noncomputable abbrev Z1:Lh:=["word","opens","talk","sign","grown","events"]
noncomputable abbrev xJ:Lh:=["word","opens","talk","sign"]
theorem kE:zo Z1 xJ (zg yU):=⟨rfl,rfl,rfl,by decide +kernel,rfl,by decide +kernel,by decide +kernel⟩
noncomputable abbrev Xa:Stmt:=top 70
noncomputable abbrev zap:Lh:=["state","sign","act"]
noncomputable abbrev yw:Lh:=["state","sign"]
theorem VF:zo zap yw (zg Xa):=⟨rfl,rfl,rfl,by decide +kernel,rfl,by decide +kernel,by decide +kernel⟩
noncomputable abbrev Xb:Stmt:=top 72
noncomputable abbrev zaq:Lh:=[]
noncomputable abbrev j0:Lh:=[]
theorem zcK:zo zaq j0 (zg Xb):=⟨rfl,rfl,rfl,by decide +kernel,rfl,by decide +kernel,by decide +kernel⟩
noncomputable abbrev YY:Stmt:=top 73
noncomputable abbrev zcL:Lh:=["state","sign"]
noncomputable abbrev yV:Lh:=["state","sign"]
theorem zey:zo zcL yV (zg YY):=⟨rfl,rfl,rfl,by decide +kernel,rfl,by decide +kernel,by decide +kernel⟩
noncomputable abbrev zcM:Stmt:=top 74
noncomputable abbrev zeW:Lh:=["state","text","now","events","at","sign","answer"]
noncomputable abbrev JG:Lh:=["state","text"]
theorem kF:zo zeW JG (zg zcM):=⟨rfl,rfl,rfl,by decide +kernel,rfl,by decide +kernel,by decide +kernel⟩
noncomputable abbrev JH:Stmt:=top 75
noncomputable abbrev VG:Lh:=["state"]
noncomputable abbrev vD:Lh:=["state"]
theorem zbn:zo VG vD (zg JH):=⟨rfl,rfl,rfl,by decide +kernel,rfl,by decide +kernel,by decide +kernel⟩
noncomputable abbrev Z2:Stmt:=top 76
noncomputable abbrev WL:Lh:=["state"]
noncomputable abbrev wj:Lh:=["state"]
theorem YZ:zo WL wj (zg Z2):=⟨rfl,rfl,rfl,by decide +kernel,rfl,by decide +kernel,by decide +kernel⟩
noncomputable abbrev wX:Stmt:=inClass (top 78) 0
noncomputable abbrev yg:Lh:=["self","state","turns","many"]
noncomputable abbrev z0:Lh:=["self","state","turns","many"]
theorem Z3:zo yg z0 (zg wX):=⟨rfl,rfl,rfl,by decide +kernel,rfl,by decide +kernel,by decide +kernel⟩
noncomputable abbrev vP:Stmt:=inClass (top 78) 1
noncomputable abbrev Zt:Lh:=["self"]
noncomputable abbrev zP:Lh:=["self"]
theorem J0:zo Zt zP (zg vP):=⟨rfl,rfl,rfl,by decide +kernel,rfl,by decide +kernel,by decide +kernel⟩
noncomputable abbrev kG:Stmt:=inClass (top 78) 2
noncomputable abbrev JI:Lh:=["self","state"]
noncomputable abbrev qN:Lh:=["self","state"]
theorem VH:zo JI qN (zg kG):=⟨rfl,rfl,rfl,by decide +kernel,rfl,by decide +kernel,by decide +kernel⟩
noncomputable abbrev vp:Stmt:=inClass (top 78) 3
noncomputable abbrev y9:Lh:=["self","turn"]
noncomputable abbrev qo:Lh:=["self","turn"]
theorem JJ:zo y9 qo (zg vp):=⟨rfl,rfl,rfl,by decide +kernel,rfl,by decide +kernel,by decide +kernel⟩
noncomputable abbrev jG:Stmt:=inClass (top 79) 0
noncomputable abbrev xK:Lh:=["self","kept"]
noncomputable abbrev qc:Lh:=["self","kept"]
theorem yY:zo xK qc (zg jG):=⟨rfl,rfl,rfl,by decide +kernel,rfl,by decide +kernel,by decide +kernel⟩
noncomputable abbrev qQ:Stmt:=inClass (top 79) 1
noncomputable abbrev xM:Lh:=["self","pieces","spot","now","piece"]
noncomputable abbrev zz:Lh:=["self","pieces","spot"]
theorem qd:zo xM zz (zg qQ):=⟨rfl,rfl,rfl,by decide +kernel,rfl,by decide +kernel,by decide +kernel⟩
noncomputable abbrev qy:Stmt:=inClass (top 79) 2
noncomputable abbrev wM:Lh:=["self","piece","spot","word"]
noncomputable abbrev zO:Lh:=["self","piece","spot"]
theorem wa:zo wM zO (zg qy):=⟨rfl,rfl,rfl,by decide +kernel,rfl,by decide +kernel,by decide +kernel⟩
noncomputable abbrev qR:Stmt:=inClass (top 79) 3
noncomputable abbrev j3:Lh:=["self","piece","spot","answer","refusal"]
noncomputable abbrev zI:Lh:=["self","piece","spot"]
theorem qH:zo j3 zI (zg qR):=⟨rfl,rfl,rfl,by decide +kernel,rfl,by decide +kernel,by decide +kernel⟩
noncomputable abbrev js:Stmt:=inClass (top 79) 4
noncomputable abbrev wZ:Lh:=["self","piece","spot","place"]
noncomputable abbrev zS:Lh:=["self","piece","spot"]
theorem wN:zo wZ zS (zg js):=⟨rfl,rfl,rfl,by decide +kernel,rfl,by decide +kernel,by decide +kernel⟩
noncomputable abbrev qD:Stmt:=inClass (top 79) 5
noncomputable abbrev w6:Lh:=["self","piece","spot","passed","end"]
noncomputable abbrev zT:Lh:=["self","piece","spot"]
theorem je:zo w6 zT (zg qD):=⟨rfl,rfl,rfl,by decide +kernel,rfl,by decide +kernel,by decide +kernel⟩
noncomputable abbrev qY:Stmt:=inClass (top 79) 6
noncomputable abbrev vc:Lh:=["self","piece","spot","one","other"]
noncomputable abbrev z4:Lh:=["self","piece","spot"]
theorem jH:zo vc z4 (zg qY):=⟨rfl,rfl,rfl,by decide +kernel,rfl,by decide +kernel,by decide +kernel⟩
noncomputable abbrev qE:Stmt:=inClass (top 79) 7
noncomputable abbrev xb:Lh:=["self","piece","spot","floor","end"]
noncomputable abbrev zU:Lh:=["self","piece","spot"]
theorem jf:zo xb zU (zg qE):=⟨rfl,rfl,rfl,by decide +kernel,rfl,by decide +kernel,by decide +kernel⟩
noncomputable abbrev yx:Lh:=["self","piece","spot","pair","part","first","behind"]
noncomputable abbrev yy:Stmt:=top 80
noncomputable abbrev Qu:Lh:=["pieces","kept","looking","end"]
noncomputable abbrev j4:Lh:=["pieces","kept"]
theorem vQ:zo Qu j4 (zg yy):=⟨rfl,rfl,rfl,by decide +kernel,rfl,by decide +kernel,by decide +kernel⟩
noncomputable abbrev Y0:Stmt:=top 81
noncomputable abbrev zcN:Lh:=["pieces"]
noncomputable abbrev Zu:Lh:=["pieces"]
theorem zez:zo zcN Zu (zg Y0):=⟨rfl,rfl,rfl,by decide +kernel,rfl,by decide +kernel,by decide +kernel⟩
noncomputable abbrev yz:Stmt:=top 83
noncomputable abbrev Qv:Lh:=["_law_script","_law_k","_law_number"]
noncomputable abbrev j5:Lh:=["_law_script","_law_k"]
theorem vR:zo Qv j5 (zg yz):=⟨rfl,rfl,rfl,by decide +kernel,rfl,by decide +kernel,by decide +kernel⟩
noncomputable abbrev kH:Stmt:=top 84
noncomputable abbrev JK:Lh:=["_law_cell_here","_law_k","_law_many","_law_first","_law_second","_law_number"]
noncomputable abbrev qh:Lh:=["_law_cell_here","_law_k","_law_many"]
theorem vd:zo JK qh (zg kH):=⟨rfl,rfl,rfl,by decide +kernel,rfl,by decide +kernel,by decide +kernel⟩
noncomputable abbrev vS:Stmt:=top 85
noncomputable abbrev Zv:Lh:=["_law_e"]
noncomputable abbrev jw:Lh:=["_law_e"]
theorem J1:zo Zv jw (zg vS):=⟨rfl,rfl,rfl,by decide +kernel,rfl,by decide +kernel,by decide +kernel⟩
noncomputable abbrev vq:Stmt:=top 86
noncomputable abbrev ka:Lh:=["_law_pieces_here","_law_found","_law_e"]
noncomputable abbrev jg:Lh:=["_law_pieces_here"]
theorem xO:zo ka jg (zg vq):=⟨rfl,rfl,rfl,by decide +kernel,rfl,by decide +kernel,by decide +kernel⟩
noncomputable abbrev xP:Stmt:=top 87
noncomputable abbrev yA:Lh:=["_law_e"]
noncomputable abbrev qS:Lh:=["_law_e"]
theorem QC:zo yA qS (zg xP):=⟨rfl,rfl,rfl,by decide +kernel,rfl,by decide +kernel,by decide +kernel⟩
noncomputable abbrev yB:Stmt:=top 88
noncomputable abbrev Qw:Lh:=["_law_some"]
noncomputable abbrev j6:Lh:=[]
theorem vT:zo Qw j6 (zg yB):=⟨rfl,rfl,rfl,by decide +kernel,rfl,by decide +kernel,by decide +kernel⟩
noncomputable abbrev kI:Stmt:=top 89
noncomputable abbrev JL:Lh:=["_law_state","_law_text","_law_sign","_law_told"]
noncomputable abbrev qz:Lh:=["_law_state","_law_text"]
theorem ve:zo JL qz (zg kI):=⟨rfl,rfl,rfl,by decide +kernel,rfl,by decide +kernel,by decide +kernel⟩
noncomputable abbrev xQ:Stmt:=top 90
noncomputable abbrev yC:Lh:=["_law_cell_here","_law_state","_law_menu_here","_law_text","_law_k"]
noncomputable abbrev qr:Lh:=["_law_cell_here","_law_state"]
theorem qT:zo yC qr (zg xQ):=⟨rfl,rfl,rfl,by decide +kernel,rfl,by decide +kernel,by decide +kernel⟩
noncomputable abbrev wt:Stmt:=top 91
noncomputable abbrev kb:Lh:=["_law_cell_here","_law_state","_law_deep","_law_room","_law_found","_law_k","_law_number","_law_way","_law_text"]
noncomputable abbrev z7:Lh:=["_law_cell_here","_law_state","_law_deep","_law_room"]
theorem qp:zo kb z7 (zg wt):=⟨rfl,rfl,rfl,by decide +kernel,rfl,by decide +kernel,by decide +kernel⟩
noncomputable abbrev wu:Stmt:=top 92
noncomputable abbrev kc:Lh:=["_law_cell_here","_law_way","_law_state","_law_deep","_law_room","_law_floor","_law_one","_law_other_here"]
noncomputable abbrev zW:Lh:=["_law_cell_here","_law_way","_law_state","_law_deep","_law_room"]
theorem qI:zo kc zW (zg wu):=⟨rfl,rfl,rfl,by decide +kernel,rfl,by decide +kernel,by decide +kernel⟩
noncomputable abbrev yD:Stmt:=top 93
noncomputable abbrev Qx:Lh:=["_law_pieces_here","_law_cell_here","_law_state","_law_more","_law_found"]
noncomputable abbrev jq:Lh:=["_law_pieces_here","_law_cell_here","_law_state"]
theorem vU:zo Qx jq (zg yD):=⟨rfl,rfl,rfl,by decide +kernel,rfl,by decide +kernel,by decide +kernel⟩
noncomputable abbrev vt:Stmt:=top 94
noncomputable abbrev kg:Lh:=["_law_pieces_here","_law_more","_law_found"]
noncomputable abbrev jh:Lh:=["_law_pieces_here"]
theorem xR:zo kg jh (zg vt):=⟨rfl,rfl,rfl,by decide +kernel,rfl,by decide +kernel,by decide +kernel⟩
noncomputable abbrev jI:Stmt:=top 95
noncomputable abbrev xS:Lh:=["_law_state"]
noncomputable abbrev zX:Lh:=["_law_state"]
theorem yZ:zo xS zX (zg jI):=⟨rfl,rfl,rfl,by decide +kernel,rfl,by decide +kernel,by decide +kernel⟩
noncomputable abbrev qu:Stmt:=top 96
noncomputable abbrev jC:Lh:=["_law_piece","_law_state","_law_faults","_law_told","_law_ends_here","_law_floor","_law_one"]
noncomputable abbrev qk:Lh:=["_law_piece","_law_state","_law_faults"]
theorem ql:zo jC qk (zg qu):=⟨rfl,rfl,rfl,by decide +kernel,rfl,by decide +kernel,by decide +kernel⟩
noncomputable abbrev vf:Stmt:=top 97
noncomputable abbrev Qy:Lh:=["_law_pieces_here","_law_state","_law_faults","_law_states","_law_piece","_law_ends_here","_law_one","_law_told"]
noncomputable abbrev zN:Lh:=["_law_pieces_here","_law_state","_law_faults"]
theorem qA:zo Qy zN (zg vf):=⟨rfl,rfl,rfl,by decide +kernel,rfl,by decide +kernel,by decide +kernel⟩
noncomputable abbrev xf:Stmt:=top 98
noncomputable abbrev vV:Lh:=["_law_pieces_here","_law_faults","_law_ends_here","_law_found"]
noncomputable abbrev jx:Lh:=["_law_pieces_here"]
theorem wx:zo vV jx (zg xf):=⟨rfl,rfl,rfl,by decide +kernel,rfl,by decide +kernel,by decide +kernel⟩
noncomputable abbrev zcO:Stmt:=top 99
noncomputable abbrev zeX:Lh:=["_law_script","_law_k","_law_cell_here","_law_pieces_here","_law_text"]
noncomputable abbrev Xc:Lh:=["_law_script"]
theorem Z4:zo zeX Xc (zg zcO):=⟨rfl,rfl,rfl,by decide +kernel,rfl,by decide +kernel,by decide +kernel⟩
noncomputable abbrev kJ:Stmt:=inClass (top 4) 0
theorem VI:zo ["self","at"] ["self","at"] (zg kJ):=⟨rfl,rfl,rfl,by decide +kernel,rfl,by decide +kernel,by decide +kernel⟩
noncomputable abbrev kK:Stmt:=inClass (top 15) 0
theorem VJ:zo ["self","place","at"] ["self","place","at"] (zg kK):=⟨rfl,rfl,rfl,by decide +kernel,rfl,by decide +kernel,by decide +kernel⟩
noncomputable abbrev kL:Stmt:=inClass (top 17) 0
theorem VL:zo ["self","what","one","other"] ["self","what","one","other"] (zg kL):=⟨rfl,rfl,rfl,by decide +kernel,rfl,by decide +kernel,by decide +kernel⟩
noncomputable abbrev yE:Stmt:=inClass (top 16) 0
theorem Xd:zo ["self","name","place"] ["self","name","place"] (zg yE):=⟨rfl,rfl,rfl,by decide +kernel,rfl,by decide +kernel,by decide +kernel⟩
noncomputable abbrev vW:Stmt:=inClass (top 18) 0
theorem J6:zo ["self","place"] ["self","place"] (zg vW):=⟨rfl,rfl,rfl,by decide +kernel,rfl,by decide +kernel,by decide +kernel⟩
theorem cxK {CX:CXT}{P:Program}{w:World}{K:Le}{mg:La}{base:Heap}{N:Lh}{qual:Str}{scope:Scope}{f:Addr}{cd:Value}{A:Around}{outer:List Env}{s:Shared}{H:Hp}{E:XK}:(cxOf CX P w K mg base N qual scope f cd A outer s H E).nox.K=K:=rfl
theorem cxK0 {CX:CXT}{P:Program}{w:World}{K:Le}{mg:La}{base:Heap}{N:Lh}{qual:Str}{scope:Scope}{f:Addr}{cd:Value}{A:Around}{outer:List Env}{s:Shared}{H:Hp}{E:XK}:(cxOf CX P w K mg base N qual scope f cd A outer s H E).K=K:=rfl
theorem nc0:((0:Nat):Int)=0:=rfl
theorem nc1:((1:Nat):Int)=1:=rfl
theorem nc2:((2:Nat):Int)=2:=rfl
theorem nc3:((3:Nat):Int)=3:=rfl
theorem nc94:((94:Nat):Int)=94:=rfl
theorem blkK {X:Cx}{x:Str}{scope:Scope}{cl:List (Str×Addr)}{C:Addr}{s3:Shared}{H3:Hp}{fp:Ld}:(blk X x scope cl C s3 H3 fp).K=X.K:=rfl
theorem zeA {K:Le}{x:Str}{H:Hp}:tyV K "str" (.str x) H=True:=by simp [tyV]
theorem zkp {A B:Prop}:(if true=true then A else B)=A:=by simp
theorem zkq {A B:Prop}:(if false=true then A else B)=B:=by simp
theorem cxKh {CX:CXT}{P:Program}{w:World}{K:Le}{mg:La}{base:Heap}{N:Lh}{qual:Str}{scope:Scope}{f:Addr}{cd:Value}{A:Around}{outer:List Env}{s:Shared}{H:Hp}{E:XK}:(cxOf CX P w K mg base N qual scope f cd A outer s H E).hot.nox.K=K:=rfl
structure Ads where
 SealError:Addr
 NoSign:Addr
 NoCode:Addr
 Unread:Addr
 Unended:Addr
 NoPage:Addr
 NoName:Addr
 NoSheet:Addr
 Twice:Addr
 TooMany:Addr
 Unknown:Addr
 RingOver:Addr
 Ringed:Addr
 NoElder:Addr
 Astray:Addr
 NoPlace:Addr
 Unlike:Addr
 LeftOpen:Addr
 NoValue:Addr
 NoKind:Addr
 NoRow:Addr
 Spot:Addr
 Looking:Addr
 PLACE_MODES:Addr
 at_text:Addr
 at_mark:Addr
 at_open:Addr
 at_name:Addr
 at_slash:Addr
 at_shut:Addr
 at_gap:Addr
 at_attr:Addr
 at_is:Addr
 at_bang:Addr
 at_bare:Addr
 at_code:Addr
 at_row:Addr
 at_stroke:Addr
 at_quoted:Addr
 at_qmark:Addr
 at_done:Addr
 at_talk:Addr
 at_tmark:Addr
 at_asis:Addr
noncomputable def tab2 (t:Ads):List (Tx×AtF×Addr):=[(jL,Va,t.at_text),(zaa,Vb,t.at_mark),(zcf,Vc,t.at_open),(zab,aName,t.at_name),(YA,Ji,t.at_slash),(zac,Vd,t.at_shut),(mGap,aGap,t.at_gap),(zad,Ve,t.at_attr),(mIs,aIs,t.at_is),(zcg,Vf,t.at_bang),(jW,Vg,t.at_bare),(zae,Vh,t.at_code),(mRow,aRow,t.at_row),(WZ,Zj,t.at_stroke),(qf,Zk,t.at_quoted),(W0,Jj,t.at_qmark),(X9,Vi,t.at_done),(vz,Vj,t.at_talk),(W2,Jk,t.at_tmark),(Qm,Vk,t.at_asis)]
noncomputable def mtab (t:Ads):List (Key×V):=(tab2 t).map λe=>(.inr (S e.1),.ref e.2.2)
theorem zcP (t:Ads):Wt=(tab2 t).map λe=>(e.1,e.2.1):=rfl
theorem VM (m:Tx):∀ l:List (Tx×AtF×Addr),(∃ e∈l,valV (l.map λe=>((.inr (S e.1):Key),V.ref e.2.2)) (.inr (S m))=some (.ref e.2.2)/\(l.map λe=>(e.1,e.2.1)).lookup m=some e.2.1) \/
  (valV (l.map λe=>((.inr (S e.1):Key),V.ref e.2.2)) (.inr (S m))=none/\(l.map λe=>(e.1,e.2.1)).lookup m=none)
 | []=>.inr ⟨rfl,rfl⟩
 | e::l=>by
  by_cases h:e.1=m
  ·refine .inl ⟨e,Ux,?_,?_⟩
   ·rw [uD,Zm (by show(Sum.inr (S e.1):Key)=Sum.inr (S m);rw [h])]
   ·rw [uD,uY,h];simp
  ·have e1:valV ((e::l).map λe=>((.inr (S e.1):Key),V.ref e.2.2)) (.inr (S m))=valV (l.map λe=>((.inr (S e.1):Key),V.ref e.2.2)) (.inr (S m)):=by
    rw [uD,Zn (by intro z;exact h (Qj.mp (Sum.inr.inj z)))]
   have e2:((e::l).map λe=>(e.1,e.2.1)).lookup m=(l.map λe=>(e.1,e.2.1)).lookup m:=by
    rw [uD,uY]
    have:(m == e.1)=false:=uT.mpr λz=>h z.symm
    simp [this]
   rw [e1,e2]
   rcases VM m l with⟨e',h1,h2⟩ | h2
   ·exact .inl ⟨e',uP _ h1,h2⟩
   ·exact .inr h2
structure Txt (w:World)(K:Le)(mg:La)(t:Ads):Prop where
 m_SealError:mg "SealError" = some (.ref t.SealError)
 m_NoSign:mg "NoSign" = some (.ref t.NoSign)
 m_NoCode:mg "NoCode" = some (.ref t.NoCode)
 m_Unread:mg "Unread" = some (.ref t.Unread)
 m_Unended:mg "Unended" = some (.ref t.Unended)
 m_NoPage:mg "NoPage" = some (.ref t.NoPage)
 m_NoName:mg "NoName" = some (.ref t.NoName)
 m_NoSheet:mg "NoSheet" = some (.ref t.NoSheet)
 m_Twice:mg "Twice" = some (.ref t.Twice)
 m_TooMany:mg "TooMany" = some (.ref t.TooMany)
 m_Unknown:mg "Unknown" = some (.ref t.Unknown)
 m_RingOver:mg "RingOver" = some (.ref t.RingOver)
 m_Ringed:mg "Ringed" = some (.ref t.Ringed)
 m_NoElder:mg "NoElder" = some (.ref t.NoElder)
 m_Astray:mg "Astray" = some (.ref t.Astray)
 m_NoPlace:mg "NoPlace" = some (.ref t.NoPlace)
 m_Unlike:mg "Unlike" = some (.ref t.Unlike)
 m_LeftOpen:mg "LeftOpen" = some (.ref t.LeftOpen)
 m_NoValue:mg "NoValue" = some (.ref t.NoValue)
 m_NoKind:mg "NoKind" = some (.ref t.NoKind)
 m_NoRow:mg "NoRow" = some (.ref t.NoRow)
 m_Spot:mg "Spot" = some (.ref t.Spot)
 m_Looking:mg "Looking" = some (.ref t.Looking)
 m_at_text:mg "at_text" = some (.ref t.at_text)
 m_at_mark:mg "at_mark" = some (.ref t.at_mark)
 m_at_open:mg "at_open" = some (.ref t.at_open)
 m_at_name:mg "at_name" = some (.ref t.at_name)
 m_at_slash:mg "at_slash" = some (.ref t.at_slash)
 m_at_shut:mg "at_shut" = some (.ref t.at_shut)
 m_at_gap:mg "at_gap" = some (.ref t.at_gap)
 m_at_attr:mg "at_attr" = some (.ref t.at_attr)
 m_at_is:mg "at_is" = some (.ref t.at_is)
 m_at_bang:mg "at_bang" = some (.ref t.at_bang)
 m_at_bare:mg "at_bare" = some (.ref t.at_bare)
 m_at_code:mg "at_code" = some (.ref t.at_code)
 m_at_row:mg "at_row" = some (.ref t.at_row)
 m_at_stroke:mg "at_stroke" = some (.ref t.at_stroke)
 m_at_quoted:mg "at_quoted" = some (.ref t.at_quoted)
 m_at_qmark:mg "at_qmark" = some (.ref t.at_qmark)
 m_at_done:mg "at_done" = some (.ref t.at_done)
 m_at_talk:mg "at_talk" = some (.ref t.at_talk)
 m_at_tmark:mg "at_tmark" = some (.ref t.at_tmark)
 m_at_asis:mg "at_asis" = some (.ref t.at_asis)
 c_SealError:XCl K t.SealError
 c_Unread:XCl K t.Unread
 u_SealError:upIn K t.SealError=true
 k_Unread:PySem.W.keepIn K (.ref t.Unread)=true
 n_Unread_at:PySem.W.findIn K (.ref t.Unread) "at" = some none
 kit_up_ur:PySem.W.mroIn K t.Unread (.ref t.Unread)=some true
 c_Astray:XCl K t.Astray
 k_Astray:PySem.W.keepIn K (.ref t.Astray)=true
 n_Astray_place:PySem.W.findIn K (.ref t.Astray) "place" = some none
 n_Astray_at:PySem.W.findIn K (.ref t.Astray) "at" = some none
 kit_Astray_se:PySem.W.mroIn K t.Astray (.ref t.SealError)=some true
 kit_Astray_l1:PySem.W.kitAny K (.ref t.Astray) [.ref t.NoCode,.ref t.NoElder,.ref t.NoKind,.ref t.NoName,.ref t.NoPage,.ref t.NoRow,.ref t.NoSheet,.ref t.NoSign,.ref t.Unread]=some false
 kit_Astray_l2:PySem.W.kitAny K (.ref t.Astray) [.ref t.NoValue,.ref t.RingOver,.ref t.Ringed,.ref t.TooMany,.ref t.Twice,.ref t.Unended,.ref t.Unknown]=some false
 kit_Astray_ve:PySem.W.kitOne K (.ref t.Astray) (.type "ValueError")=some true
 kit_Astray_a:PySem.W.kitOne K (.ref t.Astray) (.ref t.Astray)=some true
 kit_Astray_o:PySem.W.kitAny K (.ref t.Astray) [.ref t.NoPlace,.ref t.Unlike,.ref t.LeftOpen]=some false
 c_Unlike:XCl K t.Unlike
 k_Unlike:PySem.W.keepIn K (.ref t.Unlike)=true
 n_Unlike_what:PySem.W.findIn K (.ref t.Unlike) "what" = some none
 n_Unlike_one:PySem.W.findIn K (.ref t.Unlike) "one" = some none
 n_Unlike_other:PySem.W.findIn K (.ref t.Unlike) "other" = some none
 kit_Unlike_se:PySem.W.mroIn K t.Unlike (.ref t.SealError)=some true
 kit_Unlike_l1:PySem.W.kitAny K (.ref t.Unlike) [.ref t.NoCode,.ref t.NoElder,.ref t.NoKind,.ref t.NoName,.ref t.NoPage,.ref t.NoRow,.ref t.NoSheet,.ref t.NoSign,.ref t.Unread]=some false
 kit_Unlike_l2:PySem.W.kitAny K (.ref t.Unlike) [.ref t.NoValue,.ref t.RingOver,.ref t.Ringed,.ref t.TooMany,.ref t.Twice,.ref t.Unended,.ref t.Unknown]=some false
 kit_Unlike_ve:PySem.W.kitOne K (.ref t.Unlike) (.type "ValueError")=some true
 kit_Unlike_a:PySem.W.kitOne K (.ref t.Unlike) (.ref t.Astray)=some false
 kit_Unlike_n:PySem.W.kitOne K (.ref t.Unlike) (.ref t.NoPlace)=some false
 kit_Unlike_u:PySem.W.kitOne K (.ref t.Unlike) (.ref t.Unlike)=some true
 kit_Unlike_o:PySem.W.kitOne K (.ref t.Unlike) (.ref t.LeftOpen)=some false
 c_NoPlace:XCl K t.NoPlace
 k_NoPlace:PySem.W.keepIn K (.ref t.NoPlace)=true
 n_NoPlace_name:PySem.W.findIn K (.ref t.NoPlace) "name" = some none
 n_NoPlace_place:PySem.W.findIn K (.ref t.NoPlace) "place" = some none
 kit_NoPlace_se:PySem.W.mroIn K t.NoPlace (.ref t.SealError)=some true
 kit_NoPlace_l1:PySem.W.kitAny K (.ref t.NoPlace) [.ref t.NoCode,.ref t.NoElder,.ref t.NoKind,.ref t.NoName,.ref t.NoPage,.ref t.NoRow,.ref t.NoSheet,.ref t.NoSign,.ref t.Unread]=some false
 kit_NoPlace_l2:PySem.W.kitAny K (.ref t.NoPlace) [.ref t.NoValue,.ref t.RingOver,.ref t.Ringed,.ref t.TooMany,.ref t.Twice,.ref t.Unended,.ref t.Unknown]=some false
 kit_NoPlace_ve:PySem.W.kitOne K (.ref t.NoPlace) (.type "ValueError")=some true
 kit_NoPlace_a:PySem.W.kitOne K (.ref t.NoPlace) (.ref t.Astray)=some false
 kit_NoPlace_n:PySem.W.kitOne K (.ref t.NoPlace) (.ref t.NoPlace)=some true
 kit_NoPlace_o:PySem.W.kitAny K (.ref t.NoPlace) [.ref t.Unlike,.ref t.LeftOpen]=some false
 c_LeftOpen:XCl K t.LeftOpen
 k_LeftOpen:PySem.W.keepIn K (.ref t.LeftOpen)=true
 n_LeftOpen_place:PySem.W.findIn K (.ref t.LeftOpen) "place" = some none
 kit_LeftOpen_se:PySem.W.mroIn K t.LeftOpen (.ref t.SealError)=some true
 kit_LeftOpen_l1:PySem.W.kitAny K (.ref t.LeftOpen) [.ref t.NoCode,.ref t.NoElder,.ref t.NoKind,.ref t.NoName,.ref t.NoPage,.ref t.NoRow,.ref t.NoSheet,.ref t.NoSign,.ref t.Unread]=some false
 kit_LeftOpen_l2:PySem.W.kitAny K (.ref t.LeftOpen) [.ref t.NoValue,.ref t.RingOver,.ref t.Ringed,.ref t.TooMany,.ref t.Twice,.ref t.Unended,.ref t.Unknown]=some false
 kit_LeftOpen_ve:PySem.W.kitOne K (.ref t.LeftOpen) (.type "ValueError")=some true
 kit_LeftOpen_a:PySem.W.kitOne K (.ref t.LeftOpen) (.ref t.Astray)=some false
 kit_LeftOpen_n:PySem.W.kitOne K (.ref t.LeftOpen) (.ref t.NoPlace)=some false
 kit_LeftOpen_u:PySem.W.kitOne K (.ref t.LeftOpen) (.ref t.Unlike)=some false
 kit_LeftOpen_o:PySem.W.kitOne K (.ref t.LeftOpen) (.ref t.LeftOpen)=some true
 g_SIGNS:∃ u,mg "SIGNS" = some u/\RelV (.str (S sg)) u
 g_FIGURES:∃ u,mg "FIGURES" = some u/\RelV (.str (S fg)) u
 g_LETTERS:∃ u,mg "LETTERS" = some u/\RelV (.str (S lt)) u
 g_LONGEST_NAME:∃ u,mg "LONGEST_NAME" = some u/\RelV (.int 8) u
 g_WORDSIGNS:∃ u,mg "WORDSIGNS" = some u/\RelV (.str (S ws)) u
 g_ASIS_END:∃ u,mg "ASIS_END" = some u/\RelV (.str (S vL)) u
 g_MARK_FIGURES:∃ u,mg "MARK_FIGURES" = some u/\RelV (.int 2) u
 d_MODES:∃ a,mg "MODES" = some (.ref a)/\Vo w K a (mtab t)
 m_PLACE_MODES:mg "PLACE_MODES" = some (.ref t.PLACE_MODES)
 s_PLACE_MODES:∀ H,SqT K H t.PLACE_MODES [.str (S jL),.str (S jW),.str (S mRow),.str (S qf)]
 z_len:mg "len" = none
 z_max:mg "max" = none
 z_min:mg "min" = none
 z_int:mg "int" = none
 z_str:mg "str" = none
 z_tuple:mg "tuple" = none
 z_list:mg "list" = none
 z_range:mg "range" = none
 z_enumerate:mg "enumerate" = none
 z_isinstance:mg "isinstance" = none
 z_ValueError:mg "ValueError" = none
 l_Spot:Cls K t.Spot
 l_Looking:Cls K t.Looking
 a_state:wR K t.Spot "state"
 a_turns:wR K t.Spot "turns"
 a_many:wR K t.Spot "many"
 a_kept:wR K t.Looking "kept"
 a_holes:wR K t.Looking "holes"
 a_pairs:wR K t.Looking "pairs"
theorem Y1 {P:Program}{w:World}{K:Le}{mg:La}{base:Heap}{t:Ads}(T:Txt w K mg t)(D:Ini K t.Unread "Unread.__init__" kJ ["self","at"]):Err P w K mg base "Unread" t.Unread "at" payT:=by obtain⟨fI,fd,oI,i1,i2,i3,F,b⟩:=D.ex;refine⟨T.m_Unread,T.c_Unread,T.k_Unread,fI,fd,oI,_,i1,i2,i3,b,?_⟩;refine F.ok VI (λvs H Q E h=>by obtain⟨a,v,rfl,_⟩:=h;rfl) λcdv A outer s H vs Q E hr h=>?_;obtain⟨a,v,rfl,ea,hp,q⟩:=h;exact⟨_,ju (yQ (Zh (C:=t.Unread) T.m_SealError T.u_SealError T.c_Unread (jT (pv 0) (jT (zb4 (pv 1)) ZC)))) (yP (Zi T.c_Unread T.n_Unread_at (pv 0) (pv 1))),za8 ea hp q⟩
theorem drawn {ys:List V}{n:Nat}(hl:ys.length=n)(h:∀ (i:Nat) v,ys[i]? = some v->∃ c∈sg,v=V.str (S [c])) : ∃ t:Lc,t.length=n/\(∀ c∈t,c∈sg)/\ys=(t.map λc=>[c]).map (λl=>V.str (S l)):=by
 induction ys generalizing n with
 | nil=>exact⟨[],hl,by simp,rfl⟩
 | cons y ys ih=>
  obtain⟨c,hc,rfl⟩:=h 0 y rfl;obtain⟨t,e1,e2,e3⟩:=ih (n:=ys.length) rfl λi v e=>h (i+1) v (by simpa using e);refine⟨c::t,by rw [uu,e1,← hl];rfl,λd hd=>?_,by rw [e3];rfl⟩;rcases uy.mp hd with rfl | hd
  ·exact hc
  ·exact e2 d hd
noncomputable def spA (F:AtF):Sp:=λvs H Q _=>∃ (w:Tx) (oa:Addr) (op:List Tx) (t:Tx) (c:Nat),vs=[.str (S w),.ref oa,.str (S t),.str (S [c])]/\OpV H oa op/\w.length<=1000/\op.length<=100000/\∀ v H',Same H H'->AnV (λa=>H a=none) H' v (F w op t c)->Q v H'
noncomputable def kM:Sp:=λvs H Q _=>∃ n:Nat,vs=[.int n]/\n<94/\∀ c H',sg[n]? = some c->Same H H'->Q (.str (S [c])) H'
noncomputable def xg:Sp:=λvs H Q _=>∃ l,vs=[.str (S l)]/\l.length<=2000/\∀ H',Same H H'->Q (oV (L2.told l)) H'
noncomputable def j7:Sp:=λvs H Q _=>∃ c:Nat,vs=[.str (S [c])]/\∀ v H',Same H H'->TkV (λa=>H a=none) H' v (fedB c)->Q v H'
noncomputable def yF:Sp:=λvs H Q _=>∃ c:Nat,vs=[.str (S [c])]/\∀ v H',Same H H'->TkV (λa=>H a=none) H' v (fedW c)->Q v H'
noncomputable def yG:Sp:=λvs H Q _=>∃ c:Nat,vs=[.str (S [c])]/\∀ v H',Same H H'->TkV (λa=>H a=none) H' v (fedS c)->Q v H'
noncomputable def Xe:Sp:=λvs H Q _=>∃ (t:Tx) (c:Nat),vs=[.str (S t),.str (S [c])]/\∀ v H',Same H H'->TkV (λa=>H a=none) H' v (Jh t c)->Q v H'
noncomputable def zR:Sp:=λvs H Q _=>∃ (m:Tx) (oa:Addr) (op:List Tx) (ea:Addr) (es:List Ev),vs=[.str (S m),.ref oa,.ref ea]/\OpV H oa op/\EvL H ea es/\∀ v H',Same H H'->AnV (λa=>a=ea) H' v (qq m op es)->Q v H'
noncomputable def wz:Sp:=λvs H Q _=>∃ (m:Tx) (oa:Addr) (op:List Tx) (o:Option Nat),vs=[.str (S m),.ref oa,oV o]/\OpV H oa op/\∀ v H',Same H H'->AnV (λa=>H a=none) H' v (y7 m op o)->Q v H'
noncomputable def qi:Sp:=λvs H Q _=>∃ (m w:Tx) (oa:Addr) (op:List Tx) (t:Tx) (n:Nat),vs=[.str (S m),.str (S w),.ref oa,.str (S t),.int n]/\OpV H oa op/\w.length<=2000/\∀ v H',Same H H'->AnV (λa=>H a=none) H' v (gath m w op t n)->Q v H'
noncomputable def wO:Sp:=λvs H Q _=>∃ (oa:Addr) (op:List Tx) (ea:Addr) (es:List Ev),vs=[.ref oa,.ref ea]/\OpV H oa op/\EvL H ea es/\es.length<=1000/\∀ v H',Same H H'->AnV (λa=>H a=none) H' v (vM op es)->Q v H'
noncomputable def yH:Sp:=λvs H Q _=>∃ (oa:Addr) (op:List Tx) (ea:Addr) (es:List Ev),vs=[.ref oa,.ref ea]/\OpV H oa op/\EvL H ea es/\es.length<=1000/\∀ v H',Same H H'->AnV (λa=>H a=none) H' v (QL op es)->Q v H'
noncomputable def vE:Sp:=λvs H Q _=>∃ (oa:Addr) (op:List Tx) (c:Nat) (ea:Addr) (es:List Ev),vs=[.ref oa,.str (S [c]),.ref ea]/\OpV H oa op/\EvL H ea es/\es.length<=1000/\∀ v H',Same H H'->AnV (λa=>H a=none\/a=ea) H' v (Jg op c es)->Q v H'
noncomputable def Xf:Sp:=λvs H Q _=>∃ (oa:Addr) (op:List Tx) (t:Tx) (o:Option Nat),vs=[.ref oa,.str (S t),oV o]/\OpV H oa op/\∀ v H',Same H H'->AnV (λa=>H a=none) H' v (fedM op t o)->Q v H'
noncomputable def jy:Sp:=λvs H Q _=>∃ (w:Tx) (c:Nat),vs=[.str (S w),.str (S [c])]/\w.length<=1000/\∀ H',Same H H'->Q (oV (Qn w c)) H'
noncomputable def kN:Sp:=spA Va
noncomputable def kP:Sp:=spA Vb
noncomputable def kQ:Sp:=spA Vc
noncomputable def kR:Sp:=spA aName
noncomputable def yI:Sp:=spA Ji
noncomputable def kS:Sp:=spA Vd
noncomputable def Z5:Sp:=spA aGap
noncomputable def kT:Sp:=spA Ve
noncomputable def JM:Sp:=spA aIs
noncomputable def kU:Sp:=spA Vf
noncomputable def kW:Sp:=spA Vg
noncomputable def kX:Sp:=spA Vh
noncomputable def Z6:Sp:=spA aRow
noncomputable def vX:Sp:=spA Zj
noncomputable def vY:Sp:=spA Zk
noncomputable def yJ:Sp:=spA Jj
noncomputable def kY:Sp:=spA Vi
noncomputable def kZ:Sp:=spA Vj
noncomputable def yK:Sp:=spA Jk
noncomputable def k8:Sp:=spA Vk
noncomputable def Zw:Sp:=λvs H Q _=>∃ (x:V) (s:MS) (c:Nat),vs=[x,.str (S [c])]/\StV H x s/\s.word.length<=1000/\s.opens.length<=100000/\∀ v H',Same H H'->AnV (λa=>H a=none) H' v (va s c)->Q v H'
noncomputable def xU:Sp:=λvs H Q _=>vs=[]/\∀ v H',Same H H'->StV H' v ⟨jL,[],[],[]⟩->Q v H'
noncomputable def QP:Sp:=Zw
noncomputable def vZ:Sp:=λvs H Q _=>∃ (x:V) (s:MS),vs=[x]/\StV H x s/\∀ v H',Same H H'->StV H' v { s with opens:=[] }->Q v H'
def RnV (G:Addr->Prop)(H:Hp)(v:V)(s:MS)(es:List Ev):Prop:=∃ p sa ea,v=.ref p/\H p=some (.tup [sa,.ref ea])/\StV H sa s/\EvL H ea es/\G ea
noncomputable def Y2 (t:Ads):Sp:=λvs H Q E=>∃ (x:V) (s:MS) (l:Lc),vs=[x,.str (S l)]/\StV H x s/\s.word.length<=8/\s.opens.length+l.length<=100000/\(∀ s' es,runM s l=.ok (s',es)->∀ v H',Same H H'->RnV (λa=>H a=none) H' v s' es->Q v H')/\(∀ b:Nat,runM s l=.error b->∀ d H',Same H H'->H' d=some (.xd [("at",.int b)])->E (.ref t.Unread) (some d) H')
noncomputable def xV (s:MS):Option Tx:=if s.mode∈[jL,jW,mRow,qf] then some s.mode else if s.mode=vz/\s.talk=wA then some wA else none
noncomputable def plV:Option Tx->V
 | none=>.non
 | some x=>.str (S x)
noncomputable def yL:Sp:=λvs H Q _=>∃ (x:V) (s:MS),vs=[x]/\StV H x s/\∀ H',Same H H'->Q (plV (xV s)) H'
noncomputable def v8 (K:Le):Sp:=λvs H Q _=>∃ (a:Addr) (ns:List Int) (k:Nat),vs=[.ref a,.int k]/\SqL K H a (ns.map V.int)/\ns.length<=63/\k<=100/\∀ v H',Same H H'->Q (.int v) H'
noncomputable def qO:Sp:=λvs H Q _=>∃ c k m:Int,vs=[.int c,.int k,.int m]/\0<=k/\k<=1000/\0<m/\∀ (v:Nat) H',(v:Int)<m->Same H H'->Q (.int ((v:Nat):Int)) H'
theorem zar:∀ l m:List Tx,eqDs (l.map ft) (m.map ft)=true->l=m
 | [],[],_=>rfl
 | [],_::_,h=>by simp [eqDs] at h
 | _::_,[],h=>by simp [eqDs] at h
 | a::l,b::m,h=>by simp only [uD,eqDs,eqD,uI] at h;have h1:(S a == S b)=true:=h.1;rw [zag] at h1;rw [of_decide_eq_true h1,zar l m h.2]
theorem Y3 {a b:Tx}(h:eqD (ft a) (ft b)=true):a=b:=by have h1:(S a == S b)=true:=h;rw [zag] at h1;exact of_decide_eq_true h1
theorem zhJ {a b:MS}(h:eqD (dS a) (dS b)=true):a=b:=by obtain⟨m,w,o,t⟩:=a;obtain⟨m',w',o',t'⟩:=b;simp only [dS,eqD,eqDs,uI] at h;obtain⟨h1,h2,h3,h4,_⟩:=h;rw [Y3 h1,Y3 h2,zar _ _ h3,Y3 h4]
inductive Pc where
 | lit (t:Tx)
 | hole (t:Tx)
 | each (n:Tx) (b:List Pc)
 | ife (n:Tx) (a b:List Pc)
 | seat (w n m:Tx) (b:List Pc)
mutual
noncomputable def dP:Pc->Dat
 | .lit t=>.tp [ft [108,105,116],ft t]
 | .hole t=>.tp [ft [104,111,108,101],ft t]
 | .each n b=>.tp [ft [101,97,99,104],ft n,.ls (dPs b)]
 | .ife n a b=>.tp [ft [105,102],ft n,.ls (dPs a),.ls (dPs b)]
 | .seat w n m b=>.tp [ft [115,101,97,116],ft w,ft n,ft m,.ls (dPs b)]
noncomputable def dPs:List Pc->List Dat
 | []=>[]
 | p::ps=>dP p::dPs ps
end
mutual
noncomputable def szP:Pc->Nat
 | .lit _=>1
 | .hole _=>1
 | .each _ b=>1+szPs b
 | .ife _ a b=>1+szPs a+szPs b
 | .seat _ _ _ b=>2+szPs b
noncomputable def szPs:List Pc->Nat
 | []=>0
 | p::ps=>szP p+szPs ps
end
noncomputable def PcF (H:Hp):Pc->List V->Prop
 | .lit t,vs=>vs=[tx [108,105,116],tx t]
 | .hole t,vs=>vs=[tx [104,111,108,101],tx t]
 | .each n b,vs=>∃ w,vs=[tx [101,97,99,104],tx n,w]/\IsDt H (.ls (dPs b)) w
 | .ife n a b,vs=>∃ w u,vs=[tx [105,102],tx n,w,u]/\IsDt H (.ls (dPs a)) w/\IsDt H (.ls (dPs b)) u
 | .seat x n m b,vs=>∃ w,vs=[tx [115,101,97,116],tx x,tx n,tx m,w]/\IsDt H (.ls (dPs b)) w
theorem pcF {H:Hp}{x:Pc}{v:V}(h:IsDt H (dP x) v):∃ p vs,v=.ref p/\H p=some (.tup vs)/\PcF H x vs:=by
 cases x with
 | lit t=>
  obtain⟨p,vs,e,hp,v0,r0,rfl,⟨rfl,_⟩,v1,r1,rfl,⟨rfl,_⟩,rfl⟩:=(by simpa only [dP] using h:IsDt H (.tp [ft [108,105,116],ft t]) v)
  exact⟨p,_,e,hp,rfl⟩
 | hole t=>
  obtain⟨p,vs,e,hp,v0,r0,rfl,⟨rfl,_⟩,v1,r1,rfl,⟨rfl,_⟩,rfl⟩:=(by simpa only [dP] using h:IsDt H (.tp [ft [104,111,108,101],ft t]) v)
  exact⟨p,_,e,hp,rfl⟩
 | each n b=>
  obtain⟨p,vs,e,hp,v0,r0,rfl,⟨rfl,_⟩,v1,r1,rfl,⟨rfl,_⟩,v2,r2,rfl,h2,rfl⟩:=(by simpa only [dP] using h:IsDt H (.tp [ft [101,97,99,104],ft n,.ls (dPs b)]) v)
  exact⟨p,_,e,hp,_,rfl,h2⟩
 | ife n a b=>
  obtain⟨p,vs,e,hp,v0,r0,rfl,⟨rfl,_⟩,v1,r1,rfl,⟨rfl,_⟩,v2,r2,rfl,h2,v3,r3,rfl,h3,rfl⟩:=(by simpa only [dP] using h:IsDt H (.tp [ft [105,102],ft n,.ls (dPs a),.ls (dPs b)]) v)
  exact⟨p,_,e,hp,_,_,rfl,h2,h3⟩
 | seat x n m b=>
  obtain⟨p,vs,e,hp,v0,r0,rfl,⟨rfl,_⟩,v1,r1,rfl,⟨rfl,_⟩,v2,r2,rfl,⟨rfl,_⟩,v3,r3,rfl,⟨rfl,_⟩,v4,r4,rfl,h4,rfl⟩:=(by simpa only [dP] using h:IsDt H (.tp [ft [115,101,97,116],ft x,ft n,ft m,.ls (dPs b)]) v)
  exact⟨p,_,e,hp,_,rfl,h4⟩
def TpS (H1 H2:Hp):Prop:=∀ b ts,H1 b=some (.tup ts)->H2 b=some (.tup ts)
theorem TpS.trans {H1 H2 H3:Hp}(a:TpS H1 H2)(b:TpS H2 H3):TpS H1 H3:=λp ts h=>b _ _ (a _ _ h)
theorem TpS.of {H1 H2:Hp}(g:Same H1 H2):TpS H1 H2:=λb ts h=>g _ _ h
theorem ji {x y:Tx}(h:x≠y):¬ tx x=V.str (S y):=λz=>h (Qj.mp (V.str.inj z))
theorem v9:∀ ps:List Pc,(dPs ps).length=ps.length
 | []=>by simp only [dPs,U9]
 | _::ps=>by simp only [dPs,uu,v9 ps]
theorem vg:∀ a b:List Pc,dPs (a++b)=dPs a++dPs b
 | [],_=>by simp only [dPs,Ud]
 | p::a,b=>by simp only [u4,dPs,vg a b]
theorem JN:∀ a b:List Pc,szPs (a++b)=szPs a+szPs b
 | [],_=>by simp only [szPs,Ud,gJ]
 | p::a,b=>by simp only [u4,szPs,JN a b];omega
theorem ya {H:Hp}{q:Addr}{t:Tx}(h:H q=some (.tup [tx [108,105,116],tx t])):IsDs H (dPs [.lit t]) [.ref q]:=by simp only [dPs,dP];exact⟨_,_,rfl,⟨q,_,rfl,h,xt [[108,105,116],t]⟩,rfl⟩
theorem zas {H:Hp}{q:Addr}{t:Tx}(h:H q=some (.tup [tx [104,111,108,101],tx t])):IsDs H (dPs [.hole t]) [.ref q]:=by simp only [dPs,dP];exact⟨_,_,rfl,⟨q,_,rfl,h,xt [[104,111,108,101],t]⟩,rfl⟩
theorem zat {H:Hp}{q fa:Addr}{n:Tx}{b:List Pc}(h:H q=some (.tup [tx [101,97,99,104],tx n,.ref fa]))(hb:IsDt H (.ls (dPs b)) (.ref fa)):IsDs H (dPs [.each n b]) [.ref q]:=by simp only [dPs,dP];exact⟨_,_,rfl,⟨q,_,rfl,h,_,_,rfl,⟨rfl,rfl⟩,_,_,rfl,⟨rfl,rfl⟩,_,_,rfl,hb,rfl⟩,rfl⟩
theorem zcQ {H:Hp}{q fa fb:Addr}{n:Tx}{a b:List Pc}(h:H q=some (.tup [tx [105,102],tx n,.ref fa,.ref fb]))(ha:IsDt H (.ls (dPs a)) (.ref fa))(hb:IsDt H (.ls (dPs b)) (.ref fb)):IsDs H (dPs [.ife n a b]) [.ref q]:=by simp only [dPs,dP];exact⟨_,_,rfl,⟨q,_,rfl,h,_,_,rfl,⟨rfl,rfl⟩,_,_,rfl,⟨rfl,rfl⟩,_,_,rfl,ha,_,_,rfl,hb,rfl⟩,rfl⟩
theorem zeB {H:Hp}{q fa:Addr}{w n m:Tx}{b:List Pc}(h:H q=some (.tup [tx [115,101,97,116],tx w,tx n,tx m,.ref fa]))(hb:IsDt H (.ls (dPs b)) (.ref fa)):IsDs H (dPs [.seat w n m b]) [.ref q]:=by simp only [dPs,dP];exact⟨_,_,rfl,⟨q,_,rfl,h,_,_,rfl,⟨rfl,rfl⟩,_,_,rfl,⟨rfl,rfl⟩,_,_,rfl,⟨rfl,rfl⟩,_,_,rfl,⟨rfl,rfl⟩,_,_,rfl,hb,rfl⟩,rfl⟩
theorem zcR {s s1 s2:MS}{e1 e2:List Ev}:∀ {a b:Lc},runM s a=.ok (s1,e1)->runM s1 b=.ok (s2,e2)->runM s (a++b)=.ok (s2,e1++e2):=by
 intro a
 induction a generalizing s e1 with
 | nil=>intro b h1 h2;simp only [runM,UT,Uu] at h1;obtain⟨rfl,rfl⟩:=h1;simpa using h2
 | cons c r ih=>
  intro b h1 h2;simp only [runM] at h1;cases hq:va s c with
  | none=>rw [hq] at h1;cases h1
  | some x=>
   obtain⟨s',es⟩:=x;rw [hq] at h1;simp only at h1;cases hr:runM s' r with
   | error n=>rw [hr] at h1;cases h1
   | ok y=>obtain⟨s'',fs⟩:=y;rw [hr] at h1;simp only [UT,Uu] at h1;obtain⟨rfl,rfl⟩:=h1;have:=ih hr h2;simp only [u4,runM,hq,this,UH]
theorem zcS {s s':MS}{c:Nat}{es:List Ev}(h:va s c=some (s',es)):runM s [c]=.ok (s',es):=by simp only [runM,h,uz]
theorem QQ {s s':MS}{es:List Ev}:∀ {l:Lc},runM s l=.ok (s',es)->s.word.length<=8->s'.word.length<=8/\s'.opens.length<=s.opens.length+l.length/\es.length<=10 * l.length:=by
 intro l
 induction l generalizing s es with
 | nil=>intro h k;simp only [runM,UT,Uu] at h;obtain⟨rfl,rfl⟩:=h;exact⟨k,by simp,by simp⟩
 | cons c r ih=>
  intro h k;simp only [runM] at h;cases hq:va s c with
  | none=>rw [hq] at h;cases h
  | some x=>
   obtain⟨s1,fs⟩:=x;rw [hq] at h;simp only at h;cases hr:runM s1 r with
   | error n=>rw [hr] at h;cases h
   | ok y=>
    obtain⟨s2,gs⟩:=y;rw [hr] at h;simp only [UT,Uu] at h;obtain⟨rfl,rfl⟩:=h;obtain⟨b1,b2,b3⟩:=zah s c s1 fs hq k;obtain⟨c1,c2,c3⟩:=ih hr b1;refine⟨c1,?_,?_⟩
    ·rw [uu];lia
    ·rw [ug,uu];lia
theorem none_of {H H':Hp}{p:Addr}(g:Same H H')(h:H' p=none):H p=none:=by
 cases e:H p with
 | none=>rfl
 | some o=>rw [g _ _ e] at h;cases h
theorem VN {H H':Hp}{p:Addr}{o:HO}(hp:H p=none)(g:Same H H'):Same H (upd H' p o):=λb u e=>by rw [zr (zE e hp)];exact g b u e
theorem Xg:∀ (ps:List Pc) (i:Nat) (p:Pc),ps[i]? = some p->(dPs ps)[i]? = some (dP p)
 | q::ps,0,p,h=>by cases h;simp only [dPs];rfl
 | q::ps,i+1,p,h=>by simp only [dPs];exact Xg ps i p (by simpa using h)
noncomputable def dpP:Pc->Nat
 | .lit _=>0
 | .hole _=>0
 | .each _ b=>dpB b+1
 | .ife _ a b=>max (dpB a) (dpB b)+1
 | .seat _ _ _ b=>dpB b+1
where dpB:List Pc->Nat
 | []=>0
 | p::ps=>max (dpP p) (dpB ps)
theorem zhK (s:MS):Ws (dS s)=true:=by
 have:∀ l:List Tx,ym (l.map ft)=true:=λl=>by
  induction l with
  | nil=>rfl
  | cons x l ih=>simp only [uD,ym,ih];rfl
 simp only [dS,Ws,ym,this];rfl
theorem dep_S (s:MS):depD (dS s)<=50:=by
 have:∀ l:List Tx,xr (l.map ft)=0:=λl=>by
  induction l with
  | nil=>rfl
  | cons x l ih=>simp only [uD,xr,depD,ih];rfl
 simp only [dS,depD,xr,this];decide
theorem zcT {a b:TS}{D:Ends}{σ:L2.St}{H:Hp}(R:L2.St->Hp->Prop)(hr:∀ σ' H',R σ' H'->b D σ' H')(h:∀ N:L2.St->Hp->Prop,(∀ σ' H',R σ' H'->N σ' H')->a { D with nx:=N } σ H):tSeq a b D σ H:=h (b D) hr
theorem zcU {a b c:TS}{D:Ends}{σ:L2.St}{H:Hp}(R:L2.St->Hp->Prop)(hr:∀ σ' H',R σ' H'->c D σ' H')(h:∀ N:L2.St->Hp->Prop,(∀ σ' H',R σ' H'->N σ' H')->tSeq a b { D with nx:=N } σ H):tSeq a (tSeq b c) D σ H:=h (c D) hr
noncomputable def s00:MS:=⟨jL,[],[],[]⟩
noncomputable abbrev Ho:=List (Tx×Tx)
def HoV (H:Hp)(v:V)(h:Tx×Tx):Prop:=∃ a,v=.ref a/\H a=some (.tup [tx h.1,tx h.2])
inductive HoA (H:Hp):List V->Ho->Prop
 | nil:HoA H [] []
 | cons {v:V} {h:Tx×Tx} {vs:List V} {hs:Ho}:HoV H v h->HoA H vs hs->HoA H (v::vs) (h::hs)
theorem HoA.mono {H H':Hp}{vs:List V}{hs:Ho}(h:HoA H vs hs)(g:TpS H H'):HoA H' vs hs:=by
 induction h with
 | nil=>exact .nil
 | cons h _ ih=>obtain⟨a,e,h⟩:=h;exact .cons ⟨a,e,g _ _ h⟩ ih
theorem HoA.app {H:Hp}{vs us:List V}{hs ks:Ho}(h:HoA H vs hs)(k:HoA H us ks):HoA H (vs++us) (hs++ks):=by
 induction h with
 | nil=>exact k
 | cons h _ ih=>exact .cons h ih
theorem HoA.len {H:Hp}{vs:List V}{hs:Ho}(h:HoA H vs hs):vs.length=hs.length:=by
 induction h with
 | nil=>rfl
 | cons _ _ ih=>simp [ih]
def LoV (t:Ads)(H:Hp)(lo ha:Addr):Prop:=∃ dx pa,H lo=some (.ins t.Looking dx [("kept",.non),("holes",.ref ha),("pairs",.ref pa)])
def SpV (t:Ads)(H:Hp)(sp:Addr)(s:MS)(T:Lc)(n:Nat):Prop:=∃ dx sv ta,H sp=some (.ins t.Spot dx [("state",sv),("turns",.ref ta),("many",.int n)])/\StV H sv s/\H ta=some (.lst (T.map λ(t:Nat)=>V.int t))
theorem LoV.mono {t:Ads}{H H':Hp}{lo ha:Addr}(h:LoV t H lo ha)(g:Same H H'):LoV t H' lo ha:=by obtain⟨dx,pa,e⟩:=h;exact⟨dx,pa,g _ _ e⟩
theorem SpV.mono {t:Ads}{H H':Hp}{sp:Addr}{s:MS}{T:Lc}{n:Nat}(h:SpV t H sp s T n)(g:Same H H'):SpV t H' sp s T n:=by obtain⟨dx,sv,ta,e1,e2,e3⟩:=h;exact⟨dx,sv,ta,g _ _ e1,e2.mono g,g _ _ e3⟩
def Gr (ha:Addr)(H H':Hp)(hv hv':List V):Prop:=Same (hide ha H) (hide ha H')/\H' ha=some (.lst (hv++hv'))
noncomputable def qJ (t:Ads):Sp:=λvs H Q _=>∃ (a dx:Addr) (sv:V) (ta:Addr) (n:Nat),vs=[.ref a,sv,.ref ta,.int n]/\H a=some (.ins t.Spot dx [])/\Q .non (upd H a (.ins t.Spot dx [("state",sv),("turns",.ref ta),("many",.int n)]))
noncomputable abbrev spO (t:Ads)(dx:Addr)(sv:V)(ta:Addr)(n:Nat):HO:=.ins t.Spot dx [("state",sv),("turns",.ref ta),("many",.int n)]
noncomputable def jO (t:Ads):Sp:=λvs H Q _=>∃ (a dx ta:Addr) (sv0 sv:V) (n:Nat),vs=[.ref a,sv]/\H a=some (spO t dx sv0 ta n)/\∀ r dx' H',Same H H'->H r=none->H' r=some (spO t dx' sv ta (n+1))->Q (.ref r) H'
noncomputable def jj (t:Ads):Sp:=λvs H Q _=>∃ (a dx ta:Addr) (sv0:V) (T:Lc) (n b:Nat),vs=[.ref a,.int b]/\H a=some (spO t dx sv0 ta n)/\H ta=some (.lst (T.map λ(t:Nat)=>V.int t))/\T.length<=100000/\∀ r dx' ta' H',Same H H'->H r=none->H ta' = none->H' r=some (spO t dx' sv0 ta' n)->H' ta' = some (.lst ((T++[b]).map λ(t:Nat)=>V.int t))->Q (.ref r) H'
noncomputable def jt (t:Ads):Sp:=λvs H Q _=>∃ (a dx:Addr) (kv:V),vs=[.ref a,kv]/\H a=some (.ins t.Looking dx [])/\∀ ha pa H',H' a=some (.ins t.Looking dx [("kept",kv),("holes",.ref ha),("pairs",.ref pa)])->(∀ b o,b≠a->H b=some o->H' b=some o)->H' ha=some (.lst [])->H' pa=some (.lst [])->ha≠pa->H ha=none->H pa=none->Q .non H'
instance:DecidableEq MS:=λa b=>decidable_of_iff (a.mode=b.mode/\a.word=b.word/\a.opens=b.opens/\a.talk=b.talk) (by cases a;cases b;simp)
theorem xh (a b:MS):eqD (dS a) (dS b)=decide (a=b):=by
 by_cases h:a=b
 ·rw [h,X8 (zhK _)];simp
 ·rw [uK h];exact Bool.eq_false_iff.mpr λz=>h (zhJ z)
structure Spt where
 s:MS
 T:Lc
 n:Nat
inductive Ft where
 | astray (T:Lc) (n b:Nat)
 | noplace (x:Tx) (T:Lc) (n:Nat)
 | unlike (w:List Tx) (T:Lc) (n:Nat) (T':Lc) (n':Nat)
 | left (T:Lc) (n:Nat)
noncomputable abbrev Lr:=Except Ft (Spt×Ho)
noncomputable abbrev flo (s:MS):MS:={ s with opens:=[] }
noncomputable abbrev zeY:Tx:=[115,101,97,116]
mutual
noncomputable def jP:Pc->Spt->Lr
 | .lit t,sp=>match runM sp.s t with
  | .ok r=>.ok (⟨r.1,sp.T,sp.n+1⟩,[])
  | .error b=>.error (.astray sp.T sp.n b)
 | .hole x,sp=>match xV sp.s with
  | some k=>.ok (⟨sp.s,sp.T,sp.n+1⟩,[(x,k)])
  | none=>.error (.noplace x sp.T sp.n)
 | .each x b,sp=>match qK b ⟨sp.s,sp.T++[1],sp.n⟩ with
  | .error f=>.error f
  | .ok r=>if r.1.s=sp.s then .ok (⟨sp.s,sp.T++[0],sp.n⟩,r.2) else .error (.unlike [[101,97,99,104],x] (sp.T++[0]) sp.n r.1.T r.1.n)
 | .ife x a b,sp=>match qK a ⟨sp.s,sp.T++[0],sp.n⟩ with
  | .error f=>.error f
  | .ok r=>match qK b ⟨sp.s,sp.T++[1],sp.n⟩ with
   | .error f=>.error f
   | .ok r2=>if r.1.s=r2.1.s then .ok (r.1,r.2++r2.2) else .error (.unlike [[105,102],x] r.1.T r.1.n r2.1.T r2.1.n)
 | .seat w x y b,sp=>match qK b ⟨flo sp.s,sp.T,sp.n+1⟩ with
  | .error f=>.error f
  | .ok r=>if r.1.s=flo sp.s then .ok (⟨sp.s,r.1.T,r.1.n+1⟩,r.2) else .error (.unlike [zeY,w,x,y] sp.T (sp.n+1) r.1.T r.1.n)
noncomputable def qK:List Pc->Spt->Lr
 | [],sp=>.ok (sp,[])
 | p::ps,sp=>match jP p sp with
  | .error f=>.error f
  | .ok r=>match qK ps r.1 with
   | .error f=>.error f
   | .ok r2=>.ok (r2.1,r.2++r2.2)
end
noncomputable def j8 (ps:List Pc):Except Ft Ho:=match qK ps ⟨s00,[],0⟩ with
 | .error f=>.error f
 | .ok r=>if r.1.s=s00 then .ok r.2 else .error (.left r.1.T r.1.n)
mutual
noncomputable def txP:Pc->Nat
 | .lit t=>t.length
 | .hole _=>0
 | .each _ b=>txPs b
 | .ife _ a b=>txPs a+txPs b
 | .seat _ _ _ b=>txPs b
noncomputable def txPs:List Pc->Nat
 | []=>0
 | p::ps=>txP p+txPs ps
end
def Bd (x:Spt)(e:Spt)(h:Ho)(l z:Nat):Prop:=e.s.word.length<=8/\e.s.opens.length<=x.s.opens.length+l/\e.T.length<=x.T.length+z/\e.n<=x.n+z/\h.length<=z
mutual
theorem zau:∀ (p:Pc) (x e:Spt) (h:Ho),jP p x=.ok (e,h)->x.s.word.length<=8->Bd x e h (txP p) (szP p)
 | .lit t,x,e,h,q,k=>by
  simp only [jP] at q;split at q
  ·rename_i r hr;obtain⟨s',es⟩:=r;cases q;obtain⟨a,b,_⟩:=QQ hr k;exact⟨a,b,by simp only [szP];lia,by simp only [szP];lia,by simp⟩
  ·cases q
 | .hole t,x,e,h,q,k=>by
  simp only [jP] at q;split at q
  ·cases q;exact⟨k,by simp only [txP];lia,by simp only [szP];lia,by simp only [szP];lia,by simp [szP]⟩
  ·cases q
 | .each n b,x,e,h,q,k=>by
  simp only [jP] at q;split at q
  ·cases q
  ·rename_i r hr;split at q
   ·cases q;obtain⟨a1,a2,a3,a4,a5⟩:=jz b _ r.1 r.2 hr k;exact⟨k,by simp only [txP];lia,by simp only [szP,ug,ur];lia,by simp only [szP];lia,by simp only [szP];lia⟩
   ·cases q
 | .ife n a b,x,e,h,q,k=>by
  simp only [jP] at q;split at q
  ·cases q
  ·rename_i r hr;split at q
   ·cases q
   ·rename_i r2 hr2;split at q
    ·cases q;obtain⟨a1,a2,a3,a4,a5⟩:=jz a _ r.1 r.2 hr k;obtain⟨b1,b2,b3,b4,b5⟩:=jz b _ r2.1 r2.2 hr2 k;simp only [ug,ur] at a3 b3;exact⟨a1,by simp only [txP];dsimp only at a2;lia,by simp only [szP];lia,by simp only [szP];dsimp only at a4;lia,by simp only [szP,ug];lia⟩
    ·cases q
 | .seat w m y b,x,e,h,q,k=>by
  simp only [jP] at q;split at q
  ·cases q
  ·rename_i r hr;split at q
   ·cases q;obtain⟨a1,a2,a3,a4,a5⟩:=jz b _ r.1 r.2 hr k;exact⟨k,by simp only [txP];lia,by simp only [szP];dsimp only at a3;lia,by simp only [szP];dsimp only at a4;lia,by simp only [szP];lia⟩
   ·cases q
theorem jz:∀ (ps:List Pc) (x e:Spt) (h:Ho),qK ps x=.ok (e,h)->x.s.word.length<=8->Bd x e h (txPs ps) (szPs ps)
 | [],x,e,h,q,k=>by simp only [qK] at q;cases q;exact⟨k,by omega,by omega,by omega,by simp⟩
 | p::ps,x,e,h,q,k=>by
  simp only [qK] at q;split at q
  ·cases q
  ·rename_i r hr;split at q
   ·cases q
   ·rename_i r2 hr2;cases q;obtain⟨a1,a2,a3,a4,a5⟩:=zau p _ r.1 r.2 hr k;obtain⟨b1,b2,b3,b4,b5⟩:=jz ps _ r2.1 r2.2 hr2 a1;exact⟨b1,by simp only [txPs];lia,by simp only [szPs];lia,by simp only [szPs];lia,by simp only [szPs,ug];lia⟩
end
theorem wk (p:Pc)(x:Spt):qK [p] x=jP p x:=by
 simp only [qK];split
 ·rename_i f h;exact h.symm
 ·rename_i r h;rw [h];simp
def PlV (H:Hp)(p:Addr)(T:Lc)(n:Nat):Prop:=∃ l,H p=some (.tup [.ref l,.int n])/\H l=some (.lst (T.map λ(t:Nat)=>V.int t))
theorem PlV.mono {H H':Hp}{p:Addr}{T:Lc}{n:Nat}(h:PlV H p T n)(g:Same H H'):PlV H' p T n:=by obtain⟨l,a,b⟩:=h;exact⟨l,g _ _ a,g _ _ b⟩
noncomputable def FtV (t:Ads)(H:Hp)(c:Value)(d:Addr):Ft->Prop
 | .astray T n b=>c=.ref t.Astray/\∃ p,H d=some (.xd [("place",.ref p),("at",.int b)])/\PlV H p T n
 | .noplace x T n=>c=.ref t.NoPlace/\∃ p,H d=some (.xd [("name",tx x),("place",.ref p)])/\PlV H p T n
 | .unlike w T n T' n'=>c=.ref t.Unlike/\∃ a p q,H d=some (.xd [("what",.ref a),("one",.ref p),("other",.ref q)])/\H a=some (.tup (w.map tx))/\PlV H p T n/\PlV H q T' n'
 | .left T n=>c=.ref t.LeftOpen/\∃ p,H d=some (.xd [("place",.ref p)])/\PlV H p T n
theorem FtV.mono {t:Ads}{H H':Hp}{c:Value}{d:Addr}{f:Ft}(h:FtV t H c d f)(g:Same H H'):FtV t H' c d f:=by
 cases f with
 | astray T n b=>obtain⟨e,p,a,b⟩:=h;exact⟨e,p,g _ _ a,b.mono g⟩
 | noplace x T n=>obtain⟨e,p,a,b⟩:=h;exact⟨e,p,g _ _ a,b.mono g⟩
 | unlike w T n T' n'=>obtain⟨e,a,p,q,h1,h2,h3,h4⟩:=h;exact⟨e,a,p,q,g _ _ h1,g _ _ h2,h3.mono g,h4.mono g⟩
 | left T n=>obtain⟨e,p,a,b⟩:=h;exact⟨e,p,g _ _ a,b.mono g⟩
noncomputable def fsA:List V->List (Str×V):=λxs=>(["place","at"]:Lh).zip xs
noncomputable def fsU:List V->List (Str×V):=λxs=>(["what","one","other"]:Lh).zip xs
def payA (xs:List V):Prop:=∃ p n,xs=[p,.int n]/\payT (.int n)
def payU (xs:List V):Prop:=∃ a b c,xs=[a,b,c]
theorem Y4 {P:Program}{w:World}{K:Le}{mg:La}{base:Heap}{t:Ads}(T:Txt w K mg t)(D:Ini K t.Astray "Astray.__init__" kK ["self","place","at"]):ErrN P w K mg base "Astray" t.Astray fsA payA:=by obtain⟨fI,fd,oI,i1,i2,i3,F,b⟩:=D.ex;refine⟨T.m_Astray,T.c_Astray,T.k_Astray,fI,fd,oI,_,i1,i2,i3,b,?_⟩;refine F.okN VJ (λvs H Q E h=>by obtain⟨a,xs,rfl,_,⟨p,n,rfl,_⟩,_⟩:=h;rfl) λcdv A outer s H vs Q E h=>?_;obtain⟨a,xs,rfl,ea,⟨p,n,rfl,hp⟩,q⟩:=h;exact⟨_,ju (yQ (Zh (C:=t.Astray) T.m_SealError T.u_SealError T.c_Astray (jT (pv 0) (jT (zb4 (pv 2)) ZC)))) (ju (Zi T.c_Astray T.n_Astray_place (pv 0) (pv 1)) (yP (QN T.c_Astray T.n_Astray_at (pv 0) (pv 2)))),Js ea rfl hp (by decide) q⟩
theorem Y5 {P:Program}{w:World}{K:Le}{mg:La}{base:Heap}{t:Ads}(T:Txt w K mg t)(D:Ini K t.Unlike "Unlike.__init__" kL ["self","what","one","other"]):ErrN P w K mg base "Unlike" t.Unlike fsU payU:=by obtain⟨fI,fd,oI,i1,i2,i3,F,b⟩:=D.ex;refine⟨T.m_Unlike,T.c_Unlike,T.k_Unlike,fI,fd,oI,_,i1,i2,i3,b,?_⟩;refine F.okN VL (λvs H Q E h=>by obtain⟨a,xs,rfl,_,⟨p,n,m,rfl⟩,_⟩:=h;rfl) λcdv A outer s H vs Q E h=>?_;obtain⟨a,xs,rfl,ea,⟨p,n,m,rfl⟩,q⟩:=h;exact⟨_,ju (yQ (Zh (C:=t.Unlike) T.m_SealError T.u_SealError T.c_Unlike (jT (pv 0) (jT V7 ZC)))) (ju (Zi T.c_Unlike T.n_Unlike_what (pv 0) (pv 1)) (ju (QN T.c_Unlike T.n_Unlike_one (pv 0) (pv 2)) (yP (QN T.c_Unlike T.n_Unlike_other (pv 0) (pv 3))))),YH ea (by decide) q⟩
noncomputable def z5 (t:Ads):Sp:=λvs H Q _=>∃ (a dx ta:Addr) (sv:V) (n:Nat) (T:Lc),vs=[.ref a]/\H a=some (spO t dx sv ta n)/\H ta=some (.lst (T.map λ(t:Nat)=>V.int t))/\T.length<=100000/\∀ r l H',Same H H'->H l=none->H' r=some (.tup [.ref l,.int n])->H' l=some (.lst (T.map λ(t:Nat)=>V.int t))->Q (.ref r) H'
theorem Pla.mono {H H':Hp}{a:Addr}(h:Pla H a)(g:Same H H'):Pla H' a:=by obtain⟨o,vs,e,r⟩:=h;exact⟨o,vs,g _ _ e,r⟩
theorem vh {H H0:Hp}{ha r l:Addr}{hv:List V}{T:Lc}{n:Nat}(h:H ha=some (.lst hv))(h0:H0 ha=some (.lst hv))(hl:H0 l=none)(e1:H r=some (.tup [.ref l,.int n]))(e2:H l=some (.lst (T.map λ(t:Nat)=>V.int t))):PlV (hide ha H) r T n:=by
 refine⟨l,?_,?_⟩
 ·rw [hide_ne λz=>by rw [z,h] at e1;cases e1];exact e1
 ·rw [hide_ne λz=>by rw [z,h0] at hl;cases hl];exact e2
theorem zav:∀ {l:Lc} {s:MS} {b:Nat},runM s l=.error b->b<l.length
 | [],s,b,h=>by simp only [runM] at h;cases h
 | c::l,s,b,h=>by
  simp only [runM] at h;split at h
  ·cases h;simp
  ·rename_i r hr;split at h
   ·rename_i n hn;cases h;have:=zav hn;simp only [uu];lia
   ·cases h
noncomputable def spLk (t:Ads)(one:Bool)(P:List Pc->Prop):Sp:=λvs H Q E=>∃ (lo ha sp:Addr) (pv:V) (ps:List Pc) (x:Spt) (hv:List V),vs=[.ref lo,pv,.ref sp]/\P ps/\LoV t (hide ha H) lo ha/\(if one=true then ∃ p,ps=[p]/\IsDt (hide ha H) (dP p) pv else IsDt (hide ha H) (.ls (dPs ps)) pv)/\SpV t (hide ha H) sp x.s x.T x.n/\H ha=some (.lst hv) /\ (x.s.word.length<=8/\x.s.opens.length+txPs ps<=100000/\hv.length+szPs ps<=100000/\x.T.length+szPs ps<=100000/\x.n+szPs ps<=100000) /\ (∀ e hs,qK ps x=.ok (e,hs)->∀ r hv' H',Gr ha H H' hv hv'->HoA (hide ha H') hv' hs->SpV t (hide ha H') r e.s e.T e.n->Q (.ref r) H') /\ (∀ f,qK ps x=.error f->∀ c d H',Same (hide ha H) (hide ha H')->FtV t (hide ha H') c d f->E c (some d) H')
theorem Gr.same {ha:Addr}{H H':Hp}{hv:List V}(h:H ha=some (.lst hv))(g:Same H H'):Gr ha H H' hv []:=⟨zt g,by rw [uz];exact g _ _ h⟩
theorem Gr.trans {ha:Addr}{H H1 H2:Hp}{hv h1 h2:List V}(a:Gr ha H H1 hv h1)(b:Gr ha H1 H2 (hv++h1) h2):Gr ha H H2 hv (h1++h2):=⟨a.1.trans b.1,by rw [← UH];exact b.2⟩
theorem Gr.cast {ha:Addr}{H H':Hp}{hv h1 h2:List V}(a:Gr ha H H' hv h1)(e:h1=h2):Gr ha H H' hv h2:=e ▸ a
theorem vF {ha:Addr}{H:Hp}{o:HO}:hide ha (upd H ha o)=hide ha H:=by
 funext b;by_cases z:b=ha
 ·rw [z,vb,vb]
 ·rw [hide_ne z,hide_ne z,zr z]
theorem z9 {ha r:Addr}{H:Hp}{hv:List V}(h:H ha=some (.lst hv))(hr:H r=none):r≠ha:=λz=>by rw [z,h] at hr;cases hr
theorem xi {t:Ads}{H:Hp}{ha r dx ta:Addr}{sv:V}{s:MS}{T:Lc}{n:Nat}(hr:r≠ha)(e:H r=some (spO t dx sv ta n))(hs:StV (hide ha H) sv s)(ht:hide ha H ta=some (.lst (T.map λ(t:Nat)=>V.int t))):SpV t (hide ha H) r s T n:=⟨dx,sv,ta,by rw [hide_ne hr];exact e,hs,ht⟩
theorem xW {ha:Addr}{H:Hp}{v:V}{s:MS}{xs:List V}(h:H ha=some (.lst xs))(k:StV H v s):StV (hide ha H) v s:=by
 obtain⟨p,o,e,h1,h2⟩:=k;have n1:p≠ha:=λz=>by subst z;rw [h] at h1;cases h1
 have n2:o≠ha:=λz=>by subst z;have h2:H o=_:=h2;rw [h] at h2;cases h2
 exact⟨p,o,e,by rw [hide_ne n1];exact h1,by show hide ha H o=_;rw [hide_ne n2];exact h2⟩
theorem Gr.pre {ha:Addr}{H H1 H2:Hp}{hv h:List V}(b:Gr ha H1 H2 hv h)(g:Same H H1):Gr ha H H2 hv h:=⟨(zt g).trans b.1,b.2⟩
theorem jJ {H:Hp}{v:V}{s:MS}(h:StV H v s):∃ p,v=.ref p:=by obtain⟨p,o,e,_⟩:=h;exact⟨p,e⟩
theorem VO {α:Type}(a b c:α)(l:List α):atI (a::b::c::l) 2=some c:=by rw [show(2:Int)=((2:Nat):Int) from rfl,Qk];rfl
theorem WM {α:Type}(a b c d:α)(l:List α):atI (a::b::c::d::l) 3=some d:=by rw [show(3:Int)=((3:Nat):Int) from rfl,Qk];rfl
theorem zeZ {α:Type}(a b c d e:α)(l:List α):atI (a::b::c::d::e::l) 4=some e:=by rw [show(4:Int)=((4:Nat):Int) from rfl,Qk];rfl
theorem Xh {t:Ads}{H:Hp}{x dx ta:Addr}{sv:V}{n:Nat}(hx:H x=none)(hd:H dx=none)(o1:HO)(fs:List (Str×V)):Same H (upd (upd (upd H dx o1) x (.ins t.Spot dx fs)) x (spO t dx sv ta n)):=VN hx (VN hx (zb hd))
noncomputable def nmP:Pc->Bool
 | .lit _=>true
 | .hole z=>decide (z.length<=1000)
 | .each _ b=>nmB b
 | .ife _ a b=>nmB a&&nmB b
 | .seat _ _ _ b=>nmB b
where nmB:List Pc->Bool
 | []=>true
 | p::ps=>nmP p&&nmB ps
noncomputable def fsN:List V->List (Str×V):=λxs=>(["name","place"]:Lh).zip xs
noncomputable def fsL:List V->List (Str×V):=λxs=>(["place"]:Lh).zip xs
def payN (xs:List V):Prop:=∃ n p,xs=[n,p]/\payT n
def payL (xs:List V):Prop:=∃ p,xs=[p]
theorem VP {P:Program}{w:World}{K:Le}{mg:La}{base:Heap}{t:Ads}(T:Txt w K mg t)(D:Ini K t.NoPlace "NoPlace.__init__" yE ["self","name","place"]):ErrN P w K mg base "NoPlace" t.NoPlace fsN payN:=by obtain⟨fI,fd,oI,i1,i2,i3,F,b⟩:=D.ex;refine⟨T.m_NoPlace,T.c_NoPlace,T.k_NoPlace,fI,fd,oI,_,i1,i2,i3,b,?_⟩;refine F.okN Xd (λvs H Q E h=>by obtain⟨a,xs,rfl,_,⟨p,n,rfl,_⟩,_⟩:=h;rfl) λcdv A outer s H vs Q E h=>?_;obtain⟨a,xs,rfl,ea,⟨p,n,rfl,hp⟩,q⟩:=h;exact⟨_,ju (yQ (Zh (C:=t.NoPlace) T.m_SealError T.u_SealError T.c_NoPlace (jT (pv 0) (jT (zb4 (pv 1)) ZC)))) (ju (Zi T.c_NoPlace T.n_NoPlace_name (pv 0) (pv 1)) (yP (QN T.c_NoPlace T.n_NoPlace_place (pv 0) (pv 2)))),Js ea rfl hp (by decide) q⟩
theorem Y6 {K:Le}{C:Addr}{f p:Str}{a:Addr}{v:V}{tx:Str}{H:Hp}{Q:VK}(ea:H a=some (ExN C a))(k:∀ d,H d=none->d≠a->Q .non (upd (upd H a (ExD C d a)) d (.xd [(f,v)]))) :
  tSeq (QZ (tCB (Wr C) (yi (tVar 0) (yi (tC (.str tx)) tNil)))) (X4 K C (tVar 0) (tVar 1) f) { nx:=λ_ H'=>Q .non H',rt:=Q } (L2.start ["self",p] [.ref a,v]) H:=⟨.ref a,rfl,a,.str tx,rfl,ea,v,rfl,.ref a,rfl,a,rfl,ea,λd h1 h2=>k d h1 h2⟩
theorem Xi {P:Program}{w:World}{K:Le}{mg:La}{base:Heap}{t:Ads}(T:Txt w K mg t)(D:Ini K t.LeftOpen "LeftOpen.__init__" vW ["self","place"]):ErrN P w K mg base "LeftOpen" t.LeftOpen fsL payL:=by obtain⟨fI,fd,oI,i1,i2,i3,F,b⟩:=D.ex;refine⟨T.m_LeftOpen,T.c_LeftOpen,T.k_LeftOpen,fI,fd,oI,_,i1,i2,i3,b,?_⟩;refine F.okN J6 (λvs H Q E h=>by obtain⟨a,xs,rfl,_,⟨p,rfl⟩,_⟩:=h;rfl) λcdv A outer s H vs Q E h=>?_;obtain⟨a,xs,rfl,ea,⟨p,rfl⟩,q⟩:=h;exact⟨_,ju (yQ (Zh (C:=t.LeftOpen) T.m_SealError T.u_SealError T.c_LeftOpen (jT (pv 0) (jT V7 ZC)))) (yP (Zi T.c_LeftOpen T.n_LeftOpen_place (pv 0) (pv 1))),Y6 ea q⟩
noncomputable def z8 (t:Ads):Sp:=spLk t true λps=>∃ x,ps=[.lit x]
noncomputable def qB (t:Ads):Sp:=spLk t true λps=>∃ x,ps=[.hole x]/\x.length<=1000
noncomputable def zC (t:Ads)(d:Nat):Sp:=spLk t false λps=>nmP.nmB ps=true/\dpP.dpB ps<d
noncomputable def qU (t:Ads)(d:Nat):Sp:=spLk t true λps=>nmP.nmB ps=true/\dpP.dpB ps<d
noncomputable def jk (t:Ads)(d:Nat):Sp:=spLk t true λps=>∃ n b,ps=[.each n b]/\nmP.nmB ps=true/\dpP.dpB ps<d
noncomputable def jK (t:Ads)(d:Nat):Sp:=spLk t true λps=>∃ n a b,ps=[.ife n a b]/\nmP.nmB ps=true/\dpP.dpB ps<d
noncomputable def jl (t:Ads)(d:Nat):Sp:=spLk t true λps=>∃ w n m b,ps=[.seat w n m b]/\nmP.nmB ps=true/\dpP.dpB ps<d
noncomputable def Z7:Sp:=λvs H Q _=>∃ (x:V) (s:MS),vs=[x]/\StV H x s/\∀ H',Same H H'->Q (.bl (decide (s=s00))) H'
def LkP (H:Hp)(pv:V)(ps:List Pc):Prop:=IsDt H (.ls (dPs ps)) pv/\nmP.nmB ps=true/\dpP.dpB ps<4/\szPs ps<=10000/\txPs ps<=50000
noncomputable def yb (t:Ads):Sp:=λvs H Q E=>∃ (pv:V) (ps:List Pc),vs=[pv,.non]/\LkP H pv ps/\(∀ hs,j8 ps=.ok hs->∀ r ha pa hv H',Same H H'->H' r=some (.tup [.ref ha,.ref pa])->H' ha=some (.lst hv)->HoA H' hv hs->Q (.ref r) H')/\(∀ f,j8 ps=.error f->∀ c d H',Same H H'->FtV t H' c d f->E c (some d) H')
noncomputable def Xj (t:Ads):Sp:=λvs H Q E=>∃ (pv:V) (ps:List Pc),vs=[pv]/\LkP H pv ps/\(∀ hs,j8 ps=.ok hs->∀ ha hv H',Same H H'->H' ha=some (.lst hv)->HoA H' hv hs->Q (.ref ha) H')/\(∀ f,j8 ps=.error f->∀ c d H',Same H H'->FtV t H' c d f->E c (some d) H')
theorem LkP.mono {H H':Hp}{pv:V}{ps:List Pc}(h:LkP H pv ps)(g:Same H H'):LkP H' pv ps:=⟨h.1.mono g,h.2⟩
noncomputable def zaw:Tx:=[116,111,108,100]
noncomputable def dHo (hs:Ho):List Dat:=hs.map λh=>.tp [ft h.1,ft h.2]
noncomputable def plD (T:Lc)(n:Nat):Dat:=.tp [.ls (T.map λ(t:Nat)=>.fl (.int t)),.fl (.int n)]
noncomputable def reD:Except Ft Ho->Dat
 | .ok hs=>.tp [ft zaw,.ls (dHo hs)]
 | .error (.astray T n b)=>.tp [ft [97,115,116,114,97,121],plD T n,.fl (.int b)]
 | .error (.noplace x T n)=>.tp [ft [110,111,112,108,97,99,101],ft x,plD T n]
 | .error (.unlike w T n T' n')=>.tp [ft [117,110,108,105,107,101],.tp (w.map ft),plD T n,plD T' n']
 | .error (.left T n)=>.tp [ft [108,101,102,116],plD T n]
theorem HoA.ds {H:Hp}{vs:List V}{hs:Ho}(h:HoA H vs hs):IsDs H (dHo hs) vs:=by
 induction h with
 | nil=>rfl
 | @cons v h vs hs e _ ih=>obtain⟨a,rfl,e⟩:=e;exact⟨_,_,rfl,⟨a,_,rfl,e,xt [h.1,h.2]⟩,ih⟩
theorem zax {H:Hp}:∀ T:Lc,IsDs H (T.map λ(t:Nat)=>.fl (.int t)) (T.map λ(t:Nat)=>V.int t)
 | []=>rfl
 | t::T=>⟨_,_,rfl,⟨rfl,rfl⟩,zax T⟩
theorem PlV.dt {H:Hp}{p:Addr}{T:Lc}{n:Nat}(h:PlV H p T n):IsDt H (plD T n) (.ref p):=by obtain⟨l,a,b⟩:=h;exact⟨p,_,rfl,a,_,_,rfl,⟨l,_,rfl,b,zax T⟩,_,_,rfl,⟨rfl,rfl⟩,rfl⟩
noncomputable def vv (K:Le)(t:Ads):Sp:=λvs H Q _=>∃ (ea C:Addr) (fs:List (Str×V)),vs=[.ref ea]/\L2.Got K H ea C fs/\(C=t.Astray\/C=t.Unlike\/C=t.NoPlace\/C=t.LeftOpen)/\∀ H',Same H H'->Q (.bl false) H'
noncomputable def wY (K:Le)(t:Ads):Sp:=λvs H Q _=>∃ (ea C d:Addr) (f:Ft),vs=[.ref ea]/\vn H ea C (some d)/\FtV t H (.ref C) d f/\∀ r H',Same H H'->IsDt H' (reD (.error f)) (.ref r)->Q (.ref r) H'
noncomputable def xX:Sp:=λvs H Q _=>∃ (pv:V) (ps:List Pc),vs=[pv]/\LkP H pv ps/\∀ r H',Same H H'->IsDt H' (reD (j8 ps)) (.ref r)->Q (.ref r) H'
noncomputable def zG (acc l:List MS):List MS:=l.foldl (λa z=>if z∈a then a else a++[z]) acc
mutual
noncomputable def endP:Pc->MS->List MS×Bool
 | .lit t,s=>match runM s t with
  | .ok r=>([r.1],false)
  | .error _=>([],true)
 | .hole _,s=>([s],(xV s).isNone)
 | .each _ b,s=>(s::(endB b [s]).1,(endB b [s]).2||(endB b [s]).1.any λz=>decide (z≠s))
 | .ife _ a b,s=>((endB a [s]).1++(endB b [s]).1,((endB a [s]).2||(endB b [s]).2)||((endB a [s]).1++(endB b [s]).1).any λz=>decide (some z≠((endB a [s]).1++(endB b [s]).1).head?))
 | .seat _ _ _ b,s=>([s],(endB b [flo s]).2||(endB b [flo s]).1.any λz=>decide (z≠flo s))
noncomputable def endB:List Pc->List MS->List MS×Bool
 | [],ss=>(ss,false)
 | p::ps,ss=>((endB ps (zG [] (ss.flatMap λs=>(endP p s).1))).1,(ss.any λs=>(endP p s).2)||(endB ps (zG [] (ss.flatMap λs=>(endP p s).1))).2)
end
theorem Qz {z:MS}:∀ {l:List MS},(∀ y∈l,y=z)->zG [z] l=[z]
 | [],_=>rfl
 | y::l,h=>by obtain rfl:=h y (.head _);simp only [zG,UU,u7,if_true];exact Qz λx hx=>h x (.tail _ hx)
theorem Y7 {z:MS}{l:List MS}(hl:l≠[])(h:∀ y∈l,y=z):zG [] l=[z]:=by
 cases l with
 | nil=>exact absurd rfl hl
 | cons y l=>obtain rfl:=h y (.head _);simp only [zG,UU,Gq,gk,Ud];exact Qz λx hx=>h x (.tail _ hx)
def AgP (p:Pc)(x:Spt):Prop:=match jP p x with
 | .ok r=>(endP p x.s).2=false/\(endP p x.s).1≠[]/\∀ z∈(endP p x.s).1,z=r.1.s
 | .error _=>(endP p x.s).2=true
def AgB (ps:List Pc)(x:Spt):Prop:=match qK ps x with
 | .ok r=>endB ps [x.s]=([r.1.s],false)
 | .error _=>(endB ps [x.s]).2=true
theorem kh {ps:List Pc}{x:Spt}{r:Spt×Ho}(h:AgB ps x)(e:qK ps x=.ok r):endB ps [x.s]=([r.1.s],false):=by unfold AgB at h;rw [e] at h;exact h
theorem Z8 {ps:List Pc}{x:Spt}{f:Ft}(h:AgB ps x)(e:qK ps x=.error f):(endB ps [x.s]).2=true:=by unfold AgB at h;rw [e] at h;exact h
mutual
theorem ag_P:∀ (p:Pc) (x:Spt),AgP p x
 | .lit t,x=>by
  unfold AgP;simp only [jP,endP];cases runM x.s t with
  | error b=>rfl
  | ok r=>exact⟨rfl,by simp,by simp⟩
 | .hole n,x=>by
  unfold AgP;simp only [jP,endP];cases xV x.s with
  | none=>rfl
  | some k=>exact⟨rfl,by simp,by simp⟩
 | .each n b,x=>by
  have ih:=ag_B b ⟨x.s,x.T++[1],x.n⟩;unfold AgP;simp only [jP];split
  ·rename_i r hr;split at hr
   ·cases hr
   ·rename_i r' hr';have e:=kh ih hr';dsimp only at e;split at hr
    ·rename_i hz;cases hr;simp only [endP,e,hz];exact⟨by simp,by simp,by simp⟩
    ·cases hr
  ·rename_i f hr;split at hr
   ·rename_i f' hr';have e:=Z8 ih hr';dsimp only at e;simp only [endP,e,gh]
   ·rename_i r' hr';have e:=kh ih hr';dsimp only at e;split at hr
    ·cases hr
    ·rename_i hz;simp [endP,e,hz]
 | .ife n a b,x=>by
  have iha:=ag_B a ⟨x.s,x.T++[0],x.n⟩;have ihb:=ag_B b ⟨x.s,x.T++[1],x.n⟩;unfold AgP;simp only [jP];split
  ·rename_i r hr;split at hr
   ·cases hr
   ·rename_i ra ha;have ea:=kh iha ha;dsimp only at ea;split at hr
    ·cases hr
    ·rename_i rb hb;have eb:=kh ihb hb;dsimp only at eb;split at hr
     ·rename_i hz;cases hr;simp only [endP,ea,eb,hz];exact⟨by simp,by simp,by simp⟩
     ·cases hr
  ·rename_i f hr;split at hr
   ·rename_i f' ha;have ea:=Z8 iha ha;dsimp only at ea;simp only [endP,ea,gh]
   ·rename_i ra ha;have ea:=kh iha ha;dsimp only at ea;split at hr
    ·rename_i f' hb;have eb:=Z8 ihb hb;dsimp only at eb;simp only [endP,eb,Uz,gh]
    ·rename_i rb hb;have eb:=kh ihb hb;dsimp only at eb;split at hr
     ·cases hr
     ·rename_i hz;simp [endP,ea,eb,Ne.symm hz]
 | .seat w n m b,x=>by
  have ih:=ag_B b ⟨flo x.s,x.T,x.n+1⟩;unfold AgP;simp only [jP];split
  ·rename_i r hr;split at hr
   ·cases hr
   ·rename_i r' hr';have e:=kh ih hr';dsimp only at e;split at hr
    ·rename_i hz;cases hr;simp only [endP,e,hz];exact⟨by simp,by simp,by simp⟩
    ·cases hr
  ·rename_i f hr;split at hr
   ·rename_i f' hr';have e:=Z8 ih hr';dsimp only at e;simp only [endP,e,gh]
   ·rename_i r' hr';have e:=kh ih hr';dsimp only at e;split at hr
    ·cases hr
    ·rename_i hz;simp [endP,e,hz]
theorem ag_B:∀ (ps:List Pc) (x:Spt),AgB ps x
 | [],x=>by unfold AgB;simp only [qK,endB]
 | p::ps,x=>by
  have ih:=ag_P p x;unfold AgP at ih;unfold AgB;simp only [qK];cases hp:jP p x with
  | error f=>rw [hp] at ih;simp only [endB,Ui,ih,gh]
  | ok r=>
   rw [hp] at ih;obtain⟨i1,i2,i3⟩:=ih;have ih2:=ag_B ps r.1;have e0:zG [] ([x.s].flatMap λs=>(endP p s).1)=[r.1.s]:=Y7 (by simpa using i2) (by simpa using i3);cases hb:qK ps r.1 with
   | error f=>have e:=Z8 ih2 hb;simp only [hb,endB,e0,e,Uz]
   | ok r2=>have e:=kh ih2 hb;simp only [hb,endB,e0,e,Ui,i1,List.any_nil,gu]
end
mutual
noncomputable def eP:Pc->Nat
 | .lit _=>1
 | .hole _=>1
 | .each _ b=>1+eB b
 | .ife _ a b=>eB a+eB b
 | .seat _ _ _ _=>1
noncomputable def eB:List Pc->Nat
 | []=>1
 | p::ps=>eP p * eB ps
end
mutual
noncomputable def fP:Pc->Nat
 | .lit _=>1
 | .hole _=>1
 | .each _ b=>fB b+1
 | .ife _ a b=>fB a+fB b+1
 | .seat _ _ _ b=>fB b+eB b
noncomputable def fB:List Pc->Nat
 | []=>0
 | p::ps=>fP p+eP p * fB ps
end
theorem wm:∀ (l acc:List MS),(zG acc l).length<=acc.length+l.length
 | [],acc=>by simp [zG]
 | z::l,acc=>by
  simp only [zG,UU];split
  ·have:=wm l acc;simp only [zG] at this;simp only [uu];lia
  ·have:=wm l (acc++[z]);simp only [zG,ug,ur] at this;simp only [uu];lia
theorem yc:∀ {l acc:List MS} {z:MS},z∈zG acc l->z∈acc\/z∈l
 | [],acc,z,h=>.inl (by simpa [zG] using h)
 | y::l,acc,z,h=>by
  simp only [zG,UU] at h;split at h
  ·rcases yc (l:=l) (by simpa only [zG] using h) with k | k
   ·exact .inl k
   ·exact .inr (.tail _ k)
  ·rcases yc (l:=l) (acc:=acc++[y]) (by simpa only [zG] using h) with k | k
   ·rcases UA.mp k with k | k
    ·exact .inl k
    ·exact .inr (by rw [u7.mp k];exact .head _)
   ·exact .inr (.tail _ k)
theorem Zx {f:MS->List MS}{n:Nat}:∀ {l:List MS},(∀ s,(f s).length<=n)->(l.flatMap f).length<=l.length * n
 | [],_=>by simp
 | s::l,h=>by have h1:=h s;have h2:=Zx (l:=l) h;simp only [List.flatMap_cons,ug,uu,gP,Up];omega
mutual
theorem zhL:∀ (p:Pc),1<=eP p
 | .lit t=>by simp [eP]
 | .hole t=>by simp [eP]
 | .each n b=>by simp only [eP];omega
 | .ife n a b=>by have:=Y8 a;simp only [eP];omega
 | .seat w n m b=>by simp [eP]
theorem Y8:∀ (ps:List Pc),1<=eB ps
 | []=>by simp only [eB];omega
 | p::ps=>by have h1:=Y8 ps;have h2:=zhL p;simp only [eB];exact Uw h2 h1
end
mutual
theorem QR:∀ (p:Pc) (s:MS),(endP p s).1.length<=eP p
 | .lit t,s=>by simp only [endP,eP];cases runM s t<;>simp
 | .hole n,s=>by simp [endP,eP]
 | .each n b,s=>by have:=j9 b [s];simp only [ur,Up] at this;simp only [endP,eP,uu];omega
 | .ife n a b,s=>by have h1:=j9 a [s];have h2:=j9 b [s];simp only [ur,Up] at h1 h2;simp only [endP,eP,ug];omega
 | .seat w n m b,s=>by simp [endP,eP]
theorem j9:∀ (ps:List Pc) (ss:List MS),(endB ps ss).1.length<=ss.length * eB ps
 | [],ss=>by simp [endB,eB]
 | p::ps,ss=>by have h1:=j9 ps (zG [] (ss.flatMap λs=>(endP p s).1));have h2:=wm (ss.flatMap λs=>(endP p s).1) [];have h3:=Zx (f:=λs=>(endP p s).1) (n:=eP p) (l:=ss) λs=>QR p s;simp only [U9,gJ] at h2;simp only [endB,eB];refine ux h1 ?_;rw [← U6];exact u9 _ (ux h2 h3)
end
def SB (s:MS)(n:Nat):Prop:=s.word.length<=8/\s.opens.length<=n
theorem SB.mono {s:MS}{n m:Nat}(h:SB s n)(k:n<=m):SB s m:=⟨h.1,ux h.2 k⟩
mutual
theorem zcV:∀ (p:Pc) (s:MS) (n:Nat),SB s n->∀ z∈(endP p s).1,SB z (n+txP p)
 | .lit t,s,n,h,z,hz=>by
  simp only [endP] at hz;cases hr:runM s t with
  | error b=>rw [hr] at hz;cases hz
  | ok r=>rw [hr] at hz;obtain rfl:=u7.mp hz;obtain⟨a,b,_⟩:=QQ hr h.1;exact⟨a,by have:=h.2;simp only [txP];omega⟩
 | .hole x,s,n,h,z,hz=>by simp only [endP] at hz;rw [u7.mp hz];exact h.mono (by omega)
 | .each x b,s,n,h,z,hz=>by
  simp only [endP] at hz;rcases uy.mp hz with rfl | hz
  ·exact h.mono (by lia)
  ·exact QU b [s] n (by simpa using h) z hz
 | .ife x a b,s,n,h,z,hz=>by
  simp only [endP] at hz;rcases UA.mp hz with hz | hz
  ·exact(QU a [s] n (by simpa using h) z hz).mono (by simp only [txP];lia)
  ·exact(QU b [s] n (by simpa using h) z hz).mono (by simp only [txP];lia)
 | .seat w x m b,s,n,h,z,hz=>by simp only [endP] at hz;rw [u7.mp hz];exact h.mono (by omega)
theorem QU:∀ (ps:List Pc) (ss:List MS) (n:Nat),(∀ s∈ss,SB s n)->∀ z∈(endB ps ss).1,SB z (n+txPs ps)
 | [],ss,n,h,z,hz=>by simp only [endB] at hz;exact(h z hz).mono (by omega)
 | p::ps,ss,n,h,z,hz=>by
  simp only [endB] at hz;refine(QU ps _ (n+txP p) (λs hs=>?_) z hz).mono (by simp only [txPs];lia);rcases yc hs with k | k
  ·cases k
  ·obtain⟨y,hy,hk⟩:=List.mem_flatMap.mp k;exact zcV p y n (h y hy) s hk
end
theorem VQ {K:Le}{a:Addr}{xs:List V}{α:Type}{ms:List α}{tt:TT}{σ:L2.St}{H:Hp}{Q:VK}(f:α->Bool)(hl:xs.length<=sizeLine)(hm:xs.length=ms.length) (ha:H a=some (.lst xs)) (ht:∀ (i:Nat) v m,xs[i]? = some v->ms[i]? = some m->∀ H1,Same H H1->∀ R:Bool->Hp->Prop,R (f m) H1->tt (some v::σ) H1 R) (hq:∀ D H2,H D=none->Same H H2->H2 D=some (.lst (((xs.zip ms).filter λz=>f z.2).map λz=>z.1))->Q (.ref D) H2):WW (Itl K a) tt (tVar 0) σ H Q:=by
 intro D hD;refine⟨λi m ys H'=>m=xs.length - i/\i<=xs.length/\ys=((((xs.zip ms).take i).filter λz=>f z.2).map λz=>z.1)/\Same H H'/\H' D=some (.lst ys),⟨xs.length,by simp,Uo _,by simp,zb hD,zd⟩,?_⟩;rintro i m ys H' ⟨rfl,hi,hy,sm,hDl⟩;refine⟨hDl,?_⟩;have sq:SqL K H' a xs:=SqL.of (sm _ _ ha);by_cases hlt:i<xs.length
 ·refine .inr ⟨⟨xs,xs[i],sq,by simp [hlt]⟩,λv H2 y=>?_⟩;obtain⟨rfl,y⟩:=y;have hc:=y xs sq;have hlm:i<ms.length:=by lia
  have hz:(xs.zip ms)[i]? = some (v,ms[i]):=by rw [GO];exact⟨hc,uw hlm⟩
  have hyl:ys.length<=i:=by rw [hy,uS];refine ux (List.length_filter_le _ _) ?_;rw [Ul];exact Nat.min_le_left _ _
  have htk:(xs.zip ms).take (i+1)=(xs.zip ms).take i++[(v,ms[i])]:=by rw [UI,hz];rfl
  refine ht i v ms[i] hc (uw hlm) H2 sm _ ?_;cases hf:f ms[i] with
  | true=>
   rw [uf rfl];refine⟨_,rfl,hDl,by lia,xs.length - (i+1),by lia,rfl,hlt,?_,?_,zd⟩
   ·rw [htk,gq,UD,← hy];simp [hf]
   ·intro b o e;rw [zr (zE e hD)];exact sm b o e
  | false=>rw [ub (by decide)];refine⟨xs.length - (i+1),by omega,rfl,hlt,?_,sm,hDl⟩;rw [htk,gq,UD,← hy];simp [hf]
 ·have e:i=xs.length:=by lia
  subst e;refine .inl ⟨⟨xs,sq,uk _⟩,hq D H' hD sm ?_⟩;rw [hDl,hy,gG (by rw [List.length_zip];lia)]
theorem Y9:∀ {ps:List Pc} {p:Pc},p∈ps->dpP p<=dpP.dpB ps
 | _::_,_,.head _=>by simp only [dpP.dpB];omega
 | _::ps,_,.tail _ h=>by have:=Y9 h;simp only [dpP.dpB];omega
inductive StA (H:Hp):List V->List MS->Prop
 | nil:StA H [] []
 | cons {v:V} {s:MS} {vs:List V} {ss:List MS}:StV H v s->StA H vs ss->StA H (v::vs) (s::ss)
theorem StA.mono {H H':Hp}{vs:List V}{ss:List MS}(h:StA H vs ss)(g:Same H H'):StA H' vs ss:=by
 induction h with
 | nil=>exact .nil
 | cons h _ ih=>exact .cons (h.mono g) ih
theorem StA.len {H:Hp}{vs:List V}{ss:List MS}(h:StA H vs ss):vs.length=ss.length:=by
 induction h with
 | nil=>rfl
 | cons _ _ ih=>simp [ih]
theorem StA.app {H:Hp}{vs us:List V}{ss ts:List MS}(h:StA H vs ss)(k:StA H us ts):StA H (vs++us) (ss++ts):=by
 induction h with
 | nil=>exact k
 | cons h _ ih=>exact .cons h ih
theorem StA.get {H:Hp}{vs:List V}{ss:List MS}(h:StA H vs ss):∀ {i:Nat} {v:V},vs[i]? = some v->∃ s,ss[i]? = some s/\StV H v s:=by
 induction h with
 | nil=>intro i v e;simp at e
 | cons h _ ih=>
  intro i v e;cases i with
  | zero=>cases e;exact⟨_,rfl,h⟩
  | succ i=>exact ih (by simpa using e)
theorem StA.ds {H:Hp}{vs:List V}{ss:List MS}(h:StA H vs ss):IsDs H (ss.map dS) vs:=by
 induction h with
 | nil=>rfl
 | cons h _ ih=>exact⟨_,_,rfl,h.dat,ih⟩
theorem StA.refs {H:Hp}{vs:List V}{ss:List MS}(h:StA H vs ss):∀ v∈vs,∃ a,v=.ref a:=by
 induction h with
 | nil=>intro v h;cases h
 | cons h _ ih=>
  intro v hv;rcases uy.mp hv with rfl | hv
  ·exact jJ h
  ·exact ih v hv
noncomputable def jm:Sp:=λvs H Q _=>∃ (x:V) (s:MS) (l:Tx),vs=[x,.str (S l)]/\StV H x s/\s.word.length<=8/\s.opens.length+l.length<=100000/\∀ v H',Same H H'->(∀ r,runM s l=.ok r->StV H' v r.1)->(∀ b,runM s l=.error b->v=.non)->Q v H'
noncomputable def qF:Sp:=λvs H Q _=>∃ (x:V) (s:MS),vs=[x]/\StV H x s/\∀ H',Same H H'->Q (.bl (xV s).isSome) H'
noncomputable def wo (d:Nat):Sp:=λvs H Q _=>∃ (fa:Addr) (pv x:V) (p:Pc) (s:MS) (n:Nat) (fs:List V),vs=[pv,x,.ref fa]/\dpP p<d/\IsDt (hide fa H) (dP p) pv/\StV (hide fa H) x s/\SB s n/\n+txP p<=100000/\H fa=some (.lst fs)/\fs.length+fP p<=100000/\eP p<=100000 /\ ∀ r us gs H',Gr fa H H' fs gs->gs.length<=fP p->(gs=[]↔(endP p s).2=false)->H r=none->hide fa H' r=some (.lst us)->StA (hide fa H') us (endP p s).1->Q (.ref r) H'
noncomputable def z6 (d:Nat):Sp:=λvs H Q _=>∃ (fa:Addr) (pv x:V) (ps:List Pc) (s:MS) (n:Nat) (fs:List V),vs=[pv,x,.ref fa]/\dpP.dpB ps<d/\IsDt (hide fa H) (.ls (dPs ps)) pv/\StV (hide fa H) x s/\SB s n/\n+txPs ps<=100000/\H fa=some (.lst fs)/\fs.length+fB ps<=100000/\eB ps<=100000 /\ ∀ r us gs H',Gr fa H H' fs gs->gs.length<=fB ps->(gs=[]↔(endB ps [s]).2=false)->H r=none->hide fa H' r=some (.lst us)->StA (hide fa H') us (endB ps [s]).1->Q (.ref r) H'
theorem Zy {f:MS->Bool}:∀ {vs:List V} {ss:List MS},vs.length=ss.length->(((vs.zip ss).filter λz=>f z.2).map λz=>z.1).isEmpty = !(ss.any f)
 | [],[],_=>rfl
 | [],_::_,h=>by simp at h
 | _::_,[],h=>by simp at h
 | v::vs,s::ss,h=>by
  have ih:=Zy (f:=f) (vs:=vs) (ss:=ss) (by simpa using h);simp only [List.zip_cons_cons,Gs,Ui];cases f s with
  | true=>simp
  | false=>simpa using ih
theorem Gr.len0 {fa:Addr}{H H':Hp}{fs gs:List V}(g:Gr fa H H' fs gs):H' fa=some (.lst (fs++gs)):=g.2
theorem Gr.put {fa:Addr}{H H1:Hp}{fs gs:List V}{v:V}(g:Gr fa H H1 fs gs):Gr fa H (upd H1 fa (.lst (fs++gs++[v]))) fs (gs++[v]):=⟨by rw [vF];exact g.1,by rw [zd,UH]⟩
theorem Gr.then {fa:Addr}{H H1 H2:Hp}{fs gs:List V}(g:Gr fa H H1 fs gs)(k:Same H1 H2):Gr fa H H2 fs gs:=⟨g.1.trans (zt k),k _ _ g.2⟩
theorem xj {fa p:Addr}{H:Hp}{xs:List V}{o:HO}(h:H fa=some (.lst xs))(hp:H p=none):hide fa (upd H p o) p=some o:=by
 have hn:p≠fa:=λz=>by rw [z,h] at hp;cases hp
 rw [hide_ne hn,zd]
theorem wQ {fa p:Addr}{H H':Hp}{xs ys:List V}(g:Same (hide fa H) (hide fa H'))(h:H fa=some (.lst xs))(h':H' fa=some (.lst ys))(hp:H' p=none):H p=none:=by
 cases e:H p with
 | none=>rfl
 | some o=>
  have hn:p≠fa:=λz=>by rw [z,h'] at hp;cases hp
  have:=zh _ _ (g p o (by rw [hide_ne hn];exact e));rw [hp] at this;cases this
theorem k9 (acc a b:List MS):zG acc (a++b)=zG (zG acc a) b:=by simp only [zG,List.foldl_append]
theorem zbo {acc l:List MS}{m:MS}(h:m∈zG acc l):zG acc (l++[m])=zG acc l:=by rw [k9];simp only [zG,UU,List.foldl_nil] at h ⊢;rw [uf h]
theorem VR {acc l:List MS}{m:MS}(h:m∉zG acc l):zG acc (l++[m])=zG acc l++[m]:=by rw [k9];simp only [zG,UU,List.foldl_nil] at h ⊢;rw [ub h]
theorem zhM (l:List MS)(m:MS):((l.map dS).any λe=>eqD e (dS m))=decide (m∈l):=by
 induction l with
 | nil=>simp
 | cons x l ih=>
  simp only [uD,Ui,ih,xh,uy];by_cases h:m=x
  ·simp [h]
  ·simp [h,Ne.symm h]
theorem zcW {a b:Addr}{H:Hp}{o:HO}:hide a (hide b (upd H a o))=hide a (hide b H):=by
 funext x;by_cases z:x=a
 ·rw [z,vb,vb]
 ·rw [hide_ne z,hide_ne z];by_cases y:x=b
  ·rw [y,vb,vb]
  ·rw [hide_ne y,hide_ne y,zr z]
theorem yW {a b:Addr}{H:Hp}:hide a (hide b H)=hide b (hide a H):=by funext x;by_cases z:x=a<;>by_cases y:x=b<;>simp [hide,z,y]
theorem zcX {a:Addr}{H:Hp}(h:H a=none):Same H (hide a H):=λb o e=>by rw [hide_ne λz=>by rw [z,h] at e;cases e];exact e
theorem zeC (l:List MS):∀ e∈l.map dS,depD e<=50:=λe he=>by obtain⟨s,_,rfl⟩:=gI.mp he;exact dep_S s
theorem Ka:∀ a b:List Pc,eB (a++b)=eB a * eB b
 | [],b=>by simp [eB]
 | p::a,b=>by simp only [u4,eB,Ka a b,U6]
theorem Kb:∀ a b:List Pc,fB (a++b)=fB a+eB a * fB b
 | [],b=>by simp [fB,eB]
 | p::a,b=>by simp only [u4,fB,eB,Kb a b,Gw,U6,Nat.add_assoc]
theorem Kc:∀ a b:List Pc,dpP.dpB (a++b)=max (dpP.dpB a) (dpP.dpB b)
 | [],b=>by simp only [Ud,dpP.dpB];omega
 | p::a,b=>by simp only [u4,dpP.dpB,Kc a b];omega
theorem JO:∀ a b:List Pc,txPs (a++b)=txPs a+txPs b
 | [],b=>by simp [txPs]
 | p::a,b=>by simp only [u4,txPs,JO a b];omega
theorem Xk:∀ a b:List Pc,nmP.nmB (a++b)=(nmP.nmB a&&nmP.nmB b)
 | [],b=>by simp [nmP.nmB]
 | p::a,b=>by simp only [u4,nmP.nmB,Xk a b,Bool.and_assoc]
noncomputable def lE (e:Nat):Nat:=e * e * e
noncomputable def ie:Nat->Nat
 | 0=>1
 | d+1=>2 * lE (ie d)
noncomputable def iF:Nat->Nat
 | 0=>1
 | d+1=>2 * (iF d * (1+ie d+ie d * ie d)+lE (ie d))+lE (ie d)+1
noncomputable def iS:Nat->Nat
 | 0=>1
 | d+1=>2+2 * (3 * iS d+1)
noncomputable def iX:Nat->Nat
 | 0=>10
 | d+1=>2 * (3 * iX d+10)
structure IB (d:Nat)(p:Pc):Prop where
 dp:dpP p<=d
 nm:nmP p=true
 sz:szP p<=iS d
 tx:txP p<=iX d
 e:eP p<=ie d
 f:fP p<=iF d
noncomputable def pwE (e:Nat):Nat->Nat
 | 0=>1
 | k+1=>pwE e k * e
noncomputable def smE (e:Nat):Nat->Nat
 | 0=>0
 | k+1=>smE e k+pwE e k
structure LB (d k:Nat)(ps:List Pc):Prop where
 dp:dpP.dpB ps<=d
 nm:nmP.nmB ps=true
 sz:szPs ps<=k * iS d
 tx:txPs ps<=k * iX d
 e:eB ps<=pwE (ie d) k
 f:fB ps<=iF d * smE (ie d) k
structure EB (d:Nat)(ps:List Pc):Prop where
 dp:dpP.dpB ps<=d
 nm:nmP.nmB ps=true
 sz:szPs ps<=3 * iS d+1
 tx:txPs ps<=3 * iX d+10
 e:eB ps<=lE (ie d)
 f:fB ps<=iF d * (1+ie d+ie d * ie d)+lE (ie d)
theorem Z9:∀ d,1<=ie d
 | 0=>by simp [ie]
 | d+1=>by
  have h:=Z9 d;have h2:1<=lE (ie d):=by unfold lE;exact Uw (Uw h h) h
  simp only [ie];lia
theorem yM (d:Nat):LB d 0 []:=⟨by simp [dpP.dpB],rfl,by simp [szPs],by simp [txPs],by simp [eB,pwE],by simp [fB]⟩
theorem LB.snoc {d k:Nat}{ps:List Pc}{p:Pc}(h:LB d k ps)(i:IB d p):LB d (k+1) (ps++[p]):=by
 refine⟨by rw [Kc];have:=h.dp;have:=i.dp;simp only [dpP.dpB];lia,by rw [Xk,h.nm];simp only [nmP.nmB,i.nm];rfl,?_,?_,?_,?_⟩
 ·have:=h.sz;have:=i.sz;rw [JN,gP];simp only [szPs];lia
 ·have:=h.tx;have:=i.tx;rw [JO,gP];simp only [txPs];lia
 ·rw [Ka];simp only [eB,Nat.mul_one,pwE];exact Uw h.e i.e
 ·rw [Kb];simp only [fB,eB,Nat.mul_zero,Nat.add_zero,smE,Gw];have h1:=h.f;have h2:eB ps * fP p<=iF d * pwE (ie d) k:=by rw [Nat.mul_comm (iF d)];exact Uw h.e i.f
  lia
theorem zay (e:Nat)(he:1<=e):∀ k,k<=3->pwE e k<=lE e/\smE e k<=1+e+e * e:=by
 intro k hk;have h2:1<=e * e:=Uw he he;have h3:e * e<=e * e * e:=gC _ he;have h4:e<=e * e:=gC _ he
 match k,hk with
 | 0,_=>simp only [pwE,smE,lE];omega
 | 1,_=>simp only [pwE,smE,lE,Up];omega
 | 2,_=>simp only [pwE,smE,lE,Up];omega
 | 3,_=>simp only [pwE,smE,lE,Up];omega
theorem LB.eb {d k:Nat}{ps:List Pc}(h:LB d k ps)(hk:k<=3):EB d ps:=by
 obtain⟨a,b⟩:=zay (ie d) (Z9 d) k hk;refine⟨h.dp,h.nm,?_,?_,ux h.e a,?_⟩
 ·have:=h.sz;have:=u9 (iS d) hk;lia
 ·have:=h.tx;have:=u9 (iX d) hk;lia
 ·have:=h.f;have:=Nat.mul_le_mul_left (iF d) b;lia
noncomputable abbrev Lt (l:Tx):List Pc:=if l=[] then [] else [.lit l]
theorem LB.lt {d k:Nat}{ps:List Pc}(h:LB d k ps)(hk:k<=3){l:Tx}(hl:l.length<=10):EB d (ps++Lt l):=by
 by_cases h0:l=[]
 ·rw [show Lt l=[] from uf h0,uz];exact h.eb hk
 rw [show Lt l=[.lit l] from ub h0];obtain⟨a,b⟩:=zay (ie d) (Z9 d) k hk;refine⟨by rw [Kc];have:=h.dp;simp only [dpP.dpB,dpP];lia,by rw [Xk,h.nm];rfl,?_,?_,?_,?_⟩
 ·have:=h.sz;have:=u9 (iS d) hk;rw [JN];simp only [szPs,szP];lia
 ·have:=h.tx;have:=u9 (iX d) hk;rw [JO];simp only [txPs,txP];lia
 ·rw [Ka];simp only [eB,eP,Nat.mul_one];exact ux h.e a
 ·rw [Kb];simp only [fB,eB,eP,fP,Nat.mul_one,Nat.mul_zero,Nat.add_zero];have:=h.f;have:=h.e;have:=Nat.mul_le_mul_left (iF d) b;lia
theorem zhN:∀ d,10<=iX d
 | 0=>by simp [iX]
 | d+1=>by simp only [iX];omega
theorem zcY:∀ d,1<=iF d
 | 0=>by simp [iF]
 | d+1=>by simp only [iF];omega
theorem zcZ:∀ d,1<=iS d
 | 0=>by simp [iS]
 | d+1=>by simp only [iS];omega
theorem Qa {d:Nat}{l:Tx}(h:l.length<=10):IB d (.lit l):=⟨by simp [dpP],rfl,by have:=zcZ d;simp only [szP];lia,by have:=zhN d;simp only [txP];lia,by have:=Z9 d;simp only [eP];lia,by have:=zcY d;simp only [fP];lia⟩
theorem zaz {d:Nat}{l:Tx}(h:l.length<=10):IB d (.hole l):=⟨by simp [dpP],by simp only [nmP];exact uQ (by lia),by have:=zcZ d;simp only [szP];lia,by simp only [txP];lia,by have:=Z9 d;simp only [eP];lia,by have:=zcY d;simp only [fP];lia⟩
theorem Kd (d:Nat):1<=lE (ie d):=by have h:=Z9 d;unfold lE;exact Uw (Uw h h) h
theorem zaA {d:Nat}{x:Tx}{b:List Pc}(h:EB d b):IB (d+1) (.each x b):=by have:=Kd d;obtain⟨h1,h2,h3,h4,h5,h6⟩:=h;exact⟨by simp only [dpP];lia,by simp only [nmP];exact h2,by simp only [szP,iS];lia,by simp only [txP,iX];lia,by simp only [eP,ie];lia,by simp only [fP,iF];lia⟩
theorem zc0 {d:Nat}{x:Tx}{a b:List Pc}(h:EB d a)(k:EB d b):IB (d+1) (.ife x a b):=by have:=Kd d;obtain⟨h1,h2,h3,h4,h5,h6⟩:=h;obtain⟨k1,k2,k3,k4,k5,k6⟩:=k;exact⟨by simp only [dpP];lia,by simp only [nmP,h2,k2];rfl,by simp only [szP,iS];lia,by simp only [txP,iX];lia,by simp only [eP,ie];lia,by simp only [fP,iF];lia⟩
theorem zeD {d:Nat}{w x y:Tx}{b:List Pc}(h:EB d b):IB (d+1) (.seat w x y b):=by have:=Kd d;obtain⟨h1,h2,h3,h4,h5,h6⟩:=h;exact⟨by simp only [dpP];lia,by simp only [nmP];exact h2,by simp only [szP,iS];lia,by simp only [txP,iX];lia,by simp only [eP,ie];lia,by simp only [fP,iF];lia⟩
theorem EB.small {d:Nat}{ps:List Pc}(h:EB d ps)(hd:d<=2):dpP.dpB ps<3/\szPs ps<=10000/\txPs ps<=50000/\eB ps<=50000/\fB ps<=50000:=by
 obtain⟨h1,h2,h3,h4,h5,h6⟩:=h;have key:∀ d:Fin 3,3 * iS d.1+1<=10000/\3 * iX d.1+10<=50000/\lE (ie d.1)<=50000/\iF d.1 * (1+ie d.1+ie d.1 * ie d.1)+lE (ie d.1)<=50000:=by decide
 obtain⟨a,b,c,e⟩:=key ⟨d,by lia⟩;dsimp only at a b c e;exact⟨by lia,by lia,by lia,by lia,by lia⟩
noncomputable def vi:List Tx:=[[120],[60,97,62],[60,47,97,62],[60,97],[62],[32,98,58],[99],[32,98,61,34],[34],[38,48,53,59],[38],[32,98,40],[44],[41],[47,62],[60,97,47,62],[32,98,33,34],[39],[39,34],[60,97,115,105,115,62],[60,47,97,115,105,115,62],[60,47],[97,62],[32],[92],[126,48,53],[60,97,32,98,61,34,99,34],[62,60,97],[60,47,97,62,60,97,62]]
theorem yN:∀ l∈vi,l.length<=10:=by decide
def StN (H:Hp)(x:V)(n:Nat):Prop:=x=.non\/∃ s,StV H x s/\SB s n
theorem StN.mono {H H':Hp}{x:V}{n:Nat}(h:StN H x n)(g:Same H H'):StN H' x n:=by
 rcases h with h | ⟨s,h,k⟩
 ·exact .inl h
 ·exact .inr ⟨s,h.mono g,k⟩
theorem StN.up {H:Hp}{x:V}{n m:Nat}(h:StN H x n)(k:n<=m):StN H x m:=by
 rcases h with h | ⟨s,h,l⟩
 ·exact .inl h
 ·exact .inr ⟨s,h,l.mono k⟩
noncomputable def yd:Sp:=λvs H Q _=>vs=[]/\∀ r H',Same H H'->H' r=some (.lst (vi.map tx))->Q (.ref r) H'
noncomputable def jD:Sp:=λvs H Q _=>∃ (c:Int) (x:V) (n:Nat),vs=[.int c,x]/\StN H x n/\n<=1000/\∀ l H',l∈vi->Same H H'->Q (.str (S l)) H'
noncomputable def nw (H H':Hp):Hp:=λb=>if H b=none then H' b else none
noncomputable def ov (Hs H H':Hp):Hp:=λb=>if H b=none then H' b else Hs b
theorem zc1 {H H':Hp}:Same (nw H H') H':=λb o h=>by unfold nw at h;split at h;exact h;cases h
theorem yO {H H':Hp}{b:Addr}(h:H b=none):nw H H' b=H' b:=uf h
theorem JP {Hs H H':Hp}{b:Addr}(h:H b=none):ov Hs H H' b=H' b:=uf h
theorem Ke {Hs H H':Hp}(g:Same Hs H):Same Hs (ov Hs H H'):=λb o h=>by unfold ov;rw [ub (by rw [g _ _ h];intro z;cases z)];exact h
theorem JQ {H H1 H2:Hp}(g:Same H1 H2):Same (nw H H1) (nw H H2):=λb o h=>by
 unfold nw at h ⊢;split at h
 ·rename_i z;rw [uf z];exact g _ _ h
 ·cases h
noncomputable def xk:Sp:=λvs H Q _=>∃ (Hs:Hp) (pv:V) (ps:List Pc) (c:Int) (x:V) (d k n:Nat),vs=[pv,.int c,x]/\Same Hs H/\IsDt Hs (.ls (dPs ps)) pv/\LB d k ps/\k<=3/\d<=2/\StN H x n/\n<=1000/\∀ v ps' H',Same H H'->IsDt (ov Hs H H') (.ls (dPs ps')) v->EB d ps'->Q v H'
noncomputable def xY:Sp:=λvs H Q _=>∃ (pv:V) (ps:List Pc) (k:Nat),vs=[pv]/\IsDt H (.ls (dPs ps)) pv/\LB 2 k ps/\k<=3/\∀ v ps' H',Same H H'->IsDt H' (.ls (dPs ps')) v->EB 2 ps'->Q v H'
def Rm (ra:Addr)(H H':Hp):Prop:=Same (hide ra H) (hide ra H')/\∃ m:Int,H' ra=some (.lst [.int m])
noncomputable def jn (d:Nat):Sp:=λvs H Q _=>∃ (c:Int) (x:V) (ra:Addr) (m:Int) (n:Nat),vs=[.int c,x,.int d,.ref ra]/\H ra=some (.lst [.int m])/\StN (hide ra H) x n/\n+100 * d<=300/\d<=2/\∀ r ps k H',Rm ra H H'->IsDt (nw H H') (.ls (dPs ps)) (.ref r)->LB d k ps->k<=3->Q (.ref r) H'
noncomputable def qL (d:Nat):Sp:=λvs H Q _=>∃ (c:Int) (w:Nat) (x:V) (ra:Addr) (m:Int) (n:Nat),vs=[.int c,.int w,x,.int (d+1:Nat),.ref ra]/\w<8/\H ra=some (.lst [.int m])/\StN (hide ra H) x n/\n+100 * d<=300/\d<=1/\∀ r p H',Rm ra H H'->IsDt (nw H H') (dP p) (.ref r)->IB (d+1) p->Q (.ref r) H'
noncomputable def vw:Sp:=λvs H Q _=>∃ (pv:V) (ps:List Pc),vs=[pv]/\IsDt H (.ls (dPs ps)) pv/\EB 2 ps/\∀ H',Same H H'->Q (.bl true) H'
theorem Rm.trans {ra:Addr}{H H1 H2:Hp}(a:Rm ra H H1)(b:Rm ra H1 H2):Rm ra H H2:=⟨a.1.trans b.1,b.2⟩
theorem Rm.same {ra:Addr}{H H':Hp}{m:Int}(h:H ra=some (.lst [.int m]))(g:Same H H'):Rm ra H H':=⟨zt g,m,g _ _ h⟩
theorem Rm.fresh {ra p:Addr}{H H':Hp}{m:Int}(g:Rm ra H H')(h:H ra=some (.lst [.int m]))(hp:H' p=none):H p=none:=by obtain⟨g1,m',h'⟩:=g;exact wQ g1 h h' hp
noncomputable def lz (a:Tx)(p:Addr):List V:=if a=[] then [] else [V.ref p]
theorem zc2 (a:Tx)(p:Addr):(lz a p).length<=1:=by unfold lz;split<;>simp
theorem mulL (a:Tx)(p:Addr):(List.replicate (((Lt a).length:Nat):Int).toNat [V.ref p]).flatten=lz a p:=by
 unfold lz;by_cases h:a=[]
 ·rw [show Lt a=[] from uf h,uf h];rfl
 ·rw [show Lt a=[.lit a] from ub h,ub h];rfl
theorem zc3 {H:Hp}{a:Tx}{p:Addr}(h:H p=some (.tup [tx [108,105,116],tx a])):IsDs H (dPs (Lt a)) (lz a p):=by
 unfold lz;by_cases h1:a=[]
 ·rw [show Lt a=[] from uf h1,uf h1];simp only [dPs];rfl
 ·rw [show Lt a=[.lit a] from ub h1,ub h1];exact ya h
theorem zc4 (a:Tx):(Lt a).length<=1:=by by_cases h:a=[]<;>simp [Lt,h]
theorem zc5 (l:List MS):depD (.ls (l.map dS))<=50:=by
 have:xr (l.map dS)<=2:=by
  induction l with
  | nil=>simp [xr]
  | cons s l ih=>have:=L2.dep_S s;simp only [uD,xr];omega
 simp only [depD];lia
theorem ze0 {ra:Addr}{H H1 H2:Hp}{m:Int}(h:H ra=some (.lst [.int m]))(g:Rm ra H H1)(k:Same H1 H2):Same (ov (nw H H1) H1 H2) (nw H H2):=λb o e=>by
 unfold ov at e;split at e
 ·rename_i z;have hb:H b=none:=g.fresh h z;rw [yO hb];exact e
 ·exact JQ k _ _ e
theorem ze1 {ra:Addr}{H H1 H2:Hp}(g:Rm ra H1 H2)(h:H ra≠none):Same (nw H H1) (nw H H2):=λb o e=>by
 unfold nw at e ⊢;split at e
 ·rename_i z;rw [uf z];have hb:b≠ra:=λy=>by rw [y] at z;exact h z
  exact zh _ _ (g.1 _ _ (by rw [hide_ne hb];exact e))
 ·cases e
theorem ze2 {ra:Addr}{H H1 H2:Hp}{m:Int}(h:H ra=some (.lst [.int m]))(g:Rm ra H H1):Same (nw H1 H2) (nw H H2):=λb o e=>by
 unfold nw at e;split at e
 ·rename_i z;rw [yO (g.fresh h z)];exact e
 ·cases e
theorem Xl:∀ ps:List Pc,ps.length<=szPs ps
 | []=>by simp
 | p::ps=>by
  have h1:=Xl ps;have h2:1<=szP p:=by cases p<;>simp only [szP]<;>lia
  simp only [uu,szPs];lia
noncomputable def JR (K:Le):Sp:=λvs H Q _=>∃ (a:Addr) (ns:List Int),vs=[.ref a]/\SqL K H a (ns.map V.int)/\ns.length<=63/\∀ H',Q (.bl true) H'
local macro_rules | `(tactic| walk_at "rd") => do
  let l ← ("L2.start Wx Qq Jt y8 Jv Jw zcF Wy zcG Jx Jy Jz Vz zeV Zs Wz WA WB WC JB WD VB WE zao WG WH WI VC Qs Qt JE WJ WK JF Z1 zap zaq zcL zeW VG WL yg Zt JI y9 xK xM wM j3 wZ w6 vc xb yx Qu zcN Qv JK Zv ka yA Qw JL yC kb kc Qx kg xS jC Qy vV zeX kM xg yL j7 yF yG Xe zR wz qi wO yH vE Xf jy kN kP kQ kR yI kS Z5 kT JM kU kW kX Z6 vX vY yJ kY kZ yK k8 Zw xU QP Y2 Z7 vZ qJ z5 jO jj jt zC qU z8 qB jk jK jl yb Xj v8 qO vv xX wY yd jm jD jn qL xk xY qF wo z6 vw JR tLC iStr zbz zjT KN zd0 za3 X0 uH qb yl Int.natCast_inj Qk tSeq tIfS tRet zjR tAsg Qd QZ XW V8 tOp tUn tVar tC zbE tB tAnd tOr tNot zbu tOrV zjP tIf yi tNil tCB Zc tLst zeU zb7 Zp W6 zb6 Ys Yu tTry tAtX rIsX zb8 zhr zea zhs tTup tBM tBM0 tSl zbO WQ tAug ipI rI rI0 rU rEq rNe scal zhd zhe rJoin KZ rIxL rIxT zeL zeM rSlL zj5 Yw cxKh zhx zed Nat.reduceEqDiff YC zcn zco rIsA zkb zeR rSlU zai rEqD rNeD iZip zeS zhb K0 zj9 zka YB zke zeT rIsB zep zkg zkf zkh zg0 zki zkj zkk zkl gSub zeK zkm zgR rPop zhA tFld sFld Q4 zbI zcC zcB rNeI rEq0 rNe0 zkn rDIn zko zhI zeq zkd iTup rIn zhy zef tD0 rEqS rNeS zeb rCat gTup XX gNil zeA cxK cxK0 blkK nc0 nc1 nc2 nc3 nc94 Yo uD gF uu U9 List.replicate u4 Ud uz List.getElem?_cons_zero List.getElem?_cons_succ List.set_cons_zero List.set_cons_succ Us List.cons.injEq V.int.injEq V.str.injEq V.bl.injEq V.ref.injEq V.ty.injEq Qj zj2 and_true true_and eq_self and_assoc exists_eq_left exists_eq_left' exists_eq_right exists_eq exists_eq' exists_and_left exists_and_right exists_const reduceCtorEq false_and and_false or_false false_or exists_false Nat.reduceAdd Nat.reduceSub Int.reduceLT Int.reduceLE Nat.reduceLeDiff Nat.reduceLT Int.reduceEq Nat.sub_self Uj decide_true decide_false zkp zkq if_true gk Bool.not_true Bool.not_false Uy".splitOn " ").toArray.mapM fun s => `(Lean.Parser.Tactic.simpLemma| $(Lean.mkIdent s.toName):ident)
  `(tactic| simp only [$l,*, ↓reduceIte])
section
variable {P:Program} {w:World} {K:Le} {mg:La} {base:Heap} {t:Ads}
theorem Kf (T:Txt w K mg t)(D:Df K mg "sign_of" ZN xw):OkF P w K mg base 1 "sign_of" xw kM:=by
 refine D.ok YI (λvs H Q E h=>?_) (λf cdv A outer s H vs Q E hr h=>?_)
 ·refine ex1 h λ_ h=>?_;exact av2 h λ_ _=>rfl
 ·refine ex1 h λn h=>?_;refine av2 h λhn k=>?_;refine⟨_,((zf (zj (zB ix_S (qM T.g_SIGNS) (qv 0) (λ_ _=>(by rfl)))))).h,?_⟩
  walk_at "rd";have hn':n<sg.length:=by rw [Yo];exact hn
  have e:sg[n]? = some sg[n]:=uw hn';exact⟨_,e,k _ H e (Same.refl H)⟩
theorem Xm (T:Txt w K mg t)(D:Df K mg "sign_told" yq jo)(F_sign_of:OkF P w K mg base 1 "sign_of" xw kM):OkF P w K mg base 2 "sign_told" jo xg:=by
 refine D.ok Zq (λvs H Q E h=>?_) (λf cdv A outer s H vs Q E hr h=>?_)
 ·refine ex1 h λ_ h=>?_;exact av2 h λ_ _=>rfl
 ·refine ex1 h λl h=>?_;refine av2 h λhl k=>?_
  refine⟨_,((ze (zw (QW.qt (Jn (zl zbD (zJ ZF (by rfl) T.z_len xq (za (qv 0) zc)) zi (zp _)) (Jn (zl Wm (zB ix_S (qv 0) zi (λ_ _=>(by rfl))) (qM T.g_FIGURES) (by rfl)) (Jo (zl Wm (zB ix_S (qv 0) zi (λ_ _=>(by rfl))) (qM T.g_FIGURES) (by rfl)))))) (zf (zj zF)) zm)
   (ze (zy (i:=1) Zq.nd (by rfl) (Or.inl (by rfl)) (xn za1 (by rfl) T.z_int Q9 (za (qv 0) zc)))
   (zf (zj (wB (zl XY (qv 1) (zJ ZF (by rfl) T.z_len xq (za (qM T.g_SIGNS) zc)) (zp _)) (zk F_sign_of hr (by decide) (za (qv 1) zc)) zF)))))).h,?_⟩
  walk_at "rd";refine⟨by lia,?_⟩;by_cases hl2:l.length=2
  ·obtain⟨c,d,rfl⟩:∃ c d,l=[c,d]:=by
    match l,hl2 with
    | [c,d],_=>exact⟨c,d,rfl⟩
   walk_at "rd"
   by_cases h1:c∈fg
   ·rw [ub (by simp [h1])]
    by_cases h2:d∈fg
    ·rw [ub (by simp [h2])]
     have f1:=(WX c).mp h1
     have f2:=(WX d).mp h2
     refine⟨f1,f2,?_⟩
     have et:L2.told [c,d]=sg[(c - 48) * 10+(d - 48)]?:=by
      show(if vy c=true/\vy d=true then _ else _)=_
      rw [uf ⟨f1,f2⟩]
     by_cases h3:(c - 48) * 10+(d - 48)<94
     ·rw [uf (by lia)]
      refine⟨h3,λx H' e g=>?_⟩
      rw [et,e] at k
      exact k H' g
     ·rw [ub (by lia)]
      rw [et,Ur.mpr (by rw [Yo];lia)] at k
      exact k H (Same.refl H)
    ·rw [uf (by simp [h2])]
     have e:L2.told [c,d]=none:=by
      show(if vy c=true/\vy d=true then _ else _)=_
      rw [ub (by rintro⟨_,z⟩;exact h2 ((WX d).mpr z))]
     rw [e] at k
     exact k H (Same.refl H)
   ·rw [uf (by simp [h1])]
    have e:L2.told [c,d]=none:=by
     show(if vy c=true/\vy d=true then _ else _)=_
     rw [ub (by rintro⟨z,_⟩;exact h1 ((WX c).mpr z))]
    rw [e] at k
    exact k H (Same.refl H)
  ·rw [zd2 hl2] at k;rw [uf (by simp;lia)];exact k H (Same.refl H)
theorem JS (T:Txt w K mg t)(D:Df K mg "fed_between" vo qG):OkF P w K mg base 1 "fed_between" qG j7:=by
 refine D.ok Ju (λvs H Q E h=>?_) (λf cdv A outer s H vs Q E hr h=>?_)
 ·refine ex1 h λ_ h=>?_;exact av1 h λ_=>rfl
 ·refine ex1 h λc h=>?_;refine av1 h λk=>?_
  refine⟨_,((ze (zw (zl zD (qv 0) (qe_S (l:=[32]) (by decide +kernel)) (zp _)) (zf (zj (zq (za (qe_S (l:=[98,101,116,119,101,101,110]) (by decide +kernel)) (za (zv zc) zc))))) zm)
   (ze (zw (zl zD (qv 0) (qe_S (l:=[39]) (by decide +kernel)) (zp _)) (zf (zj (zq (za (qe_S (l:=[115,97,105,100]) (by decide +kernel)) (za (zv (za (zq (za (qe_S (l:=[115,97,105,100]) (by decide +kernel)) zc)) zc)) zc))))) zm)
   (ze (zw (zl wU (qv 0) (qM T.g_WORDSIGNS) (by rfl)) (zf (zj (zq (za (qe_S (l:=[119,111,114,100]) (by decide +kernel)) (za (zv (za (zq (za (qe_S (l:=[119,111,114,100]) (by decide +kernel)) zc)) (za (zq (za (qe_S (l:=[115,105,103,110]) (by decide +kernel)) (za (qv 0) zc))) zc))) zc))))) zm)
   (zf (zj zF)))))).h,?_⟩
  walk_at "rd";unfold fedB at k;by_cases h1:c=32
  ·rw [uf h1] at k ⊢;intro p hp p1 hp1;have a:=Qo (G:=λa=>H a=none) (t:=q9) hp1 (evl0 (H:=H) (q:=p)) hp;exact k _ _ ((zb hp).trans a.1) a.2
  rw [ub h1] at k ⊢;by_cases h2:c=39
  ·rw [uf h2] at k ⊢;intro p hp p1 hp1 p2 hp2;have a:=Qo (G:=λa=>H a=none) (t:=wA) hp2 (evl1 (e:=[zeP]) hp1) (zu hp1);exact k _ _ ((zb hp).trans ((zb hp1).trans a.1)) a.2
  rw [ub h2] at k ⊢;by_cases h3:c∈ws
  ·rw [uf h3] at k ⊢;intro p hp p1 hp1 p2 hp2 p3 hp3
   have he:EvL (upd (upd (upd H p (.tup [.str (S zci)])) p1 (.tup [.str (S jv),.str (S [c])])) p2 (.lst [.ref p,.ref p1])) p2 [[zci],[jv,[c]]]:=
    ⟨_,zd,.cons ⟨p,rfl,zb hp2 _ _ (zb hp1 _ _ zd)⟩ (.cons ⟨p1,rfl,zb hp2 _ _ zd⟩ .nil)⟩
   have a:=Qo (G:=λa=>H a=none) (t:=y4) hp3 he (zu (zu hp2));exact k _ _ ((zb hp).trans ((zb hp1).trans ((zb hp2).trans a.1))) a.2
  ·rw [ub h3] at k ⊢;exact k _ _ (Same.refl H) rfl
theorem VS (T:Txt w K mg t)(D:Df K mg "fed_word" kq wG)(F_fed_between:OkF P w K mg base 1 "fed_between" qG j7):OkF P w K mg base 2 "fed_word" wG yF:=by
 refine D.ok Vv (λvs H Q E h=>?_) (λf cdv A outer s H vs Q E hr h=>?_)
 ·refine ex1 h λ_ h=>?_;exact av1 h λ_=>rfl
 ·refine ex1 h λc h=>?_;refine av1 h λk=>?_
  refine⟨_,((ze (zw (zl wU (qv 0) (qM T.g_WORDSIGNS) (by rfl)) (zf (zj (zq (za (qe_S (l:=[119,111,114,100]) (by decide +kernel)) (za (zv (za (zq (za (qe_S (l:=[115,105,103,110]) (by decide +kernel)) (za (qv 0) zc))) zc)) zc))))) zm)
   (zf (zj (zk F_fed_between hr (by decide) (za (qv 0) zc)))))).h,?_⟩
  walk_at "rd";unfold fedW at k;by_cases h3:c∈ws
  ·rw [uf h3] at k ⊢;intro p hp p1 hp1 p2 hp2;have a:=Qo (G:=λa=>H a=none) (t:=y4) hp2 (evl1 (e:=[jv,[c]]) hp1) (zu hp1);exact k _ _ ((zb hp).trans ((zb hp1).trans a.1)) a.2
  ·rw [ub h3] at k ⊢;exact k
theorem VT (T:Txt w K mg t)(D:Df K mg "fed_said" ku wH):OkF P w K mg base 1 "fed_said" wH yG:=by
 refine D.ok Vw (λvs H Q E h=>?_) (λf cdv A outer s H vs Q E hr h=>?_)
 ·refine ex1 h λ_ h=>?_;exact av1 h λ_=>rfl
 ·refine ex1 h λc h=>?_;refine av1 h λk=>?_
  refine⟨_,((ze (zw (zl zD (qv 0) (qe_S (l:=[39]) (by decide +kernel)) (zp _)) (zf (zj (zq (za (qe_S (l:=[98,101,116,119,101,101,110]) (by decide +kernel)) (za (zv zc) zc))))) zm)
   (ze (zw (zl zD (qv 0) (qe_S (l:=[92]) (by decide +kernel)) (zp _)) (zf (zj (zq (za (qe_S (l:=[115,116,114,111,107,101]) (by decide +kernel)) (za (zv zc) zc))))) zm)
   (zf (zj (zq (za (qe_S (l:=[115,97,105,100]) (by decide +kernel)) (za (zv (za (zq (za (qe_S (l:=[115,105,103,110]) (by decide +kernel)) (za (qv 0) zc))) zc)) zc)))))))).h,?_⟩
  walk_at "rd";unfold fedS at k;by_cases h1:c=39
  ·rw [uf h1] at k ⊢;intro p hp p1 hp1;have a:=Qo (G:=λa=>H a=none) (t:=q9) hp1 (evl0 (H:=H) (q:=p)) hp;exact k _ _ ((zb hp).trans a.1) a.2
  rw [ub h1] at k ⊢;by_cases h2:c=92
  ·rw [uf h2] at k ⊢;intro p hp p1 hp1;have a:=Qo (G:=λa=>H a=none) (t:=QK) hp1 (evl0 (H:=H) (q:=p)) hp;exact k _ _ ((zb hp).trans a.1) a.2
  rw [ub h2] at k ⊢;intro p hp p1 hp1 p2 hp2;have a:=Qo (G:=λa=>H a=none) (t:=wA) hp2 (evl1 (e:=[jv,[c]]) hp1) (zu hp1);exact k _ _ ((zb hp).trans ((zb hp1).trans a.1)) a.2
theorem zeE (T:Txt w K mg t)(D:Df K mg "feed" YJ Zr)(F_fed_between:OkF P w K mg base 1 "fed_between" qG j7)(F_fed_word:OkF P w K mg base 2 "fed_word" wG yF)(F_fed_said:OkF P w K mg base 1 "fed_said" wH yG):OkF P w K mg base 3 "feed" Zr Xe:=by
 refine D.ok zew (λvs H Q E h=>?_) (λf cdv A outer s H vs Q E hr h=>?_)
 ·refine ex2 h λ_ _ h=>?_;exact av1 h λ_=>rfl
 ·refine ex2 h λtk c h=>?_;refine av1 h λk=>?_
  refine⟨_,((ze (zw (zl zD (qv 0) (qe_S (l:=[98,101,116,119,101,101,110]) (by decide +kernel)) (zp _)) (zf (zj (zk F_fed_between hr (by decide) (za (qv 1) zc)))) zm)
   (ze (zw (zl zD (qv 0) (qe_S (l:=[119,111,114,100]) (by decide +kernel)) (zp _)) (zf (zj (zk F_fed_word hr (by decide) (za (qv 1) zc)))) zm)
   (ze (zw (zl zD (qv 0) (qe_S (l:=[115,97,105,100]) (by decide +kernel)) (zp _)) (zf (zj (zk F_fed_said hr (by decide) (za (qv 1) zc)))) zm)
   (ze (zw (zl zD (qv 0) (qe_S (l:=[115,116,114,111,107,101]) (by decide +kernel)) (zp _)) (zf (zj (zq (za (qe_S (l:=[115,97,105,100]) (by decide +kernel)) (za (zv (za (zq (za (qe_S (l:=[115,105,103,110]) (by decide +kernel)) (za (qv 1) zc))) zc)) zc))))) zm)
   (zf (zj zF))))))).h,?_⟩
  walk_at "rd";unfold Jh at k;by_cases h1:tk=q9
  ·rw [uf h1] at k ⊢;exact k
  rw [ub h1] at k ⊢;by_cases h2:tk=y4
  ·rw [uf h2] at k ⊢;exact k
  rw [ub h2] at k ⊢;by_cases h3:tk=wA
  ·rw [uf h3] at k ⊢;exact k
  rw [ub h3] at k ⊢;by_cases h4:tk=QK
  ·rw [uf h4] at k ⊢;intro p hp p1 hp1 p2 hp2;have a:=Qo (G:=λa=>H a=none) (t:=wA) hp2 (evl1 (e:=[jv,[c]]) hp1) (zu hp1);exact k _ _ ((zb hp).trans ((zb hp1).trans a.1)) a.2
  rw [ub h4] at k ⊢;exact k _ _ (Same.refl H) rfl
end
section
variable {P:Program} {w:World} {K:Le} {mg:La} {base:Heap} {t:Ads}
theorem Kg (T:Txt w K mg t)(D:Df K mg "come_to" ZO zK):OkF P w K mg base 1 "come_to" zK zR:=by
 refine D.ok YK (λvs H Q E h=>?_) (λf cdv A outer s H vs Q E hr h=>?_)
 ·refine ex5 h λ_ _ _ _ _ h=>?_;exact av3 h λ_ _ _=>rfl
 ·refine ex5 h λm oa op ea es h=>?_;refine av3 h λho he k=>?_;refine⟨_,((zf (zj (zq (za (zq (za (qv 0) (za (qe_S (l:=[]) (by decide +kernel)) (za (qv 1) (za (qe_S (l:=[]) (by decide +kernel)) zc))))) (za (qv 2) zc)))))).h,?_⟩
  walk_at "rd";intro p hp p1 hp1;have a:=zj6 (G:=λa=>a=ea) (m:=m) (w:=[]) (t:=[]) hp hp1 ho he rfl;exact k _ _ a.1 a.2
theorem zeF (T:Txt w K mg t)(D:Df K mg "told" YL jB)(F_come_to:OkF P w K mg base 1 "come_to" zK zR):OkF P w K mg base 2 "told" jB wz:=by
 refine D.ok zex (λvs H Q E h=>?_) (λf cdv A outer s H vs Q E hr h=>?_)
 ·refine ex4 h λ_ _ _ _ h=>?_;exact av2 h λ_ _=>rfl
 ·refine ex4 h λm oa op o h=>?_;refine av2 h λho k=>?_
  refine⟨_,((ze (zw (zl vm (qv 2) zF (zp _)) (zf (zj zF)) zm)
   (zf (zj (zk F_come_to hr (by decide) (za (by exact(qv 0)) (by exact(za (by exact(qv 1)) (by exact(za (by exact(zv (za (zq (za (qe_S (l:=[115,105,103,110]) (by decide +kernel)) (za (qv 2) zc))) zc))) (by exact zc))))))))))).h,?_⟩
  walk_at "rd";cases o with
  | none=>rw [uf (show oV none=V.non from rfl)];exact k _ _ (Same.refl H) rfl
  | some c=>rw [ub (by intro z;cases z)];intro p hp p1 hp1;exact⟨op,ho.mono ((zb hp).trans (zb hp1)),[[jv,[c]]],evl1 (e:=[jv,[c]]) hp1,λv H' g a=>k v H' (((zb hp).trans (zb hp1)).trans g) (a.imp λx e=>by subst e;exact zu hp1)⟩
theorem VU (T:Txt w K mg t)(D:Df K mg "gathered" ky zY):OkF P w K mg base 1 "gathered" zY qi:=by
 refine D.ok Vx (λvs H Q E h=>?_) (λf cdv A outer s H vs Q E hr h=>?_)
 ·refine ex6 h λ_ _ _ _ _ _ h=>?_;exact av3 h λ_ _ _=>rfl
 ·refine ex6 h λm wd oa op tk n h=>?_;refine av3 h λho hl k=>?_
  refine⟨_,((ze (zw (zl Wf (zJ ZF (by rfl) T.z_len xq (za (qv 1) zc)) (qv 4) (zp _)) (zf (zj zF)) zm)
   (zf (zj (zq (za (zq (za (qv 0) (za (qv 1) (za (qv 2) (za (qv 3) zc))))) (za (zv zc) zc))))))).h,?_⟩
  walk_at "rd";refine⟨by lia,?_⟩;unfold gath at k;by_cases h:n<wd.length
  ·rw [uf h] at k;rw [uf (by lia)];exact k _ _ (Same.refl H) rfl
  ·rw [ub h] at k;rw [ub (by lia)];intro p hp p1 hp1 p2 hp2;have g:=(zb (o:=.tup [.str (S m),.str (S wd),.ref oa,.str (S tk)]) hp).trans (zb (o:=.lst []) hp1);exact k _ _ (g.trans (zb hp2)) (Zl (zb hp1 _ _ zd) (ho.mono g) evl0 (zu hp1) hp2)
theorem VV (T:Txt w K mg t)(D:Df K mg "box_shut" kz jd)(F_come_to:OkF P w K mg base 1 "come_to" zK zR):OkF P w K mg base 2 "box_shut" jd wO:=by
 refine D.ok Vy (λvs H Q E h=>?_) (λf cdv A outer s H vs Q E hr h=>?_)
 ·refine ex4 h λ_ _ _ _ h=>?_;exact av4 h λ_ _ _ _=>rfl
 ·refine ex4 h λoa op ea es h=>?_;refine av4 h λho he hl k=>?_
  refine⟨_,((ze (zw (wW (Wv (K:=K) (by rfl) (qv 0))) (zf (zj zF)) zm)
   (zf (zj (zk F_come_to hr (by decide) (za (by exact(qe_S (l:=[116,101,120,116]) (by decide +kernel))) (by exact(za (by exact(Vq zaj (qv 0) zak (zal (zct Ye zi)))) (by exact(za (by exact(zA xo (qv 1) (zv (za (zq (za (qe_S (l:=[111,117,116]) (by decide +kernel)) zc)) zc)))) (by exact zc))))))))))).h,?_⟩
  walk_at "rd";refine⟨_,zaf ho,?_⟩;unfold vM at k;by_cases h:op=[]
  ·subst h;rw [uf rfl] at k;rw [uf (show(!!(List.map tx ([]:List Tx)).isEmpty)=true from rfl)];exact k _ _ (Same.refl H) rfl
  ·rw [ub h] at k;rw [ub (by cases op with | nil=>exact absurd rfl h | cons=>simp)];obtain⟨vs,e1,e2⟩:=he;refine⟨_,ho,λp H1 g1 hp p1 hp1 p2 hp2=>?_⟩;have g2:=(zb (o:=.tup [.str (S eOut)]) hp1).trans (zb (o:=.lst [.ref p1]) hp2);refine⟨vs,g2 _ _ (g1 _ _ e1),_,zd,by rw [e2.len];simp;lia,λp3 hp3=>?_⟩;have g3:=g2.trans (zb (o:=.lst (vs++[.ref p1])) hp3);refine⟨op.dropLast,?_,es++[[eOut]],⟨_,zd,(e2.mono (g1.trans g3)).app (.cons ⟨p1,rfl,zb hp3 _ _ (zb hp2 _ _ zd)⟩ .nil)⟩,λv H' g a=>k v H' (g1.trans (g3.trans g)) (a.imp λx e=>?_)⟩
   ·rw [zcj,map_dropLast] at hp;exact g3 _ _ hp
   ·subst e;exact qg g1 (zu (zu hp3))
theorem VW (T:Txt w K mg t)(D:Df K mg "into_box" kA wI)(F_come_to:OkF P w K mg base 1 "come_to" zK zR):OkF P w K mg base 2 "into_box" wI yH:=by
 refine D.ok Qr (λvs H Q E h=>?_) (λf cdv A outer s H vs Q E hr h=>?_)
 ·refine ex4 h λ_ _ _ _ h=>?_;exact av4 h λ_ _ _ _=>rfl
 ·refine ex4 h λoa op ea es h=>?_;refine av4 h λho he hl k=>?_
  refine⟨_,((ze (zw (wW (Wv (K:=K) (by rfl) (qv 0))) (zf (zj zF)) zm)
   (ze (zy (i:=2) Qr.nd (by rfl) (Or.inl (by rfl)) (wB (zl zD (zB (zx (K:=K) (by rfl)) (qv 0) (zct Ye zi) (λ_ _=>(by rfl))) (qe_S (l:=[97,115,105,115]) (by decide +kernel)) (zp _)) (qe_S (l:=[97,115,105,115]) (by decide +kernel)) (qe_S (l:=[116,101,120,116]) (by decide +kernel))))
   (zf (zj (zk F_come_to hr (by decide) (za (by exact(qv 2)) (by exact(za (by exact(qv 0)) (by exact(za (by exact(zA xo (qv 1) (zv (za (zq (za (qe_S (l:=[105,110]) (by decide +kernel)) zc)) zc)))) (by exact zc)))))))))))).h,?_⟩
  walk_at "rd";refine⟨_,zaf ho,?_⟩;unfold QL at k;by_cases h:op=[]
  ·subst h;rw [uf rfl] at k;rw [uf (show(!!(List.map tx ([]:List Tx)).isEmpty)=true from rfl)];exact k _ _ (Same.refl H) rfl
  ·rw [ub h] at k;rw [ub (by cases op with | nil=>exact absurd rfl h | cons=>simp)];obtain⟨vs,e1,e2⟩:=he
   obtain⟨l,hla⟩:∃ l,op.getLast? = some l:=by
    cases op with
    | nil=>exact absurd rfl h
    | cons a r=>exact⟨_,List.getLast?_eq_some_getLast (by simp)⟩
   refine⟨_,SqT.of ho,V.str (S l),by rw [zbc,List.getLast?_map,hla];rfl,rfl,?_⟩;rw [hla] at k;by_cases h2:l=Qm
   ·subst h2;rw [uf rfl] at k ⊢;intro p1 hp1 p2 hp2;have g2:=(zb (o:=.tup [.str (S eIn)]) hp1).trans (zb (o:=.lst [.ref p1]) hp2);refine⟨vs,g2 _ _ e1,_,zd,by rw [e2.len];simp;lia,λp3 hp3=>?_⟩;have g3:=g2.trans (zb (o:=.lst (vs++[.ref p1])) hp3);exact⟨op,ho.mono g3,es++[[eIn]],⟨_,zd,(e2.mono g3).app (.cons ⟨p1,rfl,zb hp3 _ _ (zb hp2 _ _ zd)⟩ .nil)⟩,λv H' g a=>k v H' (g3.trans g) (a.imp λx e=>by subst e;exact zu (zu hp3))⟩
   ·rw [ub (by intro z;exact h2 (uB z))] at k;rw [ub (by rw [V.str.injEq,Qj];exact h2)];intro p1 hp1 p2 hp2;have g2:=(zb (o:=.tup [.str (S eIn)]) hp1).trans (zb (o:=.lst [.ref p1]) hp2);refine⟨vs,g2 _ _ e1,_,zd,by rw [e2.len];simp;lia,λp3 hp3=>?_⟩;have g3:=g2.trans (zb (o:=.lst (vs++[.ref p1])) hp3);exact⟨op,ho.mono g3,es++[[eIn]],⟨_,zd,(e2.mono g3).app (.cons ⟨p1,rfl,zb hp3 _ _ (zb hp2 _ _ zd)⟩ .nil)⟩,λv H' g a=>k v H' (g3.trans g) (a.imp λx e=>by subst e;exact zu (zu hp3))⟩
theorem zbp (T:Txt w K mg t)(D:Df K mg "led_on" JA wg)(F_come_to:OkF P w K mg base 1 "come_to" zK zR)(F_into_box:OkF P w K mg base 2 "into_box" wI yH):OkF P w K mg base 3 "led_on" wg vE:=by
 refine D.ok zbk (λvs H Q E h=>?_) (λf cdv A outer s H vs Q E hr h=>?_)
 ·refine ex5 h λ_ _ _ _ _ h=>?_;exact av4 h λ_ _ _ _=>rfl
 ·refine ex5 h λoa op c ea es h=>?_;refine av4 h λho he hl k=>?_
  refine⟨_,((ze (zw (zl zD (qv 1) (qe_S (l:=[32]) (by decide +kernel)) (zp _)) (zf (zj (zk F_come_to hr (by decide) (za (qe_S (l:=[103,97,112]) (by decide +kernel)) (za (qv 0) (za (qv 2) zc)))))) zm)
   (ze (zw (zl zD (qv 1) (qe_S (l:=[47]) (by decide +kernel)) (zp _)) (zf (zj (zk F_come_to hr (by decide) (za (qe_S (l:=[115,108,97,115,104]) (by decide +kernel)) (za (qv 0) (za (qv 2) zc)))))) zm)
   (ze (zw (zl zD (qv 1) (qe_S (l:=[62]) (by decide +kernel)) (zp _)) (zf (zj (zk F_into_box hr (by decide) (za (qv 0) (za (qv 2) zc))))) zm)
   (zf (zj zF)))))).h,?_⟩
  walk_at "rd";unfold Jg at k;by_cases h1:c=32
  ·rw [uf h1] at k ⊢;exact⟨op,ho,es,he,λv H' g a=>k v H' g (a.imp λx e=>.inr e)⟩
  rw [ub h1] at k ⊢;by_cases h2:c=47
  ·rw [uf h2] at k ⊢;exact⟨op,ho,es,he,λv H' g a=>k v H' g (a.imp λx e=>.inr e)⟩
  rw [ub h2] at k ⊢;by_cases h3:c=62
  ·rw [uf h3] at k ⊢;exact⟨op,ho,es,he,hl,λv H' g a=>k v H' g (a.imp λx e=>.inl e)⟩
  rw [ub h3] at k ⊢;exact k _ _ (Same.refl H) rfl
theorem zhO (T:Txt w K mg t)(D:Df K mg "fed" zcH ZP)(F_feed:OkF P w K mg base 3 "feed" Zr Xe):OkF P w K mg base 4 "fed" ZP Xf:=by
 refine D.ok zcI (λvs H Q E h=>?_) (λf cdv A outer s H vs Q E hr h=>?_)
 ·refine ex4 h λ_ _ _ _ h=>?_;exact av2 h λ_ _=>rfl
 ·refine ex4 h λoa op tk o h=>?_;refine av2 h λho k=>?_
  refine⟨_,((ze (zy (i:=3) zcI.nd (by rfl) (Or.inl (by rfl)) (wB (zl vm (qv 2) zF (zp _)) zF (zk F_feed hr (by decide) (za (qv 1) (za (qv 2) zc)))))
   (ze (zw (zl vm (qv 3) zF (zp _)) (zf (zj zF)) zm)
   (zf (zj (zq (za (zq (za (by exact(qe_S (l:=[116,97,108,107]) (by decide +kernel))) (by exact(za (by exact(qe_S (l:=[]) (by decide +kernel))) (by exact(za (by exact(qv 0)) (by exact(za (by exact(zB (zx (K:=K) (by rfl)) (qv 3) zi (λ_ _=>(by rfl)))) (by exact zc))))))))) (za (zB (zx (K:=K) (by rfl)) (qv 3) zi (λ_ _=>(by rfl))) zc)))))))).h,?_⟩
  walk_at "rd";cases o with
  | none=>rw [uf (show oV none=V.non from rfl)];exact k _ _ (Same.refl H) rfl
  | some c=>
   rw [ub (by intro z;cases z)];refine⟨c,rfl,λv H1 g1 a=>?_⟩;unfold fedM at k;cases hf:Jh tk c with
   | none=>rw [hf] at a;simp only [hf] at k;have a:v=.non:=a;subst a;rw [uf rfl];exact k _ _ g1 rfl
   | some r=>obtain⟨tk',es⟩:=r;rw [hf] at a;simp only [hf] at k;obtain⟨p,ea,rfl,hp,he,hg⟩:=a;rw [ub (by intro z;cases z)];exact⟨p,rfl,_,SqT.of hp,_,rfl,λp1 hp1=>⟨p,rfl,_,SqT.of (zb hp1 _ _ hp),_,rfl,λp2 hp2=>k _ _ (g1.trans ((zb hp1).trans (zb hp2))) (Zl zd ((ho.mono g1).mono (zb hp1)) (he.mono (zb hp1)) hg hp2)⟩⟩
theorem J7 (T:Txt w K mg t)(D:Df K mg "mark_ended" vO qC)(F_sign_told:OkF P w K mg base 2 "sign_told" jo xg):OkF P w K mg base 3 "mark_ended" qC jy:=by
 refine D.ok JZ (λvs H Q E h=>?_) (λf cdv A outer s H vs Q E hr h=>?_)
 ·refine ex2 h λ_ _ h=>?_;exact av2 h λ_ _=>rfl
 ·refine ex2 h λwd c h=>?_;refine av2 h λhl k=>?_;refine⟨_,((zf (zj (wB (zl zD (qv 1) (qe_S (l:=[59]) (by decide +kernel)) (zp _)) (zk F_sign_told hr (by decide) (za (qv 0) zc)) zF)))).h,?_⟩
  walk_at "rd";unfold Qn at k;by_cases h:c=59
  ·rw [uf h] at k ⊢;exact⟨by lia,k⟩
  ·rw [ub h] at k ⊢;exact k H (Same.refl H)
end
section
variable {P:Program} {w:World} {K:Le} {mg:La} {base:Heap} {t:Ads}
theorem Kh (T:Txt w K mg t)(D:Df K mg "at_text" ZQ xx)(F_come_to:OkF P w K mg base 1 "come_to" zK zR)(F_told:OkF P w K mg base 2 "told" jB wz):OkF P w K mg base 3 "at_text" xx kN:=by
 refine D.ok YM (λvs H Q E h=>?_) (λf cdv A outer s H vs Q E hr h=>?_)
 ·refine ex5 h λ_ _ _ _ _ h=>?_;exact av4 h λ_ _ _ _=>rfl
 ·refine ex5 h λwd oa op tk c h=>?_;refine av4 h λho hw hop k=>?_
  refine⟨_,((ze (zw (zl zD (qv 3) (qe_S (l:=[60]) (by decide +kernel)) (zp _)) (zf (zj (zk F_come_to hr (by decide) (za (by exact(qe_S (l:=[111,112,101,110]) (by decide +kernel))) (by exact(za (by exact(qv 1)) (by exact(za (by exact(zv zc)) (by exact zc))))))))) zm)
   (ze (zw (zl zD (qv 3) (qe_S (l:=[38]) (by decide +kernel)) (zp _)) (zf (zj (zk F_come_to hr (by decide) (za (by exact(qe_S (l:=[109,97,114,107]) (by decide +kernel))) (by exact(za (by exact(qv 1)) (by exact(za (by exact(zv zc)) (by exact zc))))))))) zm)
   (zf (zj (zk F_told hr (by decide) (za (qe_S (l:=[116,101,120,116]) (by decide +kernel)) (za (qv 1) (za (qv 3) zc))))))))).h,?_⟩
  walk_at "rd";unfold Va at k;by_cases h0:c=60
  ·rw [uf h0] at k ⊢;exact λp hp=>⟨op,ho.mono (zb hp),[],evl0,λv H' g a=>k v H' ((zb hp).trans g) (a.imp λx e=>by subst e;exact hp)⟩
  rw [ub h0] at k ⊢;by_cases h1:c=38
  ·rw [uf h1] at k ⊢;exact λp hp=>⟨op,ho.mono (zb hp),[],evl0,λv H' g a=>k v H' ((zb hp).trans g) (a.imp λx e=>by subst e;exact hp)⟩
  rw [ub h1] at k ⊢;exact⟨op,some c,rfl,ho,λv H' g a=>k v H' g a⟩
theorem Ki (T:Txt w K mg t)(D:Df K mg "at_mark" ZR xy)(F_gathered:OkF P w K mg base 1 "gathered" zY qi)(F_mark_ended:OkF P w K mg base 3 "mark_ended" qC jy)(F_told:OkF P w K mg base 2 "told" jB wz):OkF P w K mg base 4 "at_mark" xy kP:=by
 refine D.ok YN (λvs H Q E h=>?_) (λf cdv A outer s H vs Q E hr h=>?_)
 ·refine ex5 h λ_ _ _ _ _ h=>?_;exact av4 h λ_ _ _ _=>rfl
 ·refine ex5 h λwd oa op tk c h=>?_;refine av4 h λho hw hop k=>?_
  refine⟨_,((ze (zw (zl wU (qv 3) (qM T.g_FIGURES) (by rfl)) (zf (zj (zk F_gathered hr (by decide) (za (by exact(qe_S (l:=[109,97,114,107]) (by decide +kernel))) (by exact(za (by exact(zA xc (qv 0) (qv 3))) (by exact(za (by exact(qv 1)) (by exact(za (by exact(qe_S (l:=[]) (by decide +kernel))) (by exact(za (by exact(qM T.g_MARK_FIGURES)) (by exact zc))))))))))))) zm)
   (zf (zj (zk F_told hr (by decide) (za (by exact(qe_S (l:=[116,101,120,116]) (by decide +kernel))) (by exact(za (by exact(qv 1)) (by exact(za (by exact(zk F_mark_ended hr (by decide) (za (qv 0) (za (qv 3) zc)))) (by exact zc))))))))))).h,?_⟩
  walk_at "rd";unfold Vb at k;by_cases h0:c∈fg
  ·rw [uf h0] at k ⊢;exact⟨by lia,op,2,rfl,ho,by rw [ug];simp;lia,λv H' g a=>k v H' g a⟩
  rw [ub h0] at k ⊢;exact⟨by lia,λH1 g1=>⟨op,Qn wd c,rfl,ho.mono g1,λv H' g a=>k v H' (g1.trans g) (a.imp λx e=>qg g1 e)⟩⟩
theorem Kj (T:Txt w K mg t)(D:Df K mg "at_open" ZS xA)(F_come_to:OkF P w K mg base 1 "come_to" zK zR)(F_gathered:OkF P w K mg base 1 "gathered" zY qi):OkF P w K mg base 2 "at_open" xA kQ:=by
 refine D.ok YO (λvs H Q E h=>?_) (λf cdv A outer s H vs Q E hr h=>?_)
 ·refine ex5 h λ_ _ _ _ _ h=>?_;exact av4 h λ_ _ _ _=>rfl
 ·refine ex5 h λwd oa op tk c h=>?_;refine av4 h λho hw hop k=>?_
  refine⟨_,((ze (zw (zl zD (qv 3) (qe_S (l:=[47]) (by decide +kernel)) (zp _)) (zf (zj (zk F_come_to hr (by decide) (za (by exact(qe_S (l:=[115,104,117,116]) (by decide +kernel))) (by exact(za (by exact(qv 1)) (by exact(za (by exact(zv zc)) (by exact zc))))))))) zm)
   (ze (zw (zl wU (qv 3) (qM T.g_LETTERS) (by rfl)) (zf (zj (zk F_gathered hr (by decide) (za (qe_S (l:=[110,97,109,101]) (by decide +kernel)) (za (qv 3) (za (qv 1) (za (qe_S (l:=[]) (by decide +kernel)) (za (qM T.g_LONGEST_NAME) zc)))))))) zm)
   (zf (zj zF))))).h,?_⟩
  walk_at "rd";unfold Vc at k;by_cases h0:c=47
  ·rw [uf h0] at k ⊢;exact λp hp=>⟨op,ho.mono (zb hp),[],evl0,λv H' g a=>k v H' ((zb hp).trans g) (a.imp λx e=>by subst e;exact hp)⟩
  rw [ub h0] at k ⊢;by_cases h1:c∈lt
  ·rw [uf h1] at k ⊢;exact⟨op,8,rfl,ho,λv H' g a=>k v H' g a⟩
  rw [ub h1] at k ⊢;exact k _ _ (Same.refl H) rfl
theorem Kk (T:Txt w K mg t)(D:Df K mg "at_name" ZT xB)(F_gathered:OkF P w K mg base 1 "gathered" zY qi)(F_led_on:OkF P w K mg base 3 "led_on" wg vE):OkF P w K mg base 4 "at_name" xB kR:=by
 refine D.ok YQ (λvs H Q E h=>?_) (λf cdv A outer s H vs Q E hr h=>?_)
 ·refine ex5 h λ_ _ _ _ _ h=>?_;exact av4 h λ_ _ _ _=>rfl
 ·refine ex5 h λwd oa op tk c h=>?_;refine av4 h λho hw hop k=>?_
  refine⟨_,((ze (zw (zl wU (qv 3) (qM T.g_LETTERS) (by rfl)) (zf (zj (zk F_gathered hr (by decide) (za (by exact(qe_S (l:=[110,97,109,101]) (by decide +kernel))) (by exact(za (by exact(zA xc (qv 0) (qv 3))) (by exact(za (by exact(qv 1)) (by exact(za (by exact(qe_S (l:=[]) (by decide +kernel))) (by exact(za (by exact(qM T.g_LONGEST_NAME)) (by exact zc))))))))))))) zm)
   (zf (zj (zk F_led_on hr (by decide) (za (by exact(zA zej (qv 1) (zq (za (qv 0) zc)))) (by exact(za (by exact(qv 3)) (by exact(za (by exact(zv (za (zq (za (qe_S (l:=[98,111,120]) (by decide +kernel)) (za (qv 0) zc))) zc))) (by exact zc))))))))))).h,?_⟩
  walk_at "rd";unfold aName at k;by_cases h0:c∈lt
  ·rw [uf h0] at k ⊢;exact⟨by lia,op,8,rfl,ho,by rw [ug];simp;lia,λv H' g a=>k v H' g a⟩
  rw [ub h0] at k ⊢;intro p hp;refine⟨_,zb hp _ _ ho,_,zd,by simp;lia,λp1 H1 g1 hp1 p2 hp2 p3 hp3=>?_⟩;have g0:=(zb (o:=.tup [.str (S wd)]) hp).trans g1;have g2:=(zb (o:=.tup [.str (S eBox),.str (S wd)]) hp2).trans (zb (o:=.lst [.ref p2]) hp3);have ho2:OpV H1 p1 (op++[wd]):=by unfold OpV;rw [hp1,UD];rfl
  exact⟨op++[wd],ho2.mono g2,[[eBox,wd]],evl1 (e:=[eBox,wd]) hp3,by simp,λv H' g a=>k v H' (g0.trans (g2.trans g)) (a.imp λx e=>e.elim (λe=>qg g0 (zu (zu e))) λe=>by subst e;exact qg g0 (zu hp3))⟩
theorem VX (T:Txt w K mg t)(D:Df K mg "at_slash" kB wJ)(F_box_shut:OkF P w K mg base 2 "box_shut" jd wO):OkF P w K mg base 3 "at_slash" wJ yI:=by
 refine D.ok VA (λvs H Q E h=>?_) (λf cdv A outer s H vs Q E hr h=>?_)
 ·refine ex5 h λ_ _ _ _ _ h=>?_;exact av4 h λ_ _ _ _=>rfl
 ·refine ex5 h λwd oa op tk c h=>?_;refine av4 h λho hw hop k=>?_
  refine⟨_,((ze (zw (zl zD (qv 3) (qe_S (l:=[62]) (by decide +kernel)) (zp _)) (zf (zj (zk F_box_shut hr (by decide) (za (qv 1) (za (zv (za (zq (za (qe_S (l:=[105,110]) (by decide +kernel)) zc)) zc)) zc))))) zm)
   (zf (zj zF)))).h,?_⟩
  walk_at "rd";unfold Ji at k;by_cases h0:c=62
  ·rw [uf h0] at k ⊢;exact λp hp p1 hp1=>⟨op,ho.mono ((zb hp).trans (zb hp1)),[[eIn]],evl1 (e:=[eIn]) hp1,by simp,λv H' g a=>k v H' (((zb hp).trans (zb hp1)).trans g) (a.imp λx e=>zu (zu e))⟩
  rw [ub h0] at k ⊢;exact k _ _ (Same.refl H) rfl
theorem Kl (T:Txt w K mg t)(D:Df K mg "at_shut" ZU xC)(F_gathered:OkF P w K mg base 1 "gathered" zY qi)(F_box_shut:OkF P w K mg base 2 "box_shut" jd wO):OkF P w K mg base 3 "at_shut" xC kS:=by
 refine D.ok YR (λvs H Q E h=>?_) (λf cdv A outer s H vs Q E hr h=>?_)
 ·refine ex5 h λ_ _ _ _ _ h=>?_;exact av4 h λ_ _ _ _=>rfl
 ·refine ex5 h λwd oa op tk c h=>?_;refine av4 h λho hw hop k=>?_
  refine⟨_,((ze (zw (zl wU (qv 3) (qM T.g_LETTERS) (by rfl)) (zf (zj (zk F_gathered hr (by decide) (za (by exact(qe_S (l:=[115,104,117,116]) (by decide +kernel))) (by exact(za (by exact(zA xc (qv 0) (qv 3))) (by exact(za (by exact(qv 1)) (by exact(za (by exact(qe_S (l:=[]) (by decide +kernel))) (by exact(za (by exact(qM T.g_LONGEST_NAME)) (by exact zc))))))))))))) zm)
   (ze (zw (QW.qt (xu (zl zD (qv 3) (qe_S (l:=[62]) (by decide +kernel)) (zp _)) (wq (zl (zec (K:=K) (by rfl) (X6 hr)) (Vq zaj (qv 1) (zal (zct Ye zi)) zak) (zq (za (qv 0) zc)) (zp _))))) (zf (zj (zk F_box_shut hr (by decide) (za (qv 1) (za (zv zc) zc))))) zm)
   (zf (zj zF))))).h,?_⟩
  walk_at "rd";unfold Vd at k;by_cases h0:c∈lt
  ·rw [uf h0] at k ⊢;exact⟨by lia,op,8,rfl,ho,by rw [ug];simp;lia,λv H' g a=>k v H' g a⟩
  rw [ub h0] at k ⊢;by_cases h1:c=62
  ·rw [uf h1];refine⟨_,ho,λp H1 g1 hp p1 hp1=>⟨_,_,.inr ⟨SqT.of (zb hp1 _ _ hp),SqT.of zd⟩,by rw [Vl];exact zbd (zck op),rfl,?_⟩⟩;rw [Vl,zeh];have g2:=g1.trans (zb (o:=.tup [.str (S wd)]) hp1);by_cases h2:op.getLast? = some wd
   ·rw [uf (uQ h2)];rw [uf ⟨h1,h2⟩] at k;exact λp2 hp2=>⟨op,(ho.mono g2).mono (zb hp2),[],evl0,by simp,λv H' g a=>k v H' (g2.trans ((zb hp2).trans g)) (a.imp λx e=>qg g2 (zu e))⟩
   ·rw [ub (by simp [h2])];rw [ub (by rintro⟨_,z⟩;exact h2 z)] at k;exact k _ _ g2 rfl
  ·rw [ub h1];rw [ub (by rintro⟨z,_⟩;exact h1 z)] at k;exact k _ _ (Same.refl H) rfl
theorem zbq (T:Txt w K mg t)(D:Df K mg "at_gap" JC vB)(F_gathered:OkF P w K mg base 1 "gathered" zY qi):OkF P w K mg base 2 "at_gap" vB Z5:=by
 refine D.ok zbl (λvs H Q E h=>?_) (λf cdv A outer s H vs Q E hr h=>?_)
 ·refine ex5 h λ_ _ _ _ _ h=>?_;exact av4 h λ_ _ _ _=>rfl
 ·refine ex5 h λwd oa op tk c h=>?_;refine av4 h λho hw hop k=>?_
  refine⟨_,((ze (zw (zl wU (qv 3) (qM T.g_LETTERS) (by rfl)) (zf (zj (zk F_gathered hr (by decide) (za (qe_S (l:=[97,116,116,114]) (by decide +kernel)) (za (qv 3) (za (qv 1) (za (qe_S (l:=[]) (by decide +kernel)) (za (qM T.g_LONGEST_NAME) zc)))))))) zm)
   (zf (zj zF)))).h,?_⟩
  walk_at "rd";unfold aGap at k;by_cases h0:c∈lt
  ·rw [uf h0] at k ⊢;exact⟨op,8,rfl,ho,λv H' g a=>k v H' g a⟩
  rw [ub h0] at k ⊢;exact k _ _ (Same.refl H) rfl
end
section
variable {P:Program} {w:World} {K:Le} {mg:La} {base:Heap} {t:Ads}
theorem Km (T:Txt w K mg t)(D:Df K mg "at_attr" ZV xD)(F_gathered:OkF P w K mg base 1 "gathered" zY qi)(F_come_to:OkF P w K mg base 1 "come_to" zK zR):OkF P w K mg base 2 "at_attr" xD kT:=by
 refine D.ok YS (λvs H Q E h=>?_) (λf cdv A outer s H vs Q E hr h=>?_)
 ·refine ex5 h λ_ _ _ _ _ h=>?_;exact av4 h λ_ _ _ _=>rfl
 ·refine ex5 h λwd oa op tk c h=>?_;refine av4 h λho hw hop k=>?_
  refine⟨_,((ze (zw (zl wU (qv 3) (qM T.g_LETTERS) (by rfl)) (zf (zj (zk F_gathered hr (by decide) (za (by exact(qe_S (l:=[97,116,116,114]) (by decide +kernel))) (by exact(za (by exact(zA xc (qv 0) (qv 3))) (by exact(za (by exact(qv 1)) (by exact(za (by exact(qe_S (l:=[]) (by decide +kernel))) (by exact(za (by exact(qM T.g_LONGEST_NAME)) (by exact zc))))))))))))) zm)
   (ze (zw (zl zD (qv 3) (qe_S (l:=[58]) (by decide +kernel)) (zp _)) (zf (zj (zk F_come_to hr (by decide) (za (by exact(qe_S (l:=[98,97,114,101]) (by decide +kernel))) (by exact(za (by exact(qv 1)) (by exact(za (by exact(zv (za (zq (za (qe_S (l:=[97,116,116,114]) (by decide +kernel)) (za (qv 0) (za (qe_S (l:=[98,97,114,101]) (by decide +kernel)) zc)))) zc))) (by exact zc))))))))) zm)
   (ze (zw (zl zD (qv 3) (qe_S (l:=[40]) (by decide +kernel)) (zp _)) (zf (zj (zk F_come_to hr (by decide) (za (by exact(qe_S (l:=[114,111,119]) (by decide +kernel))) (by exact(za (by exact(qv 1)) (by exact(za (by exact(zv (za (zq (za (qe_S (l:=[97,116,116,114]) (by decide +kernel)) (za (qv 0) (za (qe_S (l:=[114,111,119]) (by decide +kernel)) zc)))) zc))) (by exact zc))))))))) zm)
   (ze (zw (zl zD (qv 3) (qe_S (l:=[61]) (by decide +kernel)) (zp _)) (zf (zj (zq (za (zq (za (qe_S (l:=[105,115]) (by decide +kernel)) (za (qv 0) (za (qv 1) (za (qe_S (l:=[]) (by decide +kernel)) zc))))) (za (zv zc) zc))))) zm)
   (ze (zw (zl zD (qv 3) (qe_S (l:=[33]) (by decide +kernel)) (zp _)) (zf (zj (zq (za (zq (za (qe_S (l:=[98,97,110,103]) (by decide +kernel)) (za (qv 0) (za (qv 1) (za (qe_S (l:=[]) (by decide +kernel)) zc))))) (za (zv zc) zc))))) zm)
   (zf (zj zF)))))))).h,?_⟩
  walk_at "rd";unfold Ve at k;by_cases h0:c∈lt
  ·rw [uf h0] at k ⊢;exact⟨by lia,op,8,rfl,ho,by rw [ug];simp;lia,λv H' g a=>k v H' g a⟩
  rw [ub h0] at k ⊢;by_cases h1:c=58
  ·rw [uf h1] at k ⊢;exact λp hp p1 hp1=>⟨op,ho.mono ((zb hp).trans (zb hp1)),[[yp,wd,jW]],evl1 (e:=[yp,wd,jW]) hp1,λv H' g a=>k v H' (((zb hp).trans (zb hp1)).trans g) (a.imp λx e=>by subst e;exact zu hp1)⟩
  rw [ub h1] at k ⊢;by_cases h2:c=40
  ·rw [uf h2] at k ⊢;exact λp hp p1 hp1=>⟨op,ho.mono ((zb hp).trans (zb hp1)),[[yp,wd,mRow]],evl1 (e:=[yp,wd,mRow]) hp1,λv H' g a=>k v H' (((zb hp).trans (zb hp1)).trans g) (a.imp λx e=>by subst e;exact zu hp1)⟩
  rw [ub h2] at k ⊢;by_cases h3:c=61
  ·rw [uf h3] at k ⊢;exact λp hp p1 hp1 p2 hp2=>k _ _ ((zb hp).trans ((zb hp1).trans (zb hp2))) (Zl (zb hp1 _ _ zd) ((ho.mono (zb hp)).mono (zb hp1)) evl0 (zu hp1) hp2)
  rw [ub h3] at k ⊢;by_cases h4:c=33
  ·rw [uf h4] at k ⊢;exact λp hp p1 hp1 p2 hp2=>k _ _ ((zb hp).trans ((zb hp1).trans (zb hp2))) (Zl (zb hp1 _ _ zd) ((ho.mono (zb hp)).mono (zb hp1)) evl0 (zu hp1) hp2)
  rw [ub h4] at k ⊢;exact k _ _ (Same.refl H) rfl
theorem zc6 (T:Txt w K mg t)(D:Df K mg "at_is" W7 yr)(F_come_to:OkF P w K mg base 1 "come_to" zK zR):OkF P w K mg base 2 "at_is" yr JM:=by
 refine D.ok zcJ (λvs H Q E h=>?_) (λf cdv A outer s H vs Q E hr h=>?_)
 ·refine ex5 h λ_ _ _ _ _ h=>?_;exact av4 h λ_ _ _ _=>rfl
 ·refine ex5 h λwd oa op tk c h=>?_;refine av4 h λho hw hop k=>?_
  refine⟨_,((ze (zw (zl zD (qv 3) (qe_S (l:=[34]) (by decide +kernel)) (zp _)) (zf (zj (zk F_come_to hr (by decide) (za (by exact(qe_S (l:=[113,117,111,116,101,100]) (by decide +kernel))) (by exact(za (by exact(qv 1)) (by exact(za (by exact(zv (za (zq (za (qe_S (l:=[97,116,116,114]) (by decide +kernel)) (za (qv 0) (za (qe_S (l:=[113,117,111,116,101,100]) (by decide +kernel)) zc)))) zc))) (by exact zc))))))))) zm)
   (zf (zj zF)))).h,?_⟩
  walk_at "rd";unfold aIs at k;by_cases h0:c=34
  ·rw [uf h0] at k ⊢;exact λp hp p1 hp1=>⟨op,ho.mono ((zb hp).trans (zb hp1)),[[yp,wd,qf]],evl1 (e:=[yp,wd,qf]) hp1,λv H' g a=>k v H' (((zb hp).trans (zb hp1)).trans g) (a.imp λx e=>by subst e;exact zu hp1)⟩
  rw [ub h0] at k ⊢;exact k _ _ (Same.refl H) rfl
theorem Kn (T:Txt w K mg t)(D:Df K mg "at_bang" ZW xE):OkF P w K mg base 1 "at_bang" xE kU:=by
 refine D.ok YT (λvs H Q E h=>?_) (λf cdv A outer s H vs Q E hr h=>?_)
 ·refine ex5 h λ_ _ _ _ _ h=>?_;exact av4 h λ_ _ _ _=>rfl
 ·refine ex5 h λwd oa op tk c h=>?_;refine av4 h λho hw hop k=>?_
  refine⟨_,((ze (zw (zl zD (qv 3) (qe_S (l:=[34]) (by decide +kernel)) (zp _)) (zf (zj (zq (za (zq (za (qe_S (l:=[116,97,108,107]) (by decide +kernel)) (za (qe_S (l:=[]) (by decide +kernel)) (za (qv 1) (za (qe_S (l:=[98,101,116,119,101,101,110]) (by decide +kernel)) zc))))) (za (zv (za (zq (za (qe_S (l:=[97,116,116,114]) (by decide +kernel)) (za (qv 0) (za (qe_S (l:=[116,97,108,107]) (by decide +kernel)) zc)))) zc)) zc))))) zm)
   (zf (zj zF)))).h,?_⟩
  walk_at "rd";unfold Vf at k;by_cases h0:c=34
  ·rw [uf h0] at k ⊢;exact λp hp p1 hp1 p2 hp2 p3 hp3=>k _ _ ((zb hp).trans ((zb hp1).trans ((zb hp2).trans (zb hp3)))) (Zl (zb hp2 _ _ (zb hp1 _ _ zd)) (((ho.mono (zb hp)).mono (zb hp1)).mono (zb hp2)) (evl1 (e:=[yp,wd,vz]) hp2) (zu (zu hp2)) hp3)
  rw [ub h0] at k ⊢;exact k _ _ (Same.refl H) rfl
theorem Ko (T:Txt w K mg t)(D:Df K mg "at_bare" ZX xF)(F_told:OkF P w K mg base 2 "told" jB wz)(F_come_to:OkF P w K mg base 1 "come_to" zK zR)(F_led_on:OkF P w K mg base 3 "led_on" wg vE):OkF P w K mg base 4 "at_bare" xF kW:=by
 refine D.ok YU (λvs H Q E h=>?_) (λf cdv A outer s H vs Q E hr h=>?_)
 ·refine ex5 h λ_ _ _ _ _ h=>?_;exact av4 h λ_ _ _ _=>rfl
 ·refine ex5 h λwd oa op tk c h=>?_;refine av4 h λho hw hop k=>?_
  refine⟨_,((ze (zw (zl wU (qv 3) (qM T.g_WORDSIGNS) (by rfl)) (zf (zj (zk F_told hr (by decide) (za (qe_S (l:=[98,97,114,101]) (by decide +kernel)) (za (qv 1) (za (qv 3) zc)))))) zm)
   (ze (zw (zl zD (qv 3) (qe_S (l:=[126]) (by decide +kernel)) (zp _)) (zf (zj (zk F_come_to hr (by decide) (za (by exact(qe_S (l:=[99,111,100,101]) (by decide +kernel))) (by exact(za (by exact(qv 1)) (by exact(za (by exact(zv zc)) (by exact zc))))))))) zm)
   (zf (zj (zk F_led_on hr (by decide) (za (by exact(qv 1)) (by exact(za (by exact(qv 3)) (by exact(za (by exact(zv zc)) (by exact zc)))))))))))).h,?_⟩
  walk_at "rd";unfold Vg at k;by_cases h0:c∈ws
  ·rw [uf h0] at k ⊢;exact⟨op,some c,rfl,ho,λv H' g a=>k v H' g a⟩
  rw [ub h0] at k ⊢;by_cases h1:c=126
  ·rw [uf h1] at k ⊢;exact λp hp=>⟨op,ho.mono (zb hp),[],evl0,λv H' g a=>k v H' ((zb hp).trans g) (a.imp λx e=>by subst e;exact hp)⟩
  rw [ub h1] at k ⊢;exact λp hp=>⟨op,ho.mono (zb hp),[],evl0,by simp,λv H' g a=>k v H' ((zb hp).trans g) (a.imp λx e=>e.elim zu λe=>by subst e;exact hp)⟩
theorem Kq (T:Txt w K mg t)(D:Df K mg "at_code" ZY xG)(F_told:OkF P w K mg base 2 "told" jB wz)(F_sign_told:OkF P w K mg base 2 "sign_told" jo xg):OkF P w K mg base 3 "at_code" xG kX:=by
 refine D.ok YV (λvs H Q E h=>?_) (λf cdv A outer s H vs Q E hr h=>?_)
 ·refine ex5 h λ_ _ _ _ _ h=>?_;exact av4 h λ_ _ _ _=>rfl
 ·refine ex5 h λwd oa op tk c h=>?_;refine av4 h λho hw hop k=>?_
  refine⟨_,((ze (zw (zl zD (qv 0) (qe_S (l:=[]) (by decide +kernel)) (zp _)) (zf (zj (wB (zl wU (qv 3) (qM T.g_FIGURES) (by rfl)) (zq (za (zq (za (qe_S (l:=[99,111,100,101]) (by decide +kernel)) (za (qv 3) (za (qv 1) (za (qe_S (l:=[]) (by decide +kernel)) zc))))) (za (zv zc) zc))) zF))) zm)
   (zf (zj (zk F_told hr (by decide) (za (by exact(qe_S (l:=[98,97,114,101]) (by decide +kernel))) (by exact(za (by exact(qv 1)) (by exact(za (by exact(zk F_sign_told hr (by decide) (za (zA xc (qv 0) (qv 3)) zc))) (by exact zc))))))))))).h,?_⟩
  walk_at "rd";unfold Vh at k;by_cases h0:wd=[]
  ·rw [uf h0] at k ⊢;by_cases h5:c∈fg
   ·rw [uf h5] at k ⊢;exact λp hp p1 hp1 p2 hp2=>k _ _ ((zb hp).trans ((zb hp1).trans (zb hp2))) (Zl (zb hp1 _ _ zd) ((ho.mono (zb hp)).mono (zb hp1)) evl0 (zu hp1) hp2)
   ·rw [ub h5] at k ⊢;exact k _ _ (Same.refl H) rfl
  rw [ub h0] at k ⊢;exact⟨by lia,by rw [ug];simp;lia,λH1 g1=>⟨op,L2.told (wd++[c]),rfl,ho.mono g1,λv H' g a=>k v H' (g1.trans g) (a.imp λx e=>qg g1 e)⟩⟩
theorem zbr (T:Txt w K mg t)(D:Df K mg "at_row" JD vC)(F_come_to:OkF P w K mg base 1 "come_to" zK zR)(F_told:OkF P w K mg base 2 "told" jB wz):OkF P w K mg base 3 "at_row" vC Z6:=by
 refine D.ok zbm (λvs H Q E h=>?_) (λf cdv A outer s H vs Q E hr h=>?_)
 ·refine ex5 h λ_ _ _ _ _ h=>?_;exact av4 h λ_ _ _ _=>rfl
 ·refine ex5 h λwd oa op tk c h=>?_;refine av4 h λho hw hop k=>?_
  refine⟨_,((ze (zw (zl zD (qv 3) (qe_S (l:=[92]) (by decide +kernel)) (zp _)) (zf (zj (zk F_come_to hr (by decide) (za (by exact(qe_S (l:=[115,116,114,111,107,101]) (by decide +kernel))) (by exact(za (by exact(qv 1)) (by exact(za (by exact(zv zc)) (by exact zc))))))))) zm)
   (ze (zw (zl zD (qv 3) (qe_S (l:=[44]) (by decide +kernel)) (zp _)) (zf (zj (zk F_come_to hr (by decide) (za (by exact(qe_S (l:=[114,111,119]) (by decide +kernel))) (by exact(za (by exact(qv 1)) (by exact(za (by exact(zv (za (zq (za (qe_S (l:=[110,101,120,116]) (by decide +kernel)) zc)) zc))) (by exact zc))))))))) zm)
   (ze (zw (zl zD (qv 3) (qe_S (l:=[41]) (by decide +kernel)) (zp _)) (zf (zj (zk F_come_to hr (by decide) (za (by exact(qe_S (l:=[100,111,110,101]) (by decide +kernel))) (by exact(za (by exact(qv 1)) (by exact(za (by exact(zv zc)) (by exact zc))))))))) zm)
   (zf (zj (zk F_told hr (by decide) (za (qe_S (l:=[114,111,119]) (by decide +kernel)) (za (qv 1) (za (qv 3) zc)))))))))).h,?_⟩
  walk_at "rd";unfold aRow at k;by_cases h0:c=92
  ·rw [uf h0] at k ⊢;exact λp hp=>⟨op,ho.mono (zb hp),[],evl0,λv H' g a=>k v H' ((zb hp).trans g) (a.imp λx e=>by subst e;exact hp)⟩
  rw [ub h0] at k ⊢;by_cases h1:c=44
  ·rw [uf h1] at k ⊢;exact λp hp p1 hp1=>⟨op,ho.mono ((zb hp).trans (zb hp1)),[[zch]],evl1 (e:=[zch]) hp1,λv H' g a=>k v H' (((zb hp).trans (zb hp1)).trans g) (a.imp λx e=>by subst e;exact zu hp1)⟩
  rw [ub h1] at k ⊢;by_cases h2:c=41
  ·rw [uf h2] at k ⊢;exact λp hp=>⟨op,ho.mono (zb hp),[],evl0,λv H' g a=>k v H' ((zb hp).trans g) (a.imp λx e=>by subst e;exact hp)⟩
  rw [ub h2] at k ⊢;exact⟨op,some c,rfl,ho,λv H' g a=>k v H' g a⟩
theorem Xn (T:Txt w K mg t)(D:Df K mg "at_stroke" yt jY)(F_told:OkF P w K mg base 2 "told" jB wz):OkF P w K mg base 3 "at_stroke" jY vX:=by
 refine D.ok W8 (λvs H Q E h=>?_) (λf cdv A outer s H vs Q E hr h=>?_)
 ·refine ex5 h λ_ _ _ _ _ h=>?_;exact av4 h λ_ _ _ _=>rfl
 ·refine ex5 h λwd oa op tk c h=>?_;refine av4 h λho hw hop k=>?_;refine⟨_,((zf (zj (zk F_told hr (by decide) (za (qe_S (l:=[114,111,119]) (by decide +kernel)) (za (qv 1) (za (qv 3) zc))))))).h,?_⟩
  walk_at "rd";unfold Zj at k;exact⟨op,some c,rfl,ho,λv H' g a=>k v H' g a⟩
theorem Xo (T:Txt w K mg t)(D:Df K mg "at_quoted" yu jZ)(F_come_to:OkF P w K mg base 1 "come_to" zK zR)(F_told:OkF P w K mg base 2 "told" jB wz):OkF P w K mg base 3 "at_quoted" jZ vY:=by
 refine D.ok W9 (λvs H Q E h=>?_) (λf cdv A outer s H vs Q E hr h=>?_)
 ·refine ex5 h λ_ _ _ _ _ h=>?_;exact av4 h λ_ _ _ _=>rfl
 ·refine ex5 h λwd oa op tk c h=>?_;refine av4 h λho hw hop k=>?_
  refine⟨_,((ze (zw (zl zD (qv 3) (qe_S (l:=[34]) (by decide +kernel)) (zp _)) (zf (zj (zk F_come_to hr (by decide) (za (by exact(qe_S (l:=[100,111,110,101]) (by decide +kernel))) (by exact(za (by exact(qv 1)) (by exact(za (by exact(zv zc)) (by exact zc))))))))) zm)
   (ze (zw (zl zD (qv 3) (qe_S (l:=[38]) (by decide +kernel)) (zp _)) (zf (zj (zk F_come_to hr (by decide) (za (by exact(qe_S (l:=[113,109,97,114,107]) (by decide +kernel))) (by exact(za (by exact(qv 1)) (by exact(za (by exact(zv zc)) (by exact zc))))))))) zm)
   (zf (zj (zk F_told hr (by decide) (za (qe_S (l:=[113,117,111,116,101,100]) (by decide +kernel)) (za (qv 1) (za (qv 3) zc))))))))).h,?_⟩
  walk_at "rd";unfold Zk at k;by_cases h0:c=34
  ·rw [uf h0] at k ⊢;exact λp hp=>⟨op,ho.mono (zb hp),[],evl0,λv H' g a=>k v H' ((zb hp).trans g) (a.imp λx e=>by subst e;exact hp)⟩
  rw [ub h0] at k ⊢;by_cases h1:c=38
  ·rw [uf h1] at k ⊢;exact λp hp=>⟨op,ho.mono (zb hp),[],evl0,λv H' g a=>k v H' ((zb hp).trans g) (a.imp λx e=>by subst e;exact hp)⟩
  rw [ub h1] at k ⊢;exact⟨op,some c,rfl,ho,λv H' g a=>k v H' g a⟩
theorem VY (T:Txt w K mg t)(D:Df K mg "at_qmark" kC wK)(F_gathered:OkF P w K mg base 1 "gathered" zY qi)(F_mark_ended:OkF P w K mg base 3 "mark_ended" qC jy)(F_told:OkF P w K mg base 2 "told" jB wz):OkF P w K mg base 4 "at_qmark" wK yJ:=by
 refine D.ok VD (λvs H Q E h=>?_) (λf cdv A outer s H vs Q E hr h=>?_)
 ·refine ex5 h λ_ _ _ _ _ h=>?_;exact av4 h λ_ _ _ _=>rfl
 ·refine ex5 h λwd oa op tk c h=>?_;refine av4 h λho hw hop k=>?_
  refine⟨_,((ze (zw (zl wU (qv 3) (qM T.g_FIGURES) (by rfl)) (zf (zj (zk F_gathered hr (by decide) (za (by exact(qe_S (l:=[113,109,97,114,107]) (by decide +kernel))) (by exact(za (by exact(zA xc (qv 0) (qv 3))) (by exact(za (by exact(qv 1)) (by exact(za (by exact(qe_S (l:=[]) (by decide +kernel))) (by exact(za (by exact(qM T.g_MARK_FIGURES)) (by exact zc))))))))))))) zm)
   (zf (zj (zk F_told hr (by decide) (za (by exact(qe_S (l:=[113,117,111,116,101,100]) (by decide +kernel))) (by exact(za (by exact(qv 1)) (by exact(za (by exact(zk F_mark_ended hr (by decide) (za (qv 0) (za (qv 3) zc)))) (by exact zc))))))))))).h,?_⟩
  walk_at "rd";unfold Jj at k;by_cases h0:c∈fg
  ·rw [uf h0] at k ⊢;exact⟨by lia,op,2,rfl,ho,by rw [ug];simp;lia,λv H' g a=>k v H' g a⟩
  rw [ub h0] at k ⊢;exact⟨by lia,λH1 g1=>⟨op,Qn wd c,rfl,ho.mono g1,λv H' g a=>k v H' (g1.trans g) (a.imp λx e=>qg g1 e)⟩⟩
theorem Kr (T:Txt w K mg t)(D:Df K mg "at_done" ZZ xH)(F_led_on:OkF P w K mg base 3 "led_on" wg vE):OkF P w K mg base 4 "at_done" xH kY:=by
 refine D.ok YW (λvs H Q E h=>?_) (λf cdv A outer s H vs Q E hr h=>?_)
 ·refine ex5 h λ_ _ _ _ _ h=>?_;exact av4 h λ_ _ _ _=>rfl
 ·refine ex5 h λwd oa op tk c h=>?_;refine av4 h λho hw hop k=>?_;refine⟨_,((zf (zj (zk F_led_on hr (by decide) (za (by exact(qv 1)) (by exact(za (by exact(qv 3)) (by exact(za (by exact(zv zc)) (by exact zc)))))))))).h,?_⟩
  walk_at "rd";unfold Vi at k;exact λp hp=>⟨op,ho.mono (zb hp),[],evl0,by simp,λv H' g a=>k v H' ((zb hp).trans g) (a.imp λx e=>e.elim zu λe=>by subst e;exact hp)⟩
end
section
variable {P:Program} {w:World} {K:Le} {mg:La} {base:Heap} {t:Ads}
theorem Ks (T:Txt w K mg t)(D:Df K mg "at_talk" Z0 xI)(F_come_to:OkF P w K mg base 1 "come_to" zK zR)(F_fed:OkF P w K mg base 4 "fed" ZP Xf):OkF P w K mg base 5 "at_talk" xI kZ:=by
 refine D.ok YX (λvs H Q E h=>?_) (λf cdv A outer s H vs Q E hr h=>?_)
 ·refine ex5 h λ_ _ _ _ _ h=>?_;exact av4 h λ_ _ _ _=>rfl
 ·refine ex5 h λwd oa op tk c h=>?_;refine av4 h λho hw hop k=>?_
  refine⟨_,((ze (zw (zl zD (qv 3) (qe_S (l:=[38]) (by decide +kernel)) (zp _)) (zf (zj (zq (za (zq (za (qe_S (l:=[116,109,97,114,107]) (by decide +kernel)) (za (qe_S (l:=[]) (by decide +kernel)) (za (qv 1) (za (qv 2) zc))))) (za (zv zc) zc))))) zm)
   (ze (zw (zl zD (qv 3) (qe_S (l:=[34]) (by decide +kernel)) (zp _)) (zf (zj (wB (zl (WY (K:=K) (by rfl)) (qv 2) (zq (za (qe_S (l:=[98,101,116,119,101,101,110]) (by decide +kernel)) (za (qe_S (l:=[119,111,114,100]) (by decide +kernel)) zc))) (by rfl)) (zk F_come_to hr (by decide) (za (by exact(qe_S (l:=[100,111,110,101]) (by decide +kernel))) (by exact(za (by exact(qv 1)) (by exact(za (by exact(zv zc)) (by exact zc))))))) zF))) zm)
   (zf (zj (zk F_fed hr (by decide) (za (qv 1) (za (qv 2) (za (qv 3) zc))))))))).h,?_⟩
  walk_at "rd";unfold Vj at k;by_cases h0:c=38
  ·rw [uf h0] at k ⊢;exact λp hp p1 hp1 p2 hp2=>k _ _ ((zb hp).trans ((zb hp1).trans (zb hp2))) (Zl (zb hp1 _ _ zd) ((ho.mono (zb hp)).mono (zb hp1)) evl0 (zu hp1) hp2)
  rw [ub h0] at k ⊢;by_cases h1:c=34
  ·rw [uf h1] at k ⊢;intro p hp;refine⟨_,.inr (SqT.of zd),rfl,rfl,?_⟩;have e:=QM tk [q9,y4];rw [show([q9,y4].map λx=>V.str (S x))=[V.str (S [98,101,116,119,101,101,110]),V.str (S [119,111,114,100])] from rfl] at e;rw [e];have g0:=zb (o:=.tup [V.str (S [98,101,116,119,101,101,110]),V.str (S [119,111,114,100])]) hp;by_cases h5:tk=q9\/tk=y4
   ·rw [uf h5] at k;rw [uf (by simpa using h5)];exact λp1 hp1=>⟨op,(ho.mono g0).mono (zb hp1),[],evl0,λv H' g a=>k v H' (g0.trans ((zb hp1).trans g)) (a.imp λx e=>by subst e;exact zu hp1)⟩
   ·rw [ub h5] at k;rw [ub (by simpa using h5)];exact k _ _ g0 rfl
  rw [ub h1] at k ⊢;exact⟨op,some c,rfl,ho,λv H' g a=>k v H' g a⟩
theorem VZ (T:Txt w K mg t)(D:Df K mg "at_tmark" kD wL)(F_gathered:OkF P w K mg base 1 "gathered" zY qi)(F_mark_ended:OkF P w K mg base 3 "mark_ended" qC jy)(F_fed:OkF P w K mg base 4 "fed" ZP Xf):OkF P w K mg base 5 "at_tmark" wL yK:=by
 refine D.ok VE (λvs H Q E h=>?_) (λf cdv A outer s H vs Q E hr h=>?_)
 ·refine ex5 h λ_ _ _ _ _ h=>?_;exact av4 h λ_ _ _ _=>rfl
 ·refine ex5 h λwd oa op tk c h=>?_;refine av4 h λho hw hop k=>?_
  refine⟨_,((ze (zw (zl wU (qv 3) (qM T.g_FIGURES) (by rfl)) (zf (zj (zk F_gathered hr (by decide) (za (by exact(qe_S (l:=[116,109,97,114,107]) (by decide +kernel))) (by exact(za (by exact(zA xc (qv 0) (qv 3))) (by exact(za (by exact(qv 1)) (by exact(za (by exact(qv 2)) (by exact(za (by exact(qM T.g_MARK_FIGURES)) (by exact zc))))))))))))) zm)
   (zf (zj (zk F_fed hr (by decide) (za (by exact(qv 1)) (by exact(za (by exact(qv 2)) (by exact(za (by exact(zk F_mark_ended hr (by decide) (za (qv 0) (za (qv 3) zc)))) (by exact zc))))))))))).h,?_⟩
  walk_at "rd";unfold Jk at k;by_cases h0:c∈fg
  ·rw [uf h0] at k ⊢;exact⟨by lia,op,2,rfl,ho,by rw [ug];simp;lia,λv H' g a=>k v H' g a⟩
  rw [ub h0] at k ⊢;exact⟨by lia,λH1 g1=>⟨op,Qn wd c,rfl,ho.mono g1,λv H' g a=>k v H' (g1.trans g) (a.imp λx e=>qg g1 e)⟩⟩
theorem Kt (T:Txt w K mg t)(D:Df K mg "at_asis" yU xJ)(F_box_shut:OkF P w K mg base 2 "box_shut" jd wO)(F_come_to:OkF P w K mg base 1 "come_to" zK zR):OkF P w K mg base 3 "at_asis" xJ k8:=by
 refine D.ok kE (λvs H Q E h=>?_) (λf cdv A outer s H vs Q E hr h=>?_)
 ·refine ex5 h λ_ _ _ _ _ h=>?_;exact av4 h λ_ _ _ _=>rfl
 ·refine ex5 h λwd oa op tk c h=>?_;refine av4 h λho hw hop k=>?_
  refine⟨_,((ze (zy (i:=4) kE.nd (by rfl) (Or.inl (by rfl)) (zA xc (qv 0) (qv 3)))
   (ze (zw (zl zD (qv 4) (qM T.g_ASIS_END) (zp _)) (zf (zj (zk F_box_shut hr (by decide) (za (qv 1) (za (zv zc) zc))))) zm)
   (ze (zw (ja (wc (K:=K) (by rfl) PySem.F.plainAttrs_str PySem.F.slot_str_startswith PySem.F.type_str_startswith Jl (qM T.g_ASIS_END) (za (qv 4) zc))) (zf (zj (zq (za (zq (za (qe_S (l:=[97,115,105,115]) (by decide +kernel)) (za (qv 4) (za (qv 1) (za (qe_S (l:=[]) (by decide +kernel)) zc))))) (za (zv zc) zc))))) zm)
   (ze ⟨zbU (i:=5) kE.nd rfl (Or.inl rfl) (lcs (N:=Z1) (sc:=zg yU) rfl rfl rfl (by decide +kernel)) ((zcv (qv 0))).h (λ_ _ _ _ _=>zen.h) (λ_ _ _ _ _=>((zq (za (qe_S (l:=[115,105,103,110]) (by decide +kernel)) (za (qv 0) zc)))).h)⟩
   (ze (zw (zl zD (qv 3) (qe_S (l:=[60]) (by decide +kernel)) (zp _)) (zf (zj (zq (za (zq (za (qe_S (l:=[97,115,105,115]) (by decide +kernel)) (za (qv 3) (za (qv 1) (za (qe_S (l:=[]) (by decide +kernel)) zc))))) (za (qv 5) zc))))) zm)
   (zf (zj (zk F_come_to hr (by decide) (za (by exact(qe_S (l:=[97,115,105,115]) (by decide +kernel))) (by exact(za (by exact(qv 1)) (by exact(za (by exact(zA xo (qv 5) (zv (za (zq (za (qe_S (l:=[115,105,103,110]) (by decide +kernel)) (za (qv 3) zc))) zc)))) (by exact zc))))))))))))))).h,?_⟩
  walk_at "rd";unfold Vk at k;refine⟨by lia,?_⟩;by_cases h1:wd++[c]=vL
  ·rw [uf h1] at k ⊢;exact λp hp=>⟨op,ho.mono (zb hp),[],evl0,by simp,λv H' g a=>k v H' ((zb hp).trans g) (a.imp λx e=>zu e)⟩
  rw [ub h1] at k ⊢;by_cases h2:(wd++[c]).isPrefixOf vL=true
  ·rw [uf h2] at k ⊢;exact λp hp p1 hp1 p2 hp2=>k _ _ ((zb hp).trans ((zb hp1).trans (zb hp2))) (Zl (zb hp1 _ _ zd) ((ho.mono (zb hp)).mono (zb hp1)) evl0 (zu hp1) hp2)
  rw [ub h2] at k ⊢;refine zek (λc v H=>EvV H v [jv,[c]]) (λc v H1 H2 h g=>h.mono g) (λc v H1 D xs ys h hD=>?_) (by rw [uH];lia) (λc _ H1 g R r=>?_) (λD H2 ys hD g2 hy hG hD2=>?_)
  ·obtain⟨a,e1,e2⟩:=h;exact⟨a,e1,by rw [zr (KI e2 hD (by intro z;cases z))];exact e2⟩
  ·walk_at "rd";exact λp hp=>r _ _ (zb hp) ⟨p,rfl,zd⟩
  have he:EvA H2 ys (wd.map λk=>[jv,[k]]):=zcq hy hG;have hel:EvL H2 D (wd.map λk=>[jv,[k]]):=⟨ys,hD2,he⟩
  by_cases h3:c=60
  ·rw [uf h3] at k ⊢;exact λp hp p1 hp1=>k _ _ (g2.trans ((zb hp).trans (zb hp1))) (Zl zd ((ho.mono g2).mono (zb hp)) (hel.mono (zb hp)) hD hp1)
  rw [ub h3] at k ⊢;intro p hp p1 hp1;have g3:=(zb (o:=.tup [.str (S jv),.str (S [c])]) hp).trans (zb (o:=.lst [.ref p]) hp1);refine⟨D,rfl,ys,g3 _ _ hD2,_,zd,by rw [hy];simp;lia,λp2 hp2=>?_⟩;have g4:=g3.trans (zb (o:=.lst (ys++[.ref p])) hp2);exact⟨op,(ho.mono g2).mono g4,_,⟨_,zd,(he.mono g4).app (.cons ⟨p,rfl,zb hp2 _ _ (zb hp1 _ _ zd)⟩ .nil)⟩,λv H' g a=>k v H' (g2.trans (g4.trans g)) (a.imp λx e=>by subst e;exact qg g2 (zu (zu hp2)))⟩
end
section
variable {P:Program} {w:World} {K:Le} {mg:La} {base:Heap} {t:Ads}
theorem zc7 (T:Txt w K mg t)(D:Df K mg "moved" Xa yw)(F_at_text:OkF P w K mg base 3 "at_text" xx kN)(F_at_mark:OkF P w K mg base 4 "at_mark" xy kP)(F_at_open:OkF P w K mg base 2 "at_open" xA kQ)(F_at_name:OkF P w K mg base 4 "at_name" xB kR)(F_at_slash:OkF P w K mg base 3 "at_slash" wJ yI)(F_at_shut:OkF P w K mg base 3 "at_shut" xC kS)(F_at_gap:OkF P w K mg base 2 "at_gap" vB Z5)(F_at_attr:OkF P w K mg base 2 "at_attr" xD kT)(F_at_is:OkF P w K mg base 2 "at_is" yr JM)(F_at_bang:OkF P w K mg base 1 "at_bang" xE kU)(F_at_bare:OkF P w K mg base 4 "at_bare" xF kW)(F_at_code:OkF P w K mg base 3 "at_code" xG kX)(F_at_row:OkF P w K mg base 3 "at_row" vC Z6)(F_at_stroke:OkF P w K mg base 3 "at_stroke" jY vX)(F_at_quoted:OkF P w K mg base 3 "at_quoted" jZ vY)(F_at_qmark:OkF P w K mg base 4 "at_qmark" wK yJ)(F_at_done:OkF P w K mg base 4 "at_done" xH kY)(F_at_talk:OkF P w K mg base 5 "at_talk" xI kZ)(F_at_tmark:OkF P w K mg base 5 "at_tmark" wL yK)(F_at_asis:OkF P w K mg base 3 "at_asis" xJ k8):OkF P w K mg base 6 "moved" yw Zw:=by
 refine D.ok VF (λvs H Q E h=>?_) (λf cdv A outer s H vs Q E hr h=>?_)
 ·refine ex3 h λ_ _ _ h=>?_;exact av4 h λ_ _ _ _=>rfl
 ·refine ex3 h λx st c h=>?_;refine av4 h λhst hw hop k=>?_
  refine⟨_,((ze (zy (i:=2) VF.nd (by rfl) (Or.inl (by rfl)) (zel T.d_MODES (zB (zx (K:=K) (by rfl)) (qv 0) zi (λ_ _=>(by rfl)))))
   (zf (zj (wB (zl vm (qv 2) zF (zp _)) zF (zcr (k:=5) (qv 2) hr (by decide) (za (by exact(zB (zx (K:=K) (by rfl)) (qv 0) zi (λ_ _=>(by rfl)))) (by exact(za (by exact(zB (zx (K:=K) (by rfl)) (qv 0) zi (λ_ _=>(by rfl)))) (by exact(za (by exact(zB (zx (K:=K) (by rfl)) (qv 0) zi (λ_ _=>(by rfl)))) (by exact(za (by exact(qv 1)) (by exact zc)))))))))))))).h,?_⟩
  walk_at "rd";obtain⟨p,o,rfl,hp,ho⟩:=hst
  have hF:∀ e∈tab2 t,FnV P w K mg base 5 e.2.2 (spA e.2.1):=by
   intro e he;simp only [tab2,uy,Gq,or_false] at he;rcases he with rfl | rfl | rfl | rfl | rfl | rfl | rfl | rfl | rfl | rfl | rfl | rfl | rfl | rfl | rfl | rfl | rfl | rfl | rfl | rfl
   ·exact F_at_text.fnv T.m_at_text (by decide)
   ·exact F_at_mark.fnv T.m_at_mark (by decide)
   ·exact F_at_open.fnv T.m_at_open (by decide)
   ·exact F_at_name.fnv T.m_at_name (by decide)
   ·exact F_at_slash.fnv T.m_at_slash (by decide)
   ·exact F_at_shut.fnv T.m_at_shut (by decide)
   ·exact F_at_gap.fnv T.m_at_gap (by decide)
   ·exact F_at_attr.fnv T.m_at_attr (by decide)
   ·exact F_at_is.fnv T.m_at_is (by decide)
   ·exact F_at_bang.fnv T.m_at_bang (by decide)
   ·exact F_at_bare.fnv T.m_at_bare (by decide)
   ·exact F_at_code.fnv T.m_at_code (by decide)
   ·exact F_at_row.fnv T.m_at_row (by decide)
   ·exact F_at_stroke.fnv T.m_at_stroke (by decide)
   ·exact F_at_quoted.fnv T.m_at_quoted (by decide)
   ·exact F_at_qmark.fnv T.m_at_qmark (by decide)
   ·exact F_at_done.fnv T.m_at_done (by decide)
   ·exact F_at_talk.fnv T.m_at_talk (by decide)
   ·exact F_at_tmark.fnv T.m_at_tmark (by decide)
   ·exact F_at_asis.fnv T.m_at_asis (by decide)
  refine⟨p,rfl,_,SqT.of hp,_,rfl,.inr (S st.mode),rfl,?_⟩;unfold va at k;rw [zcP t] at k;rcases VM st.mode (tab2 t) with⟨e,he,h1,h2⟩ | ⟨h1,h2⟩
  ·rw [h2] at k;unfold mtab;rw [h1,ub (by intro z;cases z)];exact⟨e.2.2,rfl,spA e.2.1,hF e he,p,rfl,_,SqT.of hp,_,rfl,p,rfl,_,SqT.of hp,_,rfl,p,rfl,_,SqT.of hp,_,rfl,st.word,o,st.opens,st.talk,c,rfl,ho,hw,hop,k⟩
  ·rw [h2] at k;unfold mtab;rw [h1,uf (show(none:Option V).getD V.non=V.non from rfl)];exact k _ _ (Same.refl H) rfl
theorem zc8 (T:Txt w K mg t)(D:Df K mg "begin" Xb j0):OkF P w K mg base 1 "begin" j0 xU:=by
 refine D.ok zcK (λvs H Q E h=>?_) (λf cdv A outer s H vs Q E hr h=>?_)
 ·exact av1 h λ_=>rfl
 ·refine av1 h λk=>?_;refine⟨_,((zf (zj (zq (za (by exact(qe_S (l:=[116,101,120,116]) (by decide +kernel))) (by exact(za (by exact(qe_S (l:=[]) (by decide +kernel))) (by exact(za (by exact(zq zc)) (by exact(za (by exact(qe_S (l:=[]) (by decide +kernel))) (by exact zc)))))))))))).h,?_⟩
  walk_at "rd";exact λp hp p1 hp1=>k _ _ ((zb hp).trans (zb hp1)) ⟨p1,p,rfl,zd,zb hp1 _ _ zd⟩
theorem zeG (T:Txt w K mg t)(D:Df K mg "step" YY yV)(F_moved:OkF P w K mg base 6 "moved" yw Zw):OkF P w K mg base 7 "step" yV QP:=by
 refine D.ok zey (λvs H Q E h=>?_) (λf cdv A outer s H vs Q E hr h=>?_)
 ·refine ex3 h λ_ _ _ h=>?_;exact av4 h λ_ _ _ _=>rfl
 ·refine ex3 h λx st c h=>?_;refine av4 h λhst hw hop k=>?_;refine⟨_,((zf (zj (zk F_moved hr (by decide) (za (qv 0) (za (qv 1) zc)))))).h,?_⟩
  walk_at "rd";exact⟨st,hst,hw,hop,k⟩
theorem Ku (T:Txt w K mg t)(D:Df K mg "floored" Z2 wj):OkF P w K mg base 1 "floored" wj vZ:=by
 refine D.ok YZ (λvs H Q E h=>?_) (λf cdv A outer s H vs Q E hr h=>?_)
 ·refine ex2 h λ_ _ h=>?_;exact av2 h λ_ _=>rfl
 ·refine ex2 h λx st h=>?_;refine av2 h λhst k=>?_;refine⟨_,((zf (zj (zq (za (by exact(zB (zx (K:=K) (by rfl)) (qv 0) zi (λ_ _=>(by rfl)))) (by exact(za (by exact(zB (zx (K:=K) (by rfl)) (qv 0) zi (λ_ _=>(by rfl)))) (by exact(za (by exact(zq zc)) (by exact(za (by exact(zB (zx (K:=K) (by rfl)) (qv 0) zi (λ_ _=>(by rfl)))) (by exact zc)))))))))))).h,?_⟩
  walk_at "rd";obtain⟨p,o,rfl,hp,ho⟩:=hst;exact⟨p,rfl,_,SqT.of hp,_,rfl,p,rfl,_,SqT.of hp,_,rfl,λp1 hp1=>⟨p,rfl,_,SqT.of (zb hp1 _ _ hp),_,rfl,λp2 hp2=>k _ _ ((zb hp1).trans (zb hp2)) ⟨p2,p1,rfl,zd,zb hp2 _ _ zd⟩⟩⟩
end
section
variable {P:Program} {w:World} {K:Le} {mg:La} {base:Heap} {t:Ads}
noncomputable def Zz (es:List Ev)(i:Nat):Except Nat (MS×List Ev)->Except Nat (MS×List Ev)
 | .error n=>.error (n+i)
 | .ok (s',fs)=>.ok (s',es++fs)
theorem zeH (r:Except Nat (MS×List Ev)):Zz [] 0 r=r:=by
 cases r with
 | error n=>rfl
 | ok r=>cases r;rfl
theorem Kv {s s':MS}{c:Nat}{r:Lc}{es fs:List Ev}{i:Nat}(h:va s c=some (s',fs)):Zz es i (runM s (c::r))=Zz (es++fs) (i+1) (runM s' r):=by
 simp only [runM,h];cases runM s' r with
 | error n=>simp only [Zz];congr 1;omega
 | ok q=>obtain⟨s2,gs⟩:=q;simp only [Zz,UH]
theorem Kw {s:MS}{c:Nat}{r:Lc}{es:List Ev}{i:Nat}(h:va s c=none):Zz es i (runM s (c::r))=.error i:=by simp only [runM,h,Zz,gJ]
def rInv (x:V)(st:MS)(l:Lc)(p:Addr)(H:Hp)(i:Nat)(σ:L2.St)(H':Hp):Prop:=∃ (v:V) (s:MS) (es:List Ev) (o4 o5 o6:Option V),σ=[some x,some (V.str (S l)),some v,some (V.ref p),o4,o5,o6]/\Same H H'/\StV H' v s/\EvL H' p es/\s.word.length<=8/\s.opens.length<=st.opens.length+i/\es.length<=10 * i/\runM st l=Zz es i (runM s (l.drop i))
theorem zhP (T:Txt w K mg t)(D:Df K mg "run" zcM JG)(F_step:OkF P w K mg base 7 "step" yV QP)(R_Unread:Err P w K mg base "Unread" t.Unread "at" payT):OkX P w K mg base 8 "run" JG (Y2 t):=by
 refine D.okX kF (λvs H Q E h=>?_) (λf cdv A outer s H vs Q E hr h=>?_)
 ·refine ex3 h λ_ _ _ h=>?_;exact av5 h λ_ _ _ _ _=>rfl
 ·refine ex3 h λx st l h=>?_;refine av5 h λhst hw hl k kx=>?_
  refine⟨_,((ze (zy (i:=2) kF.nd (by rfl) (Or.inl (by rfl)) (qv 0))
   (ze (zy (i:=3) kF.nd (by rfl) (Or.inl (by rfl)) (zv zc))
   (ze (we PassesOwn.leaving (by rfl) (zcu (by rfl) T.z_enumerate (za (qv 1) zc)) (zhD (n:=2) (by rfl) (Vr (qW (i:=4) kF.nd (by rfl) (Or.inl (by rfl))) (Vr (qW (i:=5) kF.nd (by rfl) (Or.inl (by rfl))) zem))) (ze (zy (i:=6) kF.nd (by rfl) (Or.inl (by rfl)) (zk F_step hr (by decide) (za (qv 2) (za (qv 5) zc))))
   (ze (zw (zl vm (qv 6) zF (zp _)) (zf (zcx zM R_Unread hr (by decide) (za (qv 4) zc))) zm)
   (ze (zy (i:=2) kF.nd (by rfl) (Or.inl (by rfl)) (zB (zx (K:=K) (by rfl)) (qv 6) zi (λ_ _=>(by rfl))))
   (zf (jA (wc (K:=K) (by rfl) uL PySem.F.slot_list_extend PySem.F.type_list_extend zaX (qv 3) (za (zB (zx (K:=K) (by rfl)) (qv 6) zi (λ_ _=>(by rfl))) zc))))))))
   (zf (zj (zq (za (qv 2) (za (qv 3) zc))))))))).h,?_⟩
  walk_at "rd";intro p hp;refine zcc (K:=K) (rInv x st l p H) ⟨x,st,[],none,none,none,rfl,zb hp,hst.mono (zb hp),evl0,hw,by lia,by simp,by rw [U2,zeH]⟩ ?_ ?_
  ·rintro i c σ H1 hi ⟨v,s,es,o4,o5,o6,rfl,g1,hs,he,hw1,ho1,hl1,hr⟩ p1 hp1;have hil:=(uF.mp hi).1;have ed:l.drop i=c::l.drop (i+1):=by rw [UP hil,(uF.mp hi).2]
   rw [ed] at hr
   walk_at "rd";have g2:=g1.trans (zb (o:=.tup [.int i,.str (S [c])]) hp1);refine⟨s,hs.mono (zb hp1),by lia,by lia,λv2 H2 g3 a=>?_⟩;cases hq:va s c with
   | none=>rw [hq] at a;have a:v2=.non:=a;subst a;rw [uf rfl];exact⟨.inl ⟨_,rfl,by omega,by omega⟩,λd H3 s3 _ e=>kx i (by rw [hr,Kw hq]) d H3 (g2.trans (g3.trans s3)) e⟩
   | some r=>obtain⟨s',fs⟩:=r;rw [hq] at a;obtain⟨q,sa,ea,rfl,hq1,hs1,he1,hg⟩:=a;obtain⟨b1,b2,b3⟩:=zah s c s' fs hq hw1;obtain⟨vs,e1,e2⟩:=he;obtain⟨us,f1,f2⟩:=he1;have e1':=g3 _ _ (zb hp1 _ _ e1);rw [ub (by intro z;cases z)];have l1:=e2.len;have l2:=f2.len;refine⟨q,rfl,_,SqT.of hq1,_,rfl,.inl ⟨rfl,_,SqL.of e1'⟩,q,rfl,_,SqT.of hq1,_,rfl,ea,rfl,vs,e1',us,f1,by omega,?_⟩;refine⟨sa,s',es++fs,_,_,_,rfl,?_,hs1.updL e1',⟨_,zd,((e2.mono ((zb hp1).trans g3)).updL e1').app (f2.updL e1')⟩,b1,by omega,by rw [ug];omega,by rw [hr,Kv hq]⟩;intro b o e;rw [zr (zE e hp)];exact g3 _ _ (g2 _ _ e)
  ·rintro σ H1 ⟨v,s,es,o4,o5,o6,rfl,g1,hs,he,hw1,ho1,hl1,hr⟩;rw [List.drop_length] at hr
   walk_at "rd";intro p2 hp2;refine k s es (by rw [hr];simp only [runM,Zz,uz]) _ _ (g1.trans (zb hp2)) ?_;exact⟨p2,v,p,rfl,zd,hs.mono (zb hp2),he.mono (zb hp2),hp⟩
end
section
variable {P:Program} {w:World} {K:Le} {mg:La} {base:Heap} {t:Ads}
theorem V0 (T:Txt w K mg t)(D:Df K mg "_law_cell" yz j5):OkF P w K mg base 1 "_law_cell" j5 (v8 K):=by
 refine D.ok vR (λvs H Q E h=>?_) (λf cdv A outer s H vs Q E hr h=>?_)
 ·refine ex3 h λ_ _ _ h=>?_;exact av4 h λ_ _ _ _=>rfl
 ·refine ex3 h λa ns k h=>?_;refine av4 h λhS h63 hk q=>?_
  refine⟨_,((ze (zw (zl XY (qv 1) (zJ (qZ (K:=K) (by rfl)) (by rfl) T.z_len xq (za (qv 0) zc)) (zp _)) (zf (zj (zA jS (zB (jU (K:=K) (by rfl)) (qv 0) (qv 1) (λ_ _=>(by rfl))) (zA qP (zA qP (zA Q0 zi zi) (zA Q0 zi zi)) (zA Q0 zi zi))))) zm)
   (ze (zy (i:=2) vR.nd (by rfl) (Or.inl (by rfl)) (zA vk (zA qP zi (qv 1)) zi))
   (ze (zw (zl Wf (zJ (qZ (K:=K) (by rfl)) (by rfl) T.z_len xq (za (qv 0) zc)) zi (zp _)) (zf (zy (i:=2) vR.nd (by rfl) (Or.inl (by rfl)) (zA vk (zA qP (zA jS (zB (jU (K:=K) (by rfl)) (qv 0) (zA jS (zA qP (qv 1) zi) (zJ (qZ (K:=K) (by rfl)) (by rfl) T.z_len xq (za (qv 0) zc))) (λ_ _=>(by rfl))) (zA Q0 zi zi)) zi) (zA qP (zA qP (qv 1) (qv 1)) zi)))) zm)
   (zf (zj (zA jS (zA qP (zA jS (qv 2) zi) zi) zi))))))).h,?_⟩
  walk_at "rd";refine⟨_,.inl hS,?_⟩;rw [uS];by_cases hlt:k<ns.length
  ·rw [uf (by lia)];have hn:ns[k]? = some ns[k]:=uw hlt;refine⟨_,hS,.int ns[k],by rw [Um,hn];rfl,cpow (by decide),cpow (by decide),(by unfold IntMulOk;decide +kernel),cpow (by decide),(by unfold IntMulOk;decide +kernel),_,rfl,by decide +kernel,q _ H (Same.refl H)⟩
  ·rw [ub (by lia)];refine⟨xZ (by decide),_,.inl hS,?_⟩;rw [uS];by_cases h0:0<ns.length
   ·rw [uf (by lia)];obtain⟨n,e,_⟩:=Jb (ns:=ns) (i:=(k:Int) * 7 % (ns.length:Int)) (vH (by lia)).1 (vH (by lia)).2;refine⟨yS (by decide),_,.inl hS,by rw [uS];lia,_,hS,.int n,by rw [uS];exact e,cpow (by decide),n,rfl,by decide +kernel,yS (by decide),xZ (by lia),yS (by decide),yS (by decide),q _ H (Same.refl H)⟩
   ·rw [ub (by lia)];exact⟨yS (by decide),q _ H (Same.refl H)⟩
theorem Kx (T:Txt w K mg t)(D:Df K mg "_law_mix" kH qh):OkF P w K mg base 1 "_law_mix" qh qO:=by
 refine D.ok vd (λvs H Q E h=>?_) (λf cdv A outer s H vs Q E hr h=>?_)
 ·obtain⟨_,_,_,rfl,_⟩:=h;rfl
 ·obtain⟨c,k,m,rfl,hk0,hk,hm,q⟩:=h
  refine⟨_,((ze (zw (QW.qt (xu (zl zD (zA jS (qv 0) zi) zi (zp _)) (xu (zl Wf (qv 0) (zA Q0 zi zi) (zp _)) (wq (zl Wf (zA zbB (qv 0) (zA vk (zA qP zi (qv 1)) zi)) zi (zp _)))))) (zf (zj (zA jS (zA zbB (qv 0) (zA vk (zA qP zi (qv 1)) zi)) (qv 2)))) zm)
   (ze (zy (i:=3) vd.nd (by rfl) (Or.inl (by rfl)) (zB (jU (K:=K) (by rfl)) (zv (za zi (za zi (za zi (za zi (za zi (za zi (za zi (za zi zc))))))))) (zA jS (qv 1) zi) (λ_ _=>(by rfl))))
   (ze (zy (i:=4) vd.nd (by rfl) (Or.inl (by rfl)) (zB (jU (K:=K) (by rfl)) (zv (za zi (za zi (za zi (za zi (za zi (za zi (za zi zc)))))))) (zA jS (qv 1) zi) (λ_ _=>(by rfl))))
   (ze (zy (i:=5) vd.nd (by rfl) (Or.inl (by rfl)) (zA jS (zA qP (zA vk (zA jS (zA zdZ (qv 0) (zA qP (zA qP (qv 1) (qv 1)) (qv 1))) zi) zi) (qv 3)) zi))
   (zf (zj (zA jS (zA jS (zA qP (zA vk (qv 5) zi) (qv 4)) zi) (qv 2))))))))).h,?_⟩
  have fin:∀ (v:Int) (H':Hp),Same H H'->Q (.int (v % m)) H':=λv H' g=>by have h1:=vH (a:=v) (m:=m) hm;have:=q (v % m).toNat H' (by lia) g;rw [Int.toNat_of_nonneg h1.1] at this;exact this
  refine zhm ?_ λN hN=>?_
  ·walk_at "rd";refine λp hp=>⟨_,SqL.of zd,?_⟩
   obtain⟨n1,e1,_⟩:=Jb (ns:=[1000000007,1181783503,1372345291,1518500279,1636201513,1734723539,1871234567,2012345681]) (i:=k % 8) (vH (by decide)).1 (vH (by decide)).2;refine⟨_,e1,λp2 hp2=>⟨_,SqL.of zd,?_⟩⟩;obtain⟨n2,e2,_⟩:=Jb (ns:=[100000000003,223606797763,314159265359,414213562379,577215664943,693147180563,732050807573]) (i:=k % 7) (vH (by decide)).1 (vH (by decide)).2;refine⟨_,e2,?_⟩;have g:Same H (upd (upd H p (.lst [V.int 1000000007,V.int 1181783503,V.int 1372345291,V.int 1518500279,V.int 1636201513,V.int 1734723539,V.int 1871234567,V.int 2012345681])) p2 (.lst [V.int 100000000003,V.int 223606797763,V.int 314159265359,V.int 414213562379,V.int 577215664943,V.int 693147180563,V.int 732050807573])):=(zb hp).trans (zb hp2);have m1:=vH (a:=c+k * k * k) (m:=1000000000039) (by decide);refine⟨xZ (by lia),yS (by lia),n1,rfl,xZ (by lia),n2,rfl,xZ ?_,hm,fin _ _ g⟩;have m2:=vH (a:=((c+k * k * k) % 1000000000039+1) * n1) (m:=2147483629) (by decide);lia
  ·walk_at "rd";by_cases h1:c % 2=0
   ·rw [uf h1];refine⟨cpow (by decide),?_⟩;split
    ·refine⟨xZ (by decide),by lia,?_⟩;split
     ·exact⟨xZ (by decide),by lia,hm,fin _ H (Same.refl H)⟩
     ·exact hN
    ·exact hN
   ·rw [ub h1];exact hN
end
section
variable {P:Program} {w:World} {K:Le} {mg:La} {base:Heap} {t:Ads}
theorem Ky {x:V}{s:MS}{H:Hp}{Q:VK}(k:Q (plV (xV s)) H)(hm:s.mode∉[jL,jW,mRow,qf]):if s.mode=vz then(if s.talk=wA then Q (.str (S wA)) H else Q .non H) else Q .non H:=by
 unfold xV at k;rw [ub hm] at k;by_cases h1:s.mode=vz
 ·rw [uf h1];by_cases h2:s.talk=wA
  ·rw [uf h2];rw [uf ⟨h1,h2⟩] at k;exact k
  ·rw [ub h2];rw [ub (by rintro⟨_,z⟩;exact h2 z)] at k;exact k
 ·rw [ub h1];rw [ub (by rintro⟨z,_⟩;exact h1 z)] at k;exact k
theorem V1 (T:Txt w K mg t)(D:Df K mg "place_of" ko wF):OkF P w K mg base 1 "place_of" wF yL:=by
 refine D.ok Vu (λvs H Q E h=>?_) (λf cdv A outer s H vs Q E hr h=>?_)
 ·refine ex2 h λ_ _ h=>?_;exact av2 h λ_ _=>rfl
 ·refine ex2 h λx st h=>?_;refine av2 h λhst k=>?_
  refine⟨_,((ze (zw (zl (WY (K:=K) (by rfl)) (zB (zx (K:=K) (by rfl)) (qv 0) zi (λ_ _=>(by rfl))) (zZ T.m_PLACE_MODES) (by rfl)) (zf (zj (zB (zx (K:=K) (by rfl)) (qv 0) zi (λ_ _=>(by rfl))))) zm)
   (zf (zj (wB (QW.qt (xu (zl zD (zB (zx (K:=K) (by rfl)) (qv 0) zi (λ_ _=>(by rfl))) (qe_S (l:=[116,97,108,107]) (by decide +kernel)) (zp _)) (wq (zl zD (zB (zx (K:=K) (by rfl)) (qv 0) zi (λ_ _=>(by rfl))) (qe_S (l:=[115,97,105,100]) (by decide +kernel)) (zp _))))) (qe_S (l:=[115,97,105,100]) (by decide +kernel)) zF))))).h,?_⟩
  walk_at "rd";obtain⟨p,o,rfl,hp,ho⟩:=hst;have e:=QM st.mode [jL,jW,mRow,qf];refine⟨p,rfl,_,SqT.of hp,_,rfl,_,.inr (T.s_PLACE_MODES H),rfl,rfl,?_⟩;rw [show([jL,jW,mRow,qf].map λx=>V.str (S x))=[V.str (S jL),V.str (S jW),V.str (S mRow),V.str (S qf)] from rfl] at e;rw [show tx st.mode=V.str (S st.mode) from rfl,e];by_cases h1:st.mode∈[jL,jW,mRow,qf]
  ·rw [uf (uQ h1)];unfold xV at k;rw [uf h1] at k;exact⟨p,rfl,_,SqT.of hp,_,rfl,k H (Same.refl H)⟩
  ·rw [ub (by simp only [Uj];exact h1)];have:=Ky (x:=.ref p) (k H (Same.refl H)) h1;refine⟨p,rfl,_,SqT.of hp,_,rfl,rfl,?_⟩;by_cases h2:st.mode=vz
   ·rw [uf h2] at this;rw [uf (show tx st.mode=V.str (S vz) by rw [h2];rfl)];refine⟨p,rfl,_,SqT.of hp,_,rfl,rfl,?_⟩;by_cases h3:st.talk=wA
    ·rw [uf h3] at this;rw [uf (show tx st.talk=V.str (S wA) by rw [h3];rfl)];exact this
    ·rw [ub h3] at this;rw [ub (by intro z;exact h3 (Qj.mp (V.str.inj z)))];exact this
   ·rw [ub h2] at this;rw [ub (by intro z;exact h2 (Qj.mp (V.str.inj z)))];exact this
end
section
variable {P:Program} {w:World} {K:Le} {mg:La} {base:Heap} {t:Ads}
theorem Qb (T:Txt w K mg t)(D:Dc K mg t.Spot "Spot" "Spot.__init__" wX z0):OkC P w K mg base 1 t.Spot "Spot" z0 (qJ t):=by
 refine D.ok Z3 (λvs H Q E h=>?_) (λf cdv A outer s H vs Q E hr h=>?_)
 ·refine ex5 h λ_ _ _ _ _ h=>?_;exact av2 h λ_ _=>rfl
 ·refine ex5 h λa dx sv ta n h=>?_;refine av2 h λha q=>?_
  refine⟨_,((ze (ZL (K:=K) (by rfl) (qv 0) (qv 1))
   (ze (ZL (K:=K) (by rfl) (qv 0) (qv 2))
   (zf (ZL (K:=K) (by rfl) (qv 0) (qv 3)))))).h,?_⟩
  walk_at "rd";refine⟨_,_,_,ha,T.l_Spot,T.a_state,by decide,_,_,_,zd,T.l_Spot,T.a_turns,by simp [putF],_,_,_,zd,T.l_Spot,T.a_many,by simp only [putF];split<;>simp,?_⟩;rw [Zb,Zb];exact q
theorem V2 (T:Txt w K mg t)(D:Dm K t.Spot "met" "Spot.met" kG qN)(F_Spot___init__:OkC P w K mg base 1 t.Spot "Spot" z0 (qJ t)):OkM P w K mg base 3 t.Spot "met" qN (jO t):=by
 refine D.ok VH (λvs H Q E h=>?_) (λf cdv A outer s H vs Q E hr h=>?_)
 ·refine ex6 h λ_ _ _ _ _ _ h=>?_;exact av2 h λ_ _=>rfl
 ·refine ex6 h λa dx ta sv0 sv n h=>?_;refine av2 h λe1 q=>?_;refine⟨_,((zf (zj (Zo F_Spot___init__ hr (by decide) (za (by exact(qv 1)) (by exact(za (by exact(qm (K:=K) (by rfl) (qv 0))) (by exact(za (by exact(zA vk (qm (K:=K) (by rfl) (qv 0)) zi)) (by exact zc)))))))))).h,?_⟩
  walk_at "rd";refine⟨_,_,_,e1,T.l_Spot,T.a_turns,.ref ta,rfl,_,_,_,e1,T.l_Spot,T.a_many,_,rfl,_,rfl,λx dx' hx hd hne=>⟨_,ta,rfl,n+1,by lia,zd,?_⟩⟩;exact q x _ _ (Xh hx hd (.own x) []) hx zd
theorem JT (T:Txt w K mg t)(D:Dm K t.Spot "turned" "Spot.turned" vp qo)(F_Spot___init__:OkC P w K mg base 1 t.Spot "Spot" z0 (qJ t)):OkM P w K mg base 3 t.Spot "turned" qo (jj t):=by
 refine D.ok JJ (λvs H Q E h=>?_) (λf cdv A outer s H vs Q E hr h=>?_)
 ·refine ex7 h λ_ _ _ _ _ _ _ h=>?_;exact av4 h λ_ _ _ _=>rfl
 ·refine ex7 h λa dx ta sv0 Tn n b h=>?_;refine av4 h λe1 e3 hn q=>?_;refine⟨_,((zf (zj (Zo F_Spot___init__ hr (by decide) (za (by exact(qm (K:=K) (by rfl) (qv 0))) (by exact(za (by exact(zA xo (qm (K:=K) (by rfl) (qv 0)) (zv (za (qv 1) zc)))) (by exact(za (by exact(qm (K:=K) (by rfl) (qv 0))) (by exact zc)))))))))).h,?_⟩
  walk_at "rd";refine⟨_,_,_,e1,T.l_Spot,T.a_state,sv0,rfl,_,_,_,e1,T.l_Spot,T.a_turns,.ref ta,rfl,λp hp=>⟨ta,rfl,_,zb hp _ _ e3,_,zd,by rw [uS];simp;lia,λp1 hp1=>?_⟩⟩;have k0:=zb (o:=.lst [V.int b]) hp;have k1:=zb (o:=.lst ((Tn.map λ(t:Nat)=>V.int t)++[V.int b])) hp1;have k01:=k0.trans k1;refine⟨_,_,_,k01 _ _ e1,T.l_Spot,T.a_many,_,rfl,λx dx' hx hd hne=>⟨_,n,rfl,zd,?_⟩⟩;have g:=Xh (t:=t) (ta:=p1) (sv:=sv0) (n:=n) hx hd (.own x) [];refine q x _ p1 _ (k01.trans g) (none_of k01 hx) (none_of k0 hp1) zd ?_;refine g _ _ ?_;rw [zd,UD];rfl
theorem y2 (T:Txt w K mg t)(D:Dc K mg t.Looking "Looking" "Looking.__init__" jG qc):OkC P w K mg base 1 t.Looking "Looking" qc (jt t):=by
 refine D.ok yY (λvs H Q E h=>?_) (λf cdv A outer s H vs Q E hr h=>?_)
 ·refine ex3 h λ_ _ _ h=>?_;exact av2 h λ_ _=>rfl
 ·refine ex3 h λa dx kv h=>?_;refine av2 h λha q=>?_
  refine⟨_,((ze (ZL (K:=K) (by rfl) (qv 0) (qv 1))
   (ze (ZL (K:=K) (by rfl) (qv 0) (zv zc))
   (zf (ZL (K:=K) (by rfl) (qv 0) (zv zc)))))).h,?_⟩
  walk_at "rd";refine⟨_,_,_,ha,T.l_Looking,T.a_kept,by decide,λp hp=>?_⟩;have hpa:p≠a:=λz=>by subst z;rw [zd] at hp;cases hp
  refine⟨_,_,_,by rw [zr hpa.symm];exact zd,T.l_Looking,T.a_holes,by simp [putF],λp1 hp1=>?_⟩;have hp1a:p1≠a:=λz=>by subst z;rw [zd] at hp1;cases hp1
  have hp1p:p1≠p:=λz=>by subst z;rw [zr hpa,zd] at hp1;cases hp1
  refine⟨_,_,_,by rw [zr hp1a.symm];exact zd,T.l_Looking,T.a_pairs,by simp only [putF];split<;>simp,?_⟩;rw [zr hpa] at hp;rw [zr hp1a,zr hp1p,zr hp1a] at hp1;refine q p p1 _ zd (λb o hb e=>?_) ?_ ?_ hp1p.symm hp hp1
  ·have b1:b≠p1:=λz=>by subst z;rw [hp1] at e;cases e
   have b2:b≠p:=λz=>by subst z;rw [hp] at e;cases e
   rw [zr hb,zr b1,zr hb,zr b2,zr hb];exact e
  ·rw [zr hpa,zr hp1p.symm,zr hpa,zd]
  ·rw [zr hp1a,zd]
theorem J8 (T:Txt w K mg t)(D:Dm K t.Spot "shown" "Spot.shown" vP zP):OkMN P w K mg base 1 t.Spot "shown" zP (z5 t):=by
 refine D.okN J0 (λvs H Q E h=>?_) (λf cdv A outer s H vs Q E hr h=>?_)
 ·refine ex6 h λ_ _ _ _ _ _ h=>?_;exact av4 h λ_ _ _ _=>rfl
 ·refine ex6 h λa dx ta sv n Tn h=>?_;refine av4 h λe1 e2 e3 q=>?_;refine⟨_,((zf (zj (zq (za (xn (YE (K:=K) (by rfl)) (by rfl) T.z_list zee (za (qm (K:=K) (by rfl) (qv 0)) zc)) (za (qm (K:=K) (by rfl) (qv 0)) zc)))))).h,?_⟩
  walk_at "rd";refine⟨_,_,_,e1,T.l_Spot,T.a_turns,.ref ta,rfl,ta,rfl,_,SqL.of e2,λl hl=>⟨_,_,_,zb hl _ _ e1,T.l_Spot,T.a_many,_,rfl,λp hp=>?_⟩⟩;have k2:=zb (o:=.tup [.ref l,.int n]) hp;exact q p l _ ((zb hl).trans k2) hl zd (k2 _ _ zd)
end
section
variable {P:Program} {w:World} {K:Le} {mg:La} {base:Heap} {t:Ads}
theorem QD (T:Txt w K mg t)(D:Dm K t.Looking "look_literal" "Looking.look_literal" qR zI)(F_run:OkX P w K mg base 8 "run" JG (Y2 t))(F_Spot_met:OkM P w K mg base 3 t.Spot "met" qN (jO t))(F_Spot_shown:OkMN P w K mg base 1 t.Spot "shown" zP (z5 t))(R_Astray:ErrN P w K mg base "Astray" t.Astray fsA payA):OkM P w K mg base 12 t.Looking "look_literal" zI (z8 t):=by
 refine D.ok qH (λvs H Q E h=>?_) (λf cdv A outer s H vs Q E hr h=>?_)
 ·refine ex7 h λ_ _ _ _ _ _ _ h=>?_;exact av8 h λ_ _ _ _ _ _ _ _=>rfl
 ·refine ex7 h λlo ha sp pv ps x hv h=>?_;refine av8 h λzz0 hlo zz2 zz3 hha zz5 q qe=>?_;obtain⟨z,rfl⟩:=zz0;obtain⟨p,ep,hp⟩:=zz2;obtain⟨dx,sv,ta,e1,e2,e3⟩:=zz3;obtain⟨b1,b2,b3,b4,b5⟩:=zz5
  refine⟨_,((ze (zet (i:=4) zM T.m_Unread T.c_Unread qH.nd (by rfl) (by rfl) (by rfl) (by rfl) (λE pn xe hp hx=>(zf (zy (i:=3) qH.nd (by rfl) (Or.inl (by rfl)) (Jm hx F_run hr (by decide) (za (qm (K:=K) (by rfl) (qv 2)) (za (zB (zx (K:=K) (by rfl)) (qv 1) zi (λ_ _=>(by rfl))) zc))))))
   (λpn ea xe hxe=>(zf (zbj hxe (by rfl) R_Astray (hr.n.marked _) (by decide) (za (zbi F_Spot_shown (hr.n.marked _) (by decide) (qv 2)) (za (vN (K:=K) (by rfl) (qv 4)) zc))))))
   (zf (zj (wD F_Spot_met hr (by decide) (qv 2) (za (zB (zx (K:=K) (by rfl)) (qv 3) zi (λ_ _=>(by rfl))) zc)))))).h,?_⟩
  walk_at "rd";cases ep;obtain⟨pa,vs,rfl,hpa,rfl⟩:=pcF hp;simp only [txPs,txP,szPs,szP] at b2 b3 b4 b5;simp only [wk,jP] at q qe;have e1':=zh _ _ e1;refine⟨_,_,_,e1',T.l_Spot,T.a_state,sv,rfl,pa,rfl,_,SqT.of (zh _ _ hpa),_,yl _ _ _,x.s,z,rfl,e2.mono zh,b1,by lia,λs' es hr v H1 g1 hv1=>?_,λb hr d H1 g1 hd=>?_⟩
  ·obtain⟨p4,sa4,ea4,rfl,f1,f2,_⟩:=hv1;refine⟨dx,_,g1 _ _ e1',rfl,p4,rfl,_,SqT.of f1,sa4,qb _ _,dx,ta,sv,x.n,g1 _ _ e1',λr dx' H2 g2 hr2 er=>?_⟩;have g12:=g1.trans g2;refine q ⟨s',x.T,x.n+1⟩ [] (by rw [hr]) r [] H2 (Gr.same hha g12) .nil (xi (z9 (g1 _ _ hha) hr2) er (xW (g12 _ _ hha) (f2.mono g2)) (zt g12 _ _ e3))
  ·refine⟨t.Unread,rfl,T.c_Unread,T.kit_up_ur,⟨d,_,_,rfl,hd⟩,λea H2 g2 hc hpl=>?_⟩;have g12:=g1.trans g2;refine⟨dx,_,g12 _ _ e1',rfl,dx,ta,sv,x.n,g12 _ _ e1',x.T,g12 _ _ (zh _ _ e3),by lia,λr l H3 g3 hl hr3 hl3=>?_⟩;have G:L2.Got K H3 ea t.Unread [("at",.int (b:Nat))]:=L2.Got.mono ⟨T.c_Unread,d,hc,g2 _ _ hd⟩ g3;have hb:=zav hr;refine⟨t.Unread,_,G,T.n_Unread_at,_,rfl,⟨_,_,rfl,.inl ⟨_,rfl,by lia,by lia⟩⟩,λd4 H4 g4 n4 h4=>⟨?_,Pla.mono hpl (g3.trans g4),_,h4,by show 2≠1;decide⟩⟩;have g14:=g12.trans (g3.trans g4);have h3:=g3 _ _ (g12 _ _ hha);refine qe (.astray x.T x.n b) (by rw [hr]) _ d4 H4 (zt g14) ⟨rfl,r,?_,vh (g14 _ _ hha) (g12 _ _ hha) hl (g4 _ _ hr3) (g4 _ _ hl3)⟩;rw [hide_ne (z9 h3 n4)];exact h4
theorem Xp (T:Txt w K mg t)(D:Dm K t.Looking "look_hole" "Looking.look_hole" js zS)(F_place_of:OkF P w K mg base 1 "place_of" wF yL)(F_Spot_met:OkM P w K mg base 3 t.Spot "met" qN (jO t))(F_Spot_shown:OkMN P w K mg base 1 t.Spot "shown" zP (z5 t))(R_NoPlace:ErrN P w K mg base "NoPlace" t.NoPlace fsN payN):OkM P w K mg base 12 t.Looking "look_hole" zS (qB t):=by
 refine D.ok wN (λvs H Q E h=>?_) (λf cdv A outer s H vs Q E hr h=>?_)
 ·refine ex7 h λ_ _ _ _ _ _ _ h=>?_;exact av8 h λ_ _ _ _ _ _ _ _=>rfl
 ·refine ex7 h λlo ha sp pv ps x hv h=>?_;refine av8 h λzz0 zz1 zz2 zz3 hha zz5 q qe=>?_;obtain⟨z,rfl,hz⟩:=zz0;obtain⟨ldx,lpa,hlo⟩:=zz1;obtain⟨p,ep,hp⟩:=zz2;obtain⟨dx,sv,ta,e1,e2,e3⟩:=zz3;obtain⟨b1,b2,b3,b4,b5⟩:=zz5
  refine⟨_,((ze (zy (i:=3) wN.nd (by rfl) (Or.inl (by rfl)) (zk F_place_of hr (by decide) (za (qm (K:=K) (by rfl) (qv 2)) zc)))
   (ze (zw (zl vm (qv 3) zF (zp _)) (zf (vA zM R_NoPlace hr (by decide) (za (zB (zx (K:=K) (by rfl)) (qv 1) zi (λ_ _=>(by rfl))) (za (jN F_Spot_shown.ok hr (by decide) (qv 2)) zc)))) zm)
   (ze (jA (wc (K:=K) (by rfl) uL uN uO qj (qm (K:=K) (by rfl) (qv 0)) (za (zq (za (zB (zx (K:=K) (by rfl)) (qv 1) zi (λ_ _=>(by rfl))) (za (qv 3) zc))) zc)))
   (zf (zj (wD F_Spot_met hr (by decide) (qv 2) (za (qm (K:=K) (by rfl) (qv 2)) zc)))))))).h,?_⟩
  walk_at "rd";cases ep;obtain⟨pa,vs,rfl,hpa,rfl⟩:=pcF hp;simp only [txPs,txP,szPs,szP] at b2 b3 b4 b5;simp only [wk,jP] at q qe;have e1':=zh _ _ e1;refine⟨_,_,_,e1',T.l_Spot,T.a_state,sv,rfl,x.s,e2.mono zh,λH1 g1=>?_⟩;have hha1:=g1 _ _ hha;cases hk:xV x.s with
  | none=>rw [hk] at qe;rw [uf (show plV none=V.non from rfl)];refine⟨pa,rfl,_,SqT.of (g1 _ _ (zh _ _ hpa)),_,yl _ _ _,dx,_,g1 _ _ e1',rfl,dx,ta,sv,x.n,g1 _ _ e1',x.T,g1 _ _ (zh _ _ e3),by omega,λr l H3 g3 hl hr3 hl3=>?_⟩;refine⟨⟨_,_,rfl,.inr ⟨_,rfl,by rw [y3];exact ux hz (by decide)⟩⟩,λd4 H4 g4 n4 h4=>?_⟩;have h3:=g3 _ _ hha1;refine qe (.noplace z x.T x.n) rfl _ d4 H4 (zt (g1.trans (g3.trans g4))) ⟨rfl,r,?_,vh (g4 _ _ h3) hha1 hl (g4 _ _ hr3) (g4 _ _ hl3)⟩;rw [hide_ne (z9 h3 n4)];exact h4
  | some kd=>
   rw [hk] at q;rw [ub (by intro z;cases z)];refine⟨_,_,_,g1 _ _ (zh _ _ hlo),T.l_Looking,T.a_holes,.ref ha,rfl,.inl ⟨rfl,_,SqL.of hha1⟩,pa,rfl,_,SqT.of (g1 _ _ (zh _ _ hpa)),_,yl _ _ _,λp3 h3=>⟨ha,rfl,hv,?_⟩⟩;have k3:=zb (o:=.tup [tx z,plV (some kd)]) h3;have hp3:=z9 hha1 h3;have hha3:=k3 _ _ hha1;refine⟨hha3,by lia,?_⟩;have hG:Gr ha H (upd (upd H1 p3 (.tup [tx z,plV (some kd)])) ha (.lst (hv++[.ref p3]))) hv [.ref p3]:=⟨by rw [vF];exact zt (g1.trans k3),zd⟩
   have hsp4:=zh _ _ (hG.1 _ _ e1);refine⟨dx,_,hsp4,rfl,_,_,_,hsp4,T.l_Spot,T.a_state,sv,rfl,dx,ta,sv,x.n,hsp4,λr dx' H2 g2 hr er=>?_⟩;have G2:=hG.trans (Gr.same hG.2 g2);refine q ⟨x.s,x.T,x.n+1⟩ [(z,kd)] rfl r [.ref p3] H2 (G2.cast (by rw [uz])) (.cons ⟨p3,rfl,?_⟩ .nil) (xi (z9 hG.2 hr) er ((e2.mono hG.1).mono (zt g2)) (G2.1 _ _ e3));rw [hide_ne hp3];exact g2 _ _ (by rw [zr hp3];exact zd)
end
section
variable {P:Program} {w:World} {K:Le} {mg:La} {base:Heap} {t:Ads}
theorem Xq {k d:Nat}(hk10:20<=k)(T:Txt w K mg t)(D:Dm K t.Looking "look_each" "Looking.look_each" qD zT)(F_Spot_turned:OkM P w K mg base 3 t.Spot "turned" qo (jj t))(F_Spot_shown:OkMN P w K mg base 1 t.Spot "shown" zP (z5 t))(R_Unlike:ErrN P w K mg base "Unlike" t.Unlike fsU payU)(F_Looking_look_all:OkM P w K mg base k t.Looking "look_all" zz (zC t d)):OkM P w K mg base (k+1) t.Looking "look_each" zT (jk t (d+1)):=by
 refine D.ok je (λvs H Q E h=>?_) (λf cdv A outer s H vs Q E hr h=>?_)
 ·refine ex7 h λ_ _ _ _ _ _ _ h=>?_;exact av8 h λ_ _ _ _ _ _ _ _=>rfl
 ·refine ex7 h λlo ha sp pv ps x hv h=>?_;refine av8 h λzz0 hlo zz2 hsp hha zz5 q qe=>?_;obtain⟨nm,b,rfl,hnm,hdp⟩:=zz0;obtain⟨p,ep,hp⟩:=zz2;obtain⟨b1,b2,b3,b4,b5⟩:=zz5
  refine⟨_,((ze (zy (i:=3) je.nd (by rfl) (Or.inl (by rfl)) (wD F_Spot_turned hr (by lia) (qv 2) (za zi zc)))
   (ze (zy (i:=4) je.nd (by rfl) (Or.inl (by rfl)) (jb zM F_Looking_look_all hr (by lia) (qv 0) (za (zB (zx (K:=K) (by rfl)) (qv 1) zi (λ_ _=>(by rfl))) (za (wD F_Spot_turned hr (by lia) (qv 2) (za zi zc)) zc))))
   (ze (zw (zl (kn (hu64 hr)) (qm (K:=K) (by rfl) (qv 4)) (qm (K:=K) (by rfl) (qv 3)) (zp _)) (zf (vA zM R_Unlike hr (by lia) (za (by exact(zq (za (qe_S (l:=[101,97,99,104]) (by decide +kernel)) (za (zB (zx (K:=K) (by rfl)) (qv 1) zi (λ_ _=>(by rfl))) zc)))) (by exact(za (by exact(jN F_Spot_shown.ok hr (by lia) (qv 3))) (by exact(za (by exact(jN F_Spot_shown.ok hr (by lia) (qv 4))) (by exact zc)))))))) zm)
   (zf (zj (qv 3))))))).h,?_⟩
  walk_at "rd";cases ep;obtain⟨pa,vs,rfl,hpa,wv,rfl,hw⟩:=pcF hp;simp only [txPs,txP,szPs,szP] at b2 b3 b4 b5;simp only [wk,jP] at q qe;simp only [dpP.dpB,dpP] at hdp;simp only [nmP.nmB,nmP,gw] at hnm;obtain⟨dx,sv,ta,e1,e2,e3⟩:=hsp;have e1':=zh _ _ e1;have e3':=zh _ _ e3;obtain⟨ldx,lpa,hlo'⟩:=hlo;refine⟨dx,_,e1',rfl,dx,ta,sv,x.T,x.n,0,rfl,e1',e3',by lia,λr dx1 ta1 H1 g1 hr hta er et=>?_⟩;have hha1:=g1 _ _ hha;refine⟨ldx,_,g1 _ _ (zh _ _ hlo'),rfl,pa,rfl,_,SqT.of (g1 _ _ (zh _ _ hpa)),_,VO _ _ _ _,dx,_,g1 _ _ e1',rfl,dx,ta,sv,x.T,x.n,1,rfl,g1 _ _ e1',g1 _ _ e3',by lia,λr2 dx2 ta2 H2 g2 hr2 hta2 er2 et2=>?_⟩;have g12:=g1.trans g2;have hha2:=g12 _ _ hha;refine⟨lo,ha,r2,_,b,⟨x.s,x.T++[1],x.n⟩,hv,rfl,⟨hnm,by lia⟩,⟨ldx,lpa,zt g12 _ _ hlo'⟩,?_,xi (z9 hha1 hr2) er2 (e2.mono (zt g12)) (by rw [hide_ne (z9 hha1 hta2)];exact et2),hha2,⟨b1,by dsimp only;lia,by lia,by simp only [ug,ur];lia,by dsimp only;lia⟩,λe hs hk r3 hv3 H3 G3 ho3 sp3=>?_,λf hk c d3 H3 g3 hf=>qe f (by rw [hk]) c d3 H3 ((zt g12).trans g3) hf⟩
  ·rw [ub (by decide)];exact hw.mono (zt g12)
  obtain⟨dx3,sv3,ta3,f1,f2,f3⟩:=sp3;obtain⟨p3,rfl⟩:=jJ f2;obtain⟨p0,rfl⟩:=jJ e2;have er':hide ha H1 r=some (spO t dx1 (.ref p0) ta1 x.n):=by rw [hide_ne (z9 hha hr)];exact er
  have g3:=(zt g2).trans G3.1;have hr3:=zh _ _ (g3 _ _ er');have e23:=e2.mono ((zt g1).trans g3);have f1':=zh _ _ f1;have et3:=g3 _ _ (by rw [hide_ne (z9 hha hta)];exact et);obtain⟨_,_,d3,d4,_⟩:=jz b _ e hs hk b1;refine⟨r3,rfl,_,_,_,f1',T.l_Spot,T.a_state,_,rfl,_,_,_,hr3,T.l_Spot,T.a_state,_,rfl,dS e.s,dS x.s,p3,rfl,p0,rfl,(f2.mono zh).dat,(e23.mono zh).dat,dep_S _,?_⟩;rw [xh];have G3':=G3.pre g12;by_cases hz:e.s=x.s
  ·rw [ub (by rw [uQ hz];decide)];exact q ⟨x.s,x.T++[0],x.n⟩ hs (by rw [hk];exact uf hz) r hv3 H3 G3' ho3 (xi (z9 hha hr) hr3 e23 et3)
  ·rw [uf (by rw [uK hz];decide)];refine⟨pa,rfl,_,SqT.of (zh _ _ (G3'.1 _ _ hpa)),_,yl _ _ _,λp4 h4=>?_⟩;have k4:=zb (o:=.tup [V.str (S [101,97,99,104]),tx nm]) h4;have c4:=k4 _ _ G3.2;refine⟨dx1,_,k4 _ _ hr3,rfl,dx1,ta1,_,x.n,k4 _ _ hr3,x.T++[0],k4 _ _ (zh _ _ et3),by simp only [ug,ur];lia,λq5 l5 H5 g5 hl5 hq5 hq5'=>?_⟩;have c5:=g5 _ _ c4;have f15:=g5 _ _ (k4 _ _ f1');refine⟨r3,rfl,dx3,_,f15,rfl,r3,rfl,dx3,ta3,_,e.n,f15,e.T,g5 _ _ (k4 _ _ (zh _ _ f3)),by simp only [ug,ur] at d3;lia,λq6 l6 H6 g6 hl6 hq6 hq6'=>⟨⟨_,_,_,rfl⟩,λd7 H7 g7 n7 h7=>?_⟩⟩;have g67:=g6.trans g7;have c6:=g6 _ _ c5;have c7:=g7 _ _ c6;refine qe (.unlike [[101,97,99,104],nm] (x.T++[0]) x.n e.T e.n) (by rw [hk];exact ub hz) _ d7 H7 (G3'.1.trans (zt (k4.trans (g5.trans g67)))) ⟨rfl,p4,q5,q6,?_,?_,vh c7 c4 hl5 (g67 _ _ hq5) (g67 _ _ hq5'),vh c7 c5 hl6 (g7 _ _ hq6) (g7 _ _ hq6')⟩
   ·rw [hide_ne (z9 c6 n7)];exact h7
   ·rw [hide_ne (z9 G3.2 h4)];exact(g5.trans g67) _ _ zd
theorem Kz {k d:Nat}(hk10:20<=k)(T:Txt w K mg t)(D:Dm K t.Looking "look_if" "Looking.look_if" qY z4)(F_Spot_turned:OkM P w K mg base 3 t.Spot "turned" qo (jj t))(F_Spot_shown:OkMN P w K mg base 1 t.Spot "shown" zP (z5 t))(R_Unlike:ErrN P w K mg base "Unlike" t.Unlike fsU payU)(F_Looking_look_all:OkM P w K mg base k t.Looking "look_all" zz (zC t d)):OkM P w K mg base (k+1) t.Looking "look_if" z4 (jK t (d+1)):=by
 refine D.ok jH (λvs H Q E h=>?_) (λf cdv A outer s H vs Q E hr h=>?_)
 ·refine ex7 h λ_ _ _ _ _ _ _ h=>?_;exact av8 h λ_ _ _ _ _ _ _ _=>rfl
 ·refine ex7 h λlo ha sp pv ps x hv h=>?_;refine av8 h λzz0 hlo zz2 hsp hha zz5 q qe=>?_;obtain⟨nm,a,b,rfl,hnm,hdp⟩:=zz0;obtain⟨p,ep,hp⟩:=zz2;obtain⟨b1,b2,b3,b4,b5⟩:=zz5
  refine⟨_,((ze (zy (i:=3) jH.nd (by rfl) (Or.inl (by rfl)) (jb zM F_Looking_look_all hr (by lia) (qv 0) (za (zB (zx (K:=K) (by rfl)) (qv 1) zi (λ_ _=>(by rfl))) (za (wD F_Spot_turned hr (by lia) (qv 2) (za zi zc)) zc))))
   (ze (zy (i:=4) jH.nd (by rfl) (Or.inl (by rfl)) (jb zM F_Looking_look_all hr (by lia) (qv 0) (za (zB (zx (K:=K) (by rfl)) (qv 1) zi (λ_ _=>(by rfl))) (za (wD F_Spot_turned hr (by lia) (qv 2) (za zi zc)) zc))))
   (ze (zw (zl (kn (hu64 hr)) (qm (K:=K) (by rfl) (qv 3)) (qm (K:=K) (by rfl) (qv 4)) (zp _)) (zf (vA zM R_Unlike hr (by lia) (za (by exact(zq (za (qe_S (l:=[105,102]) (by decide +kernel)) (za (zB (zx (K:=K) (by rfl)) (qv 1) zi (λ_ _=>(by rfl))) zc)))) (by exact(za (by exact(jN F_Spot_shown.ok hr (by lia) (qv 3))) (by exact(za (by exact(jN F_Spot_shown.ok hr (by lia) (qv 4))) (by exact zc)))))))) zm)
   (zf (zj (qv 3))))))).h,?_⟩
  walk_at "rd";cases ep;obtain⟨pa,vs,rfl,hpa,wv,uv,rfl,hw,hu⟩:=pcF hp;simp only [txPs,txP,szPs,szP] at b2 b3 b4 b5;simp only [wk,jP] at q qe;simp only [dpP.dpB,dpP] at hdp;simp only [nmP.nmB,nmP,gw,uI] at hnm;obtain⟨dx,sv,ta,e1,e2,e3⟩:=hsp;have e1':=zh _ _ e1;have e3':=zh _ _ e3;obtain⟨ldx,lpa,hlo'⟩:=hlo;refine⟨ldx,_,zh _ _ hlo',rfl,pa,rfl,_,SqT.of (zh _ _ hpa),_,VO _ _ _ _,dx,_,e1',rfl,dx,ta,sv,x.T,x.n,0,rfl,e1',e3',by lia,λr dx1 ta1 H1 g1 hr hta er et=>?_⟩;have hha1:=g1 _ _ hha;refine⟨lo,ha,r,_,a,⟨x.s,x.T++[0],x.n⟩,hv,rfl,⟨hnm.1,by lia⟩,⟨ldx,lpa,zt g1 _ _ hlo'⟩,?_,xi (z9 hha hr) er (e2.mono (zt g1)) (by rw [hide_ne (z9 hha hta)];exact et),hha1,⟨b1,by dsimp only;lia,by lia,by simp only [ug,ur];lia,by dsimp only;lia⟩,λe hs hk r3 hv3 H3 G3 ho3 sp3=>?_,λf hk c d3 H3 g3 hf=>qe f (by rw [hk]) c d3 H3 ((zt g1).trans g3) hf⟩
  ·rw [ub (by decide)];exact hw.mono (zt g1)
  have G3':=G3.pre g1;have j1:=zh _ _ (G3'.1 _ _ e1);have hl3:=ho3.len;obtain⟨_,_,d3,d4,d5⟩:=jz a _ e hs hk b1;refine⟨ldx,_,zh _ _ (G3'.1 _ _ hlo'),rfl,pa,rfl,_,SqT.of (zh _ _ (G3'.1 _ _ hpa)),_,WM _ _ _ _ _,dx,_,j1,rfl,dx,ta,sv,x.T,x.n,1,rfl,j1,zh _ _ (G3'.1 _ _ e3),by lia,λr4 dx4 ta4 H4 g4 hr4 hta4 er4 et4=>?_⟩;have g34:=G3'.1.trans (zt g4);refine⟨lo,ha,r4,_,b,⟨x.s,x.T++[1],x.n⟩,hv++hv3,rfl,⟨hnm.2,by lia⟩,⟨ldx,lpa,g34 _ _ hlo'⟩,?_,xi (z9 G3.2 hr4) er4 (e2.mono g34) (by rw [hide_ne (z9 G3.2 hta4)];exact et4),g4 _ _ G3.2,⟨b1,by dsimp only;lia,by rw [ug];lia,by simp only [ug,ur];lia,by dsimp only;lia⟩,λe' hs' hk' r5 hv5 H5 G5 ho5 sp5=>?_,λf hk' c d3 H5 g5 hf=>qe f (by rw [hk];simp only [hk']) c d3 H5 (g34.trans g5) hf⟩
  ·rw [ub (by decide)];exact hu.mono g34
  have g35:=(zt g4).trans G5.1;have sp3':=sp3.mono g35;obtain⟨dx3,sv3,ta3,f1,f2,f3⟩:=sp3';obtain⟨dx5,sv5,ta5,c1,c2,c3⟩:=sp5;obtain⟨p3,rfl⟩:=jJ f2;obtain⟨p5,rfl⟩:=jJ c2;obtain⟨_,_,d6,d7,d8⟩:=jz b _ e' hs' hk' b1;have f1':=zh _ _ f1;have c1':=zh _ _ c1;refine⟨r3,rfl,_,_,_,f1',T.l_Spot,T.a_state,_,rfl,r5,rfl,_,_,_,c1',T.l_Spot,T.a_state,_,rfl,dS e.s,dS e'.s,p3,rfl,p5,rfl,(f2.mono zh).dat,(c2.mono zh).dat,dep_S _,?_⟩;rw [xh];have G5':=G3'.trans (G5.pre g4);by_cases hz:e.s=e'.s
  ·rw [ub (by rw [uQ hz];decide)];exact q e (hs++hs') (by rw [hk];simp only [hk',uf hz]) r3 (hv3++hv5) H5 G5' ((ho3.mono (TpS.of g35)).app ho5) ⟨dx3,_,ta3,f1,f2,f3⟩
  ·rw [uf (by rw [uK hz];decide)];refine⟨pa,rfl,_,SqT.of (zh _ _ (G5'.1 _ _ hpa)),_,yl _ _ _,λp4 h4=>?_⟩;have k4:=zb (o:=.tup [V.str (S [105,102]),tx nm]) h4;have c4:=k4 _ _ G5.2;refine⟨r3,rfl,dx3,_,k4 _ _ f1',rfl,r3,rfl,dx3,ta3,_,e.n,k4 _ _ f1',e.T,k4 _ _ (zh _ _ f3),by simp only [ug,ur] at d3;lia,λq5 l5 H6 g5 hl5 hq5 hq5'=>?_⟩;have c5:=g5 _ _ c4;have c15:=g5 _ _ (k4 _ _ c1');refine⟨r5,rfl,dx5,_,c15,rfl,r5,rfl,dx5,ta5,_,e'.n,c15,e'.T,g5 _ _ (k4 _ _ (zh _ _ c3)),by simp only [ug,ur] at d6;lia,λq6 l6 H7 g6 hl6 hq6 hq6'=>⟨⟨_,_,_,rfl⟩,λd9 H8 g7 n7 h7=>?_⟩⟩;have g67:=g6.trans g7;have c6:=g6 _ _ c5;have c7:=g7 _ _ c6;refine qe (.unlike [[105,102],nm] e.T e.n e'.T e'.n) (by rw [hk];simp only [hk',ub hz]) _ d9 H8 (G5'.1.trans (zt (k4.trans (g5.trans g67)))) ⟨rfl,p4,q5,q6,?_,?_,vh c7 c4 hl5 (g67 _ _ hq5) (g67 _ _ hq5'),vh c7 c5 hl6 (g7 _ _ hq6) (g7 _ _ hq6')⟩
   ·rw [hide_ne (z9 c6 n7)];exact h7
   ·rw [hide_ne (z9 G5.2 h4)];exact(g5.trans g67) _ _ zd
theorem Xr {k d:Nat}(hk10:20<=k)(T:Txt w K mg t)(D:Dm K t.Looking "look_seat" "Looking.look_seat" qE zU)(F_floored:OkF P w K mg base 1 "floored" wj vZ)(F_Spot_met:OkM P w K mg base 3 t.Spot "met" qN (jO t))(F_Spot_shown:OkMN P w K mg base 1 t.Spot "shown" zP (z5 t))(R_Unlike:ErrN P w K mg base "Unlike" t.Unlike fsU payU)(F_Looking_look_all:OkM P w K mg base k t.Looking "look_all" zz (zC t d)):OkM P w K mg base (k+1) t.Looking "look_seat" zU (jl t (d+1)):=by
 refine D.ok jf (λvs H Q E h=>?_) (λf cdv A outer s H vs Q E hr h=>?_)
 ·refine ex7 h λ_ _ _ _ _ _ _ h=>?_;exact av8 h λ_ _ _ _ _ _ _ _=>rfl
 ·refine ex7 h λlo ha sp pv ps x hv h=>?_;refine av8 h λzz0 hlo zz2 hsp hha zz5 q qe=>?_;obtain⟨wd,nm,mm,b,rfl,hnm,hdp⟩:=zz0;obtain⟨p,ep,hp⟩:=zz2;obtain⟨b1,b2,b3,b4,b5⟩:=zz5
  refine⟨_,((ze (zy (i:=3) jf.nd (by rfl) (Or.inl (by rfl)) (wD F_Spot_met hr (by lia) (qv 2) (za (zk F_floored hr (by lia) (za (qm (K:=K) (by rfl) (qv 2)) zc)) zc)))
   (ze (zy (i:=4) jf.nd (by rfl) (Or.inl (by rfl)) (jb zM F_Looking_look_all hr (by lia) (qv 0) (za (zB (zx (K:=K) (by rfl)) (qv 1) zi (λ_ _=>(by rfl))) (za (qv 3) zc))))
   (ze (zw (zl (kn (hu64 hr)) (qm (K:=K) (by rfl) (qv 4)) (qm (K:=K) (by rfl) (qv 3)) (zp _)) (zf (vA zM R_Unlike hr (by lia) (za (by exact(zq (za (by exact(qe_S (l:=[115,101,97,116]) (by decide +kernel))) (by exact(za (by exact(zB (zx (K:=K) (by rfl)) (qv 1) zi (λ_ _=>(by rfl)))) (by exact(za (by exact(zB (zx (K:=K) (by rfl)) (qv 1) zi (λ_ _=>(by rfl)))) (by exact(za (by exact(zB (zx (K:=K) (by rfl)) (qv 1) zi (λ_ _=>(by rfl)))) (by exact zc)))))))))) (by exact(za (by exact(jN F_Spot_shown.ok hr (by lia) (qv 3))) (by exact(za (by exact(jN F_Spot_shown.ok hr (by lia) (qv 4))) (by exact zc)))))))) zm)
   (zf (zj (wD F_Spot_met hr (by lia) (qv 4) (za (qm (K:=K) (by rfl) (qv 2)) zc)))))))).h,?_⟩
  walk_at "rd";cases ep;obtain⟨pa,vs,rfl,hpa,wv,rfl,hw⟩:=pcF hp;simp only [txPs,txP,szPs,szP] at b2 b3 b4 b5;simp only [wk,jP] at q qe;simp only [dpP.dpB,dpP] at hdp;simp only [nmP.nmB,nmP,gw] at hnm;obtain⟨dx,sv,ta,e1,e2,e3⟩:=hsp;have e1':=zh _ _ e1;obtain⟨ldx,lpa,hlo'⟩:=hlo;refine⟨dx,_,e1',rfl,_,_,_,e1',T.l_Spot,T.a_state,sv,rfl,x.s,e2.mono zh,λv H1 g1 hv1=>⟨dx,ta,sv,x.n,g1 _ _ e1',λr dx2 H2 g2 hr er=>?_⟩⟩;have hha1:=g1 _ _ hha;have g12:=g1.trans g2;have hha2:=g12 _ _ hha;have sv2:=xW hha2 (hv1.mono g2);have er2:hide ha H2 r=some (spO t dx2 v ta (x.n+1)):=by rw [hide_ne (z9 hha1 hr)];exact er
  refine⟨ldx,_,g12 _ _ (zh _ _ hlo'),rfl,pa,rfl,_,SqT.of (g12 _ _ (zh _ _ hpa)),_,zeZ _ _ _ _ _ _,lo,ha,r,_,b,⟨flo x.s,x.T,x.n+1⟩,hv,rfl,⟨hnm,by lia⟩,⟨ldx,lpa,zt g12 _ _ hlo'⟩,?_,xi (z9 hha1 hr) er sv2 (zt g12 _ _ e3),hha2,⟨b1,by simp;lia,by lia,by dsimp only;lia,by dsimp only;lia⟩,λe hs hk r3 hv3 H3 G3 ho3 sp3=>?_,λf hk c d3 H3 g3 hf=>qe f (by rw [hk]) c d3 H3 ((zt g12).trans g3) hf⟩
  ·rw [ub (by decide)];exact hw.mono (zt g12)
  obtain⟨dx3,sv3,ta3,f1,f2,f3⟩:=sp3;obtain⟨p3,rfl⟩:=jJ f2;have sv3':=sv2.mono G3.1;obtain⟨p0,rfl⟩:=jJ sv3';have hr3:=zh _ _ (G3.1 _ _ er2);have f1':=zh _ _ f1;have G3':=G3.pre g12;obtain⟨_,_,d3,d4,_⟩:=jz b _ e hs hk b1;refine⟨r3,rfl,_,_,_,f1',T.l_Spot,T.a_state,_,rfl,_,_,_,hr3,T.l_Spot,T.a_state,_,rfl,_,_,p3,rfl,p0,rfl,(f2.mono zh).dat,(sv3'.mono zh).dat,dep_S _,?_⟩;rw [xh];by_cases hz:e.s=flo x.s
  ·rw [ub (by rw [uQ hz];decide)];refine⟨r3,rfl,dx3,_,f1',rfl,_,_,_,zh _ _ (G3'.1 _ _ e1),T.l_Spot,T.a_state,sv,rfl,r3,rfl,dx3,ta3,_,e.n,f1',λr5 dx5 H5 g5 hr5 er5=>?_⟩;exact q ⟨x.s,e.T,e.n+1⟩ hs (by rw [hk];exact uf hz) r5 hv3 H5 ((G3'.trans (Gr.same G3'.2 g5)).cast (by rw [uz])) (ho3.mono (TpS.of (zt g5))) (xi (z9 G3'.2 hr5) er5 ((e2.mono G3'.1).mono (zt g5)) (zt g5 _ _ f3))
  ·rw [uf (by rw [uK hz];decide)];have hpa3:=SqT.of (K:=K) (zh _ _ (G3'.1 _ _ hpa));refine⟨pa,rfl,_,hpa3,_,yl _ _ _,pa,rfl,_,hpa3,_,VO _ _ _ _,pa,rfl,_,hpa3,_,WM _ _ _ _ _,λp4 h4=>?_⟩;have k4:=zb (o:=.tup [V.str (S [115,101,97,116]),tx wd,tx nm,tx mm]) h4;have c4:=k4 _ _ G3.2;refine⟨dx2,_,k4 _ _ hr3,rfl,dx2,ta,_,x.n+1,k4 _ _ hr3,x.T,k4 _ _ (zh _ _ (G3'.1 _ _ e3)),by lia,λq5 l5 H5 g5 hl5 hq5 hq5'=>?_⟩;have c5:=g5 _ _ c4;have f15:=g5 _ _ (k4 _ _ f1');refine⟨r3,rfl,dx3,_,f15,rfl,r3,rfl,dx3,ta3,_,e.n,f15,e.T,g5 _ _ (k4 _ _ (zh _ _ f3)),by dsimp only at d3;lia,λq6 l6 H6 g6 hl6 hq6 hq6'=>⟨⟨_,_,_,rfl⟩,λd7 H7 g7 n7 h7=>?_⟩⟩;have g67:=g6.trans g7;have c6:=g6 _ _ c5;have c7:=g7 _ _ c6;refine qe (.unlike [zeY,wd,nm,mm] x.T (x.n+1) e.T e.n) (by rw [hk];exact ub hz) _ d7 H7 (G3'.1.trans (zt (k4.trans (g5.trans g67)))) ⟨rfl,p4,q5,q6,?_,?_,vh c7 c4 hl5 (g67 _ _ hq5) (g67 _ _ hq5'),vh c7 c5 hl6 (g7 _ _ hq6) (g7 _ _ hq6')⟩
   ·rw [hide_ne (z9 c6 n7)];exact h7
   ·rw [hide_ne (z9 G3.2 h4)];exact(g5.trans g67) _ _ zd
theorem J9 {k d:Nat}(hk10:20<=k)(T:Txt w K mg t)(D:Dm K t.Looking "look_piece" "Looking.look_piece" qy zO)(F_Looking_look_literal:OkM P w K mg base 12 t.Looking "look_literal" zI (z8 t))(F_Looking_look_hole:OkM P w K mg base 12 t.Looking "look_hole" zS (qB t))(F_Looking_look_each:OkM P w K mg base k t.Looking "look_each" zT (jk t d))(F_Looking_look_if:OkM P w K mg base k t.Looking "look_if" z4 (jK t d))(F_Looking_look_seat:OkM P w K mg base k t.Looking "look_seat" zU (jl t d)):OkM P w K mg base (k+1) t.Looking "look_piece" zO (qU t d):=by
 refine D.ok wa (λvs H Q E h=>?_) (λf cdv A outer s H vs Q E hr h=>?_)
 ·refine ex7 h λ_ _ _ _ _ _ _ h=>?_;exact av8 h λ_ _ _ _ _ _ _ _=>rfl
 ·refine ex7 h λlo ha sp pv ps x hv h=>?_;refine av8 h λhdp hlo zz2 hsp hha bb q qe=>?_;obtain⟨p,ep,hp⟩:=zz2
  refine⟨_,((ze (zy (i:=3) wa.nd (by rfl) (Or.inl (by rfl)) (zB (zx (K:=K) (by rfl)) (qv 1) zi (λ_ _=>(by rfl))))
   (ze (zw (zl zD (qv 3) (qe_S (l:=[108,105,116]) (by decide +kernel)) (zp _)) (zf (zj (jb zM F_Looking_look_literal hr (by lia) (qv 0) (za (qv 1) (za (qv 2) zc))))) zm)
   (ze (zw (zl zD (qv 3) (qe_S (l:=[104,111,108,101]) (by decide +kernel)) (zp _)) (zf (zj (jb zM F_Looking_look_hole hr (by lia) (qv 0) (za (qv 1) (za (qv 2) zc))))) zm)
   (ze (zw (zl zD (qv 3) (qe_S (l:=[101,97,99,104]) (by decide +kernel)) (zp _)) (zf (zj (jb zM F_Looking_look_each hr (by lia) (qv 0) (za (qv 1) (za (qv 2) zc))))) zm)
   (ze (zw (zl zD (qv 3) (qe_S (l:=[105,102]) (by decide +kernel)) (zp _)) (zf (zj (jb zM F_Looking_look_if hr (by lia) (qv 0) (za (qv 1) (za (qv 2) zc))))) zm)
   (ze (zw (QW.qt (xu (zl zD (zB (zx (K:=K) (by rfl)) (qv 1) zi (λ_ _=>(by rfl))) (qe_S (l:=[100,114,97,119]) (by decide +kernel)) (zp _)) (wq (zl QH (qm (K:=K) (by rfl) (qv 0)) zF (zp _))))) (zf zcw) zm)
   (zf (zj (jb zM F_Looking_look_seat hr (by lia) (qv 0) (za (qv 1) (za (qv 2) zc)))))))))))).h,?_⟩
  walk_at "rd";cases ep;obtain⟨pa,vs,rfl,hpa,hf⟩:=pcF hp;obtain⟨ldx,lpa,hlo'⟩:=hlo;have hl:=zh _ _ hlo';have hpa':=SqT.of (K:=K) (zh _ _ hpa);have S0:∀ {Pr:List Pc->Prop},Pr [p]->spLk t true Pr [.ref lo,.ref pa,.ref sp] H Q λc d H'=>E c d H':=λhP=>⟨lo,ha,sp,_,[p],x,hv,rfl,hP,⟨ldx,lpa,hlo'⟩,by rw [uf rfl];exact⟨p,rfl,hp⟩,hsp,hha,bb,q,qe⟩
  cases p with
  | lit x=>cases hf;refine⟨pa,rfl,_,hpa',_,qb _ _,rfl,?_⟩;rw [uf (show tx _=V.str (S _) from rfl)];exact⟨_,_,hl,rfl,S0 ⟨_,rfl⟩⟩
  | hole z=>cases hf;refine⟨pa,rfl,_,hpa',_,qb _ _,rfl,?_⟩;rw [ub (ji (by decide))];refine⟨rfl,?_⟩;rw [uf (show tx _=V.str (S _) from rfl)];exact⟨_,_,hl,rfl,S0 ⟨_,rfl,by simpa [nmP.nmB,nmP] using hdp.1⟩⟩
  | each nm b=>obtain⟨wv,rfl,_⟩:=hf;refine⟨pa,rfl,_,hpa',_,qb _ _,rfl,?_⟩;rw [ub (ji (by decide))];refine⟨rfl,?_⟩;rw [ub (ji (by decide))];refine⟨rfl,?_⟩;rw [uf (show tx _=V.str (S _) from rfl)];exact⟨_,_,hl,rfl,S0 ⟨⟨_,_,rfl⟩,hdp⟩⟩
  | ife nm a b=>obtain⟨wv,uv,rfl,_⟩:=hf;refine⟨pa,rfl,_,hpa',_,qb _ _,rfl,?_⟩;rw [ub (ji (by decide))];refine⟨rfl,?_⟩;rw [ub (ji (by decide))];refine⟨rfl,?_⟩;rw [ub (ji (by decide))];refine⟨rfl,?_⟩;rw [uf (show tx _=V.str (S _) from rfl)];exact⟨_,_,hl,rfl,S0 ⟨⟨_,_,_,rfl⟩,hdp⟩⟩
  | seat wd nm mm b=>
   obtain⟨wv,rfl,_⟩:=hf;refine⟨pa,rfl,_,hpa',_,qb _ _,rfl,?_⟩;rw [ub (ji (by decide))];refine⟨rfl,?_⟩;rw [ub (ji (by decide))];refine⟨rfl,?_⟩;rw [ub (ji (by decide))];refine⟨rfl,?_⟩;rw [ub (ji (by decide))];refine⟨pa,rfl,_,hpa',_,yl _ _ _,rfl,?_⟩;split
   ·refine⟨_,_,_,hl,T.l_Looking,T.a_kept,.non,rfl,?_⟩;rw [ub (by simp)];exact⟨_,_,hl,rfl,S0 ⟨⟨_,_,_,_,rfl⟩,hdp⟩⟩
   ·exact⟨_,_,hl,rfl,S0 ⟨⟨_,_,_,_,rfl⟩,hdp⟩⟩
theorem zaB:∀ {ps:List Pc} {p:Pc},nmP.nmB ps=true->p∈ps->nmP p=true
 | _::_,_,h,.head _=>by simp only [nmP.nmB,uI] at h;exact h.1
 | _::ps,_,h,.tail _ m=>by simp only [nmP.nmB,uI] at h;exact zaB h.2 m
def lkI (t:Ads)(lo xa sp ha:Addr)(ps:List Pc)(x:Spt)(hv:List V)(H:Hp)(i:Nat)(σ:L2.St)(H3:Hp):Prop:=∃ (r:Addr) (o4:Option V) (e:Spt) (h1:Ho) (hv':List V),σ=[some (.ref lo),some (.ref xa),some (.ref sp),some (.ref r),o4]/\Gr ha H H3 hv hv'/\HoA (hide ha H3) hv' h1/\SpV t (hide ha H3) r e.s e.T e.n/\(qK ps x=match qK (ps.drop i) e with
  | .error f=>.error f
  | .ok r=>.ok (r.1,h1++r.2))/\e.s.word.length<=8/\e.s.opens.length+txPs (ps.drop i)<=100000/\e.T.length+szPs (ps.drop i)<=100000/\e.n+szPs (ps.drop i)<=100000/\h1.length+szPs (ps.drop i)<=szPs ps
theorem V3 {k d:Nat}(hk10:20<=k)(T:Txt w K mg t)(D:Dm K t.Looking "look_all" "Looking.look_all" qQ zz)(F_Looking_look_piece:OkM P w K mg base k t.Looking "look_piece" zO (qU t d)):OkM P w K mg base (k+1) t.Looking "look_all" zz (zC t d):=by
 refine D.ok qd (λvs H Q E h=>?_) (λf cdv A outer s H vs Q E hr h=>?_)
 ·refine ex7 h λ_ _ _ _ _ _ _ h=>?_;exact av8 h λ_ _ _ _ _ _ _ _=>rfl
 ·refine ex7 h λlo ha sp pv ps x hv h=>?_;refine av8 h λzz0 hlo hp hsp hha zz5 q qe=>?_;obtain⟨hnm,hdp⟩:=zz0;obtain⟨b1,b2,b3,b4,b5⟩:=zz5
  refine⟨_,((ze (zy (i:=3) qd.nd (by rfl) (Or.inl (by rfl)) (qv 2))
   (ze (we PassesOwn.leaving (by rfl) (wC (K:=K) (by rfl) (qv 1)) (qW (i:=4) qd.nd (by rfl) (Or.inl (by rfl))) (zf (zy (i:=3) qd.nd (by rfl) (Or.inl (by rfl)) (jb zM F_Looking_look_piece hr (by lia) (qv 0) (za (qv 4) (za (qv 3) zc))))))
   (zf (zj (qv 3)))))).h,?_⟩
  walk_at "rd";rw [ub (by decide)] at hp;obtain⟨xa,xs,rfl,hxa,hxs⟩:=hp;refine⟨xa,rfl,⟨_,SqL.of (zh _ _ hxa)⟩,?_⟩;refine Zg (xs:=xs) (lkI t lo xa sp ha ps x hv H) ⟨sp,none,x,[],[],rfl,⟨λb o h=>h,by rw [uz];exact hha⟩,.nil,hsp,by rw [U2];cases qK ps x<;>rfl,b1,b2,b4,b5,by simp⟩ ?_ ?_ ?_
  ·rintro i σ H3 _ ⟨_,_,_,_,_,_,g,_⟩;exact SqL.of (zh _ _ (g.1 _ _ hxa))
  ·rintro i y σ H3 hi ⟨r,o4,e,h1,hv',rfl,g3,ho3,sp3,hk3,w1,l1,l2,l3,l4⟩;have hil:i<ps.length:=by have:=(uF.mp hi).1;have:=hxs.len;rw [v9] at this;lia
   obtain⟨dd,hd1,hd2⟩:=hxs.get hi;rw [Xg ps i ps[i] (uw hil)] at hd1;cases hd1;rw [UP hil] at hk3 l1 l2 l3 l4;simp only [szPs,txPs] at l1 l2 l3 l4;have hl3:=ho3.len;have hpd:=Y9 (UM hil)
   walk_at "rd";obtain⟨ldx,lpa,hlo'⟩:=hlo;refine⟨ldx,_,zh _ _ (g3.1 _ _ hlo'),rfl,lo,ha,r,y,[ps[i]],e,hv++hv',rfl,⟨by simp only [nmP.nmB,gw];exact zaB hnm (UM hil),by simp only [dpP.dpB];lia⟩,⟨ldx,lpa,g3.1 _ _ hlo'⟩,?_,sp3,g3.2,⟨w1,by simp only [txPs];lia,by simp only [szPs,ug];lia,by simp only [szPs];lia,by simp only [szPs];lia⟩,λe4 h4 k4 r4 hv4 H4 G4 ho4 sp4=>?_,λf k4 c d4 H4 g4 hf=>?_⟩
   ·rw [uf rfl];exact⟨_,rfl,hd2.mono g3.1⟩
   ·rw [wk] at k4;obtain⟨m1,m2,m3,m4,m5⟩:=zau _ _ _ _ k4 w1;refine⟨r4,_,e4,h1++h4,hv'++hv4,rfl,g3.trans G4,(ho3.mono (TpS.of G4.1)).app ho4,sp4,?_,m1,by lia,by lia,by lia,by rw [ug];lia⟩;rw [hk3];simp only [qK,k4];cases qK (ps.drop (i+1)) e4<;>simp
   ·rw [wk] at k4;exact qe f (by rw [hk3];simp only [qK,k4]) c d4 H4 (g3.1.trans g4) hf
  ·rintro σ H3 ⟨r,o4,e,h1,hv',rfl,g3,ho3,sp3,hk3,w1,l1,l2,l3,l4⟩;rw [List.drop_eq_nil_of_le (by have:=hxs.len;rw [v9] at this;lia)] at hk3
   walk_at "rd";exact q e h1 (by rw [hk3];simp only [qK,uz]) r hv' H3 g3 ho3 sp3
theorem Xs (T:Txt w K mg t)(D:Dm K t.Looking "look_all" "Looking.look_all" qQ zz)(D_Looking_look_piece:Dm K t.Looking "look_piece" "Looking.look_piece" qy zO)(D_Looking_look_each:Dm K t.Looking "look_each" "Looking.look_each" qD zT)(D_Looking_look_if:Dm K t.Looking "look_if" "Looking.look_if" qY z4)(D_Looking_look_seat:Dm K t.Looking "look_seat" "Looking.look_seat" qE zU)(F_Looking_look_literal:OkM P w K mg base 12 t.Looking "look_literal" zI (z8 t))(F_Looking_look_hole:OkM P w K mg base 12 t.Looking "look_hole" zS (qB t))(F_Spot_turned:OkM P w K mg base 3 t.Spot "turned" qo (jj t))(F_Spot_met:OkM P w K mg base 3 t.Spot "met" qN (jO t))(F_Spot_shown:OkMN P w K mg base 1 t.Spot "shown" zP (z5 t))(F_floored:OkF P w K mg base 1 "floored" wj vZ)(R_Unlike:ErrN P w K mg base "Unlike" t.Unlike fsU payU):OkM P w K mg base 60 t.Looking "look_all" zz (zC t 4):=by have a0:OkM P w K mg base 20 t.Looking "look_all" zz (zC t 0):=D.ok (k:=19) qd (λ_ _ _ _ ⟨_,_,_,_,_,_,_,_,h,_⟩=>absurd h.2 (gK _)) (λ_ _ _ _ _ _ _ _ _ _ ⟨_,_,_,_,_,_,_,_,h,_⟩=>absurd h.2 (gK _));have up:∀ {k d:Nat},20<=k->OkM P w K mg base k t.Looking "look_all" zz (zC t d)->OkM P w K mg base (k+3) t.Looking "look_all" zz (zC t (d+1)):=λ{k d} hk a=>V3 (k:=k+2) (by lia) T D (J9 (k:=k+1) (by lia) T D_Looking_look_piece F_Looking_look_literal F_Looking_look_hole (Xq hk T D_Looking_look_each F_Spot_turned F_Spot_shown R_Unlike a) (Kz hk T D_Looking_look_if F_Spot_turned F_Spot_shown R_Unlike a) (Xr hk T D_Looking_look_seat F_floored F_Spot_met F_Spot_shown R_Unlike a));exact(up (by decide) (up (by decide) (up (by decide) (up (by decide) a0)))).mono (by decide)
end
section
variable {P:Program} {w:World} {K:Le} {mg:La} {base:Heap} {t:Ads}
theorem zbs (T:Txt w K mg t)(D:Df K mg "is_end" JH vD)(F_begin:OkF P w K mg base 1 "begin" j0 xU):OkF P w K mg base 2 "is_end" vD Z7:=by
 refine D.ok zbn (λvs H Q E h=>?_) (λf cdv A outer s H vs Q E hr h=>?_)
 ·refine ex2 h λ_ _ h=>?_;exact av2 h λ_ _=>rfl
 ·refine ex2 h λx s h=>?_;refine av2 h λhx q=>?_;refine⟨_,((zf (zj (jX (Yz (hu64 hr)) (qv 0) (jM F_begin hr (by decide)) (zp _))))).h,?_⟩
  walk_at "rd";intro v H1 g1 hv;have d1:=(hx.mono g1).dat;have d2:=hv.dat;obtain⟨a,_,rfl,_,_⟩:=hx;obtain⟨b,_,rfl,_,_⟩:=hv;refine⟨_,_,a,rfl,b,rfl,d1,d2,dep_S _,?_⟩;rw [show(⟨jL,[],[],[]⟩:MS)=s00 from rfl,xh];exact q _ g1
theorem Xu (T:Txt w K mg t)(D:Df K mg "looked_at" yy j4)(F_Looking_look_all:OkM P w K mg base 60 t.Looking "look_all" zz (zC t 4))(F_begin:OkF P w K mg base 1 "begin" j0 xU)(F_is_end:OkF P w K mg base 2 "is_end" vD Z7)(F_Spot___init__:OkC P w K mg base 1 t.Spot "Spot" z0 (qJ t))(F_Looking___init__:OkC P w K mg base 1 t.Looking "Looking" qc (jt t))(F_Spot_shown:OkMN P w K mg base 1 t.Spot "shown" zP (z5 t))(R_LeftOpen:ErrN P w K mg base "LeftOpen" t.LeftOpen fsL payL):OkX P w K mg base 61 "looked_at" j4 (yb t):=by
 refine D.okX vQ (λvs H Q E h=>?_) (λf cdv A outer s H vs Q E hr h=>?_)
 ·refine ex2 h λ_ _ h=>?_;exact av3 h λ_ _ _=>rfl
 ·refine ex2 h λpv ps h=>?_;refine av3 h λzz0 q qe=>?_;obtain⟨hd1,hls,hd2',hd3,hd5⟩:=zz0
  refine⟨_,((ze (zy (i:=2) vQ.nd (by rfl) (Or.inl (by rfl)) (Zo F_Looking___init__ hr (by decide) (za (qv 1) zc)))
   (ze (zy (i:=3) vQ.nd (by rfl) (Or.inl (by rfl)) (jb zM F_Looking_look_all hr (by decide) (qv 2) (za (qv 0) (za (Zo F_Spot___init__ hr (by decide) (za (by exact(jM F_begin hr (by decide))) (by exact(za (by exact(zv zc)) (by exact(za (by exact zi) (by exact zc))))))) zc))))
   (ze (zw (wW (ja (zk F_is_end hr (by decide) (za (qm (K:=K) (by rfl) (qv 3)) zc)))) (zf (vA zM R_LeftOpen hr (by decide) (za (jN F_Spot_shown.ok hr (by decide) (qv 3)) zc))) zm)
   (zf (zj (zq (za (qm (K:=K) (by rfl) (qv 2)) (za (qm (K:=K) (by rfl) (qv 2)) zc))))))))).h,?_⟩
  walk_at "rd";intro x dx hx hd hne;refine⟨dx,zd,λha pa H1 e1 g1 eh ep hap nh np=>?_⟩;have hax:ha≠x:=λz=>by subst z;rw [zd] at nh;cases nh
  have had:ha≠dx:=λz=>by subst z;rw [zr hne,zd] at nh;cases nh
  have gH:Same H H1:=λb o e=>g1 b o (zE e hx) (by rw [zr (zE e hx),zr (zE e hd)];exact e);have nH:H ha=none:=by rw [zr hax,zr had] at nh;exact nh
  refine⟨dx,_,e1,rfl,λv H2 g2 hv p hp2 x2 dx2 hx2 hd2 hne2=>⟨dx2,0,rfl,zd,?_⟩⟩;have k1:=zb (o:=.lst []) hp2;have k2:=Xh (t:=t) (ta:=p) (sv:=v) (n:=0) hx2 hd2 (.own x2) [];have er:upd (upd (upd (upd H2 p (.lst [])) dx2 (.own x2)) x2 (.ins t.Spot dx2 [])) x2 (spO t dx2 v p 0) x2=some (spO t dx2 v p 0):=zd;have ept:=k2 _ _ zd;have k12:=k1.trans k2;generalize hH3:upd (upd (upd (upd H2 p (.lst [])) dx2 (.own x2)) x2 (.ins t.Spot dx2 [])) x2 (spO t dx2 v p 0)=H3 at k2 er ept k12;have e3:H3 ha=some (.lst []):=k12 _ _ (g2 _ _ eh);have hx3:=k12 _ _ (g2 _ _ e1);rw [← hide_ne (H:=H3) hax.symm] at hx3;have hp3:p≠ha:=z9 (g2 _ _ eh) hp2;have hx23:x2≠ha:=z9 (k1 _ _ (g2 _ _ eh)) hx2;have g3:Same H (hide ha H3):=λb o e=>by rw [hide_ne (zE e nH)];exact k12 _ _ (g2 _ _ (gH _ _ e))
  refine⟨x,ha,x2,pv,ps,⟨s00,[],0⟩,[],rfl,⟨hls,hd2'⟩,⟨dx,pa,hx3⟩,?_,xi hx23 er (xW e3 (hv.mono k12)) (by rw [hide_ne hp3];exact ept),e3,⟨by decide,by show 0+_<=_;lia,by show 0+_<=_;lia,by show 0+_<=_;lia,by show 0+_<=_;lia⟩,λe hs hk r hv4 H4 G4 ho4 sp4=>?_,λf hk c d4 H4 g4 hf=>?_⟩
  ·rw [ub (by decide)];exact hd1.mono g3
  ·obtain⟨dx4,sv4,ta4,f1,f2,f3⟩:=sp4;have hx4:=zh _ _ (G4.1 _ _ hx3);refine⟨r,rfl,_,_,_,zh _ _ f1,T.l_Spot,T.a_state,sv4,rfl,_,f2.mono zh,λH5 g5=>?_⟩;obtain⟨_,_,d3,d4,_⟩:=jz ps _ e hs hk (by decide);by_cases hz:e.s=s00
   ·rw [ub (by rw [uQ hz];decide)];refine⟨_,_,_,g5 _ _ hx4,T.l_Looking,T.a_holes,.ref ha,rfl,_,_,_,g5 _ _ hx4,T.l_Looking,T.a_pairs,.ref pa,rfl,λp6 hp6=>?_⟩;have k6:=zb (o:=.tup [.ref ha,.ref pa]) hp6;have g56:=g5.trans k6;exact q hs (by unfold j8;rw [hk];exact uf hz) p6 ha pa hv4 _ ((g3.trans G4.1).trans (zh.trans g56)) zd (g56 _ _ G4.2) (ho4.mono (TpS.of (zh.trans g56)))
   ·rw [uf (by rw [uK hz];decide)];have f15:=g5 _ _ (zh _ _ f1);refine⟨r,rfl,dx4,_,f15,rfl,r,rfl,dx4,ta4,sv4,e.n,f15,e.T,g5 _ _ (zh _ _ f3),ux d3 (by show 0+_<=_;lia),λq6 l6 H6 g6 hl6 hq6 hq6'=>⟨⟨_,rfl⟩,λd7 H7 g7 n7 h7=>?_⟩⟩;have g57:=g5.trans (g6.trans g7);exact qe (.left e.T e.n) (by unfold j8;rw [hk];exact ub hz) _ d7 H7 ((g3.trans G4.1).trans (zh.trans g57)) ⟨rfl,q6,h7,l6,g7 _ _ hq6,g7 _ _ hq6'⟩
  ·exact qe f (by unfold j8;rw [hk]) c d4 H4 ((g3.trans g4).trans zh) (hf.mono zh)
theorem zeI (T:Txt w K mg t)(D:Df K mg "look" Y0 Zu)(F_looked_at:OkX P w K mg base 61 "looked_at" j4 (yb t)):OkX P w K mg base 62 "look" Zu (Xj t):=by
 refine D.okX zez (λvs H Q E h=>?_) (λf cdv A outer s H vs Q E hr h=>?_)
 ·refine ex2 h λ_ _ h=>?_;exact av3 h λ_ _ _=>rfl
 ·refine ex2 h λpv ps h=>?_;refine av3 h λhp q qe=>?_;refine⟨_,((zf (zj (zB (zx (K:=K) (by rfl)) (Jm zM F_looked_at hr (by decide) (za (qv 0) (za zF zc))) zi (λ_ _=>(by rfl)))))).h,?_⟩
  walk_at "rd";exact⟨_,hp,λhs hk r ha pa hv H' g e1 e2 ho=>⟨_,SqT.of e1,_,qb _ _,q hs hk ha hv H' g e2 ho⟩,qe⟩
end
section
variable {P:Program} {w:World} {K:Le} {mg:La} {base:Heap} {t:Ads}
theorem Xv (T:Txt w K mg t)(D:Df K mg "_law_other" vS jw):OkH P w K mg base 1 "_law_other" jw (vv K t):=by
 refine D.okH J1 (λvs H Q E h=>?_) (λf cdv A outer s H vs Q E hr h=>?_)
 ·refine ex3 h λ_ _ _ h=>?_;exact av3 h λ_ _ _=>rfl
 ·refine ex3 h λea C fs h=>?_;refine av3 h λG0 hC q=>?_
  refine⟨_,((ze (zw (ja (zJ (vJ (K:=K) (by rfl)) (by rfl) T.z_isinstance zV (za (qv 0) (za (zq (za (by exact(zZ T.m_NoCode)) (by exact(za (by exact(zZ T.m_NoElder)) (by exact(za (by exact(zZ T.m_NoKind)) (by exact(za (by exact(zZ T.m_NoName)) (by exact(za (by exact(zZ T.m_NoPage)) (by exact(za (by exact(zZ T.m_NoRow)) (by exact(za (by exact(zZ T.m_NoSheet)) (by exact(za (by exact(zZ T.m_NoSign)) (by exact(za (by exact(zZ T.m_Unread)) (by exact zc))))))))))))))))))) zc)))) (zf (zj Wu)) zm)
   (zf (zj (zJ (vJ (K:=K) (by rfl)) (by rfl) T.z_isinstance zV (za (qv 0) (za (zq (za (zZ T.m_NoValue) (za (zZ T.m_RingOver) (za (zZ T.m_Ringed) (za (zZ T.m_TooMany) (za (zZ T.m_Twice) (za (zZ T.m_Unended) (za (zZ T.m_Unknown) zc)))))))) zc))))))).h,?_⟩
  walk_at "rd";intro p hp;have G1:=G0.mono (zb (o:=.tup [V.ref t.NoCode,V.ref t.NoElder,V.ref t.NoKind,V.ref t.NoName,V.ref t.NoPage,V.ref t.NoRow,V.ref t.NoSheet,V.ref t.NoSign,V.ref t.Unread]) hp);refine⟨C,_,_,zd,G1,rfl,false,by rcases hC with rfl | rfl | rfl | rfl;exact T.kit_Astray_l1;exact T.kit_Unlike_l1;exact T.kit_NoPlace_l1;exact T.kit_LeftOpen_l1,?_⟩;rw [ub (by decide)];intro p1 hp1;have G2:=G1.mono (zb (o:=.tup [V.ref t.NoValue,V.ref t.RingOver,V.ref t.Ringed,V.ref t.TooMany,V.ref t.Twice,V.ref t.Unended,V.ref t.Unknown]) hp1);exact⟨C,_,_,zd,G2,rfl,false,by rcases hC with rfl | rfl | rfl | rfl;exact T.kit_Astray_l2;exact T.kit_Unlike_l2;exact T.kit_NoPlace_l2;exact T.kit_LeftOpen_l2,q _ ((zb hp).trans (zb hp1))⟩
theorem seq_step {a b:TS}{D:Ends}{σ:L2.St}{H:Hp}(h:∀ N:L2.St->Hp->Prop,(∀ σ' H',b D σ' H'->N σ' H')->a { D with nx:=N } σ H):tSeq a b D σ H:=h (b D) λ_ _ z=>z
theorem zc9 {c:TT}{a b:TS}{D:Ends}{σ:L2.St}{H:Hp}(h:∀ S:TS,(∀ D σ H,a D σ H->S D σ H)->tIfS c S b D σ H):tIfS c a b D σ H:=h a λ_ _ _ z=>z
theorem JU (T:Txt w K mg t)(D:Df K mg "_law_refusal" xP qS)(F__law_other:OkH P w K mg base 1 "_law_other" jw (vv K t)):OkH P w K mg base 2 "_law_refusal" qS (wY K t):=by
 refine D.okH QC (λvs H Q E h=>?_) (λf cdv A outer s H vs Q E hr h=>?_)
 ·refine ex4 h λ_ _ _ _ h=>?_;exact av3 h λ_ _ _=>rfl
 ·refine ex4 h λea C d f h=>?_;refine av3 h λhc hf q=>?_
  refine⟨_,((ze (zw (QW.qt (xu (ja (zJ (xm (K:=K) (by rfl)) (by rfl) T.z_isinstance zV (za (qv 0) (za (zhC (v:=.ty "ValueError") T.z_ValueError JX (by rfl)) zc)))) (wq (wW (ja (Vp F__law_other hr (by decide) (za (qv 0) zc))))))) (ze (zw (QW.qt (xu (ja (zJ (xm (K:=K) (by rfl)) (by rfl) T.z_isinstance zV (za (qv 0) (za (zZ T.m_Astray) zc)))) (wq (wW (ja (zJ (vJ (K:=K) (by rfl)) (by rfl) T.z_isinstance zV (za (qv 0) (za (zq (za (zZ T.m_NoPlace) (za (zZ T.m_Unlike) (za (zZ T.m_LeftOpen) zc)))) zc)))))))) (zf (zj (zq (za (by exact(qe_S (l:=[97,115,116,114,97,121]) (by decide +kernel))) (by exact(za (by exact(vN (K:=K) (by rfl) (qv 0))) (by exact(za (by exact(vN (K:=K) (by rfl) (qv 0))) (by exact zc))))))))) zm)
   (ze (zw (QW.qt (xu (ja (zJ (xm (K:=K) (by rfl)) (by rfl) T.z_isinstance zV (za (qv 0) (za (zZ T.m_NoPlace) zc)))) (wq (wW (ja (zJ (vJ (K:=K) (by rfl)) (by rfl) T.z_isinstance zV (za (qv 0) (za (zq (za (zZ T.m_Unlike) (za (zZ T.m_LeftOpen) zc))) zc)))))))) (zf (zj (zq (za (by exact(qe_S (l:=[110,111,112,108,97,99,101]) (by decide +kernel))) (by exact(za (by exact(vN (K:=K) (by rfl) (qv 0))) (by exact(za (by exact(vN (K:=K) (by rfl) (qv 0))) (by exact zc))))))))) zm)
   (ze (zw (QW.qt (xu (ja (zJ (xm (K:=K) (by rfl)) (by rfl) T.z_isinstance zV (za (qv 0) (za (zZ T.m_Unlike) zc)))) (wq (wW (ja (zJ (xm (K:=K) (by rfl)) (by rfl) T.z_isinstance zV (za (qv 0) (za (zZ T.m_LeftOpen) zc)))))))) (zf (zj (zq (za (by exact(qe_S (l:=[117,110,108,105,107,101]) (by decide +kernel))) (by exact(za (by exact(vN (K:=K) (by rfl) (qv 0))) (by exact(za (by exact(vN (K:=K) (by rfl) (qv 0))) (by exact(za (by exact(vN (K:=K) (by rfl) (qv 0))) (by exact zc))))))))))) zm)
   (zf (zw (ja (zJ (xm (K:=K) (by rfl)) (by rfl) T.z_isinstance zV (za (qv 0) (za (zZ T.m_LeftOpen) zc)))) (zf (zj (zq (za (qe_S (l:=[108,101,102,116]) (by decide +kernel)) (za (vN (K:=K) (by rfl) (qv 0)) zc))))) zm))))) zm)
   (zf (zj (zq (za (qe_S (l:=[111,100,100]) (by decide +kernel)) zc)))))).h,?_⟩
  have pre:∃ fs,L2.Got K H ea C fs/\(C=t.Astray\/C=t.Unlike\/C=t.NoPlace\/C=t.LeftOpen)/\PySem.W.kitOne K (.ref C) (.type "ValueError")=some true:=by
   cases f with
   | noplace x Tn n=>obtain⟨hC,p,hd,hp⟩:=hf;obtain rfl:C=t.NoPlace:=Ub hC;exact⟨_,⟨T.c_NoPlace,d,hc,hd⟩,.inr (.inr (.inl rfl)),T.kit_NoPlace_ve⟩
   | left Tn n=>obtain⟨hC,p,hd,hp⟩:=hf;obtain rfl:C=t.LeftOpen:=Ub hC;exact⟨_,⟨T.c_LeftOpen,d,hc,hd⟩,.inr (.inr (.inr rfl)),T.kit_LeftOpen_ve⟩
   | astray Tn n b=>obtain⟨hC,p,hd,hp⟩:=hf;obtain rfl:C=t.Astray:=Ub hC;exact⟨_,⟨T.c_Astray,d,hc,hd⟩,.inl rfl,T.kit_Astray_ve⟩
   | unlike wd Tn n T2 n2=>obtain⟨hC,a,p,p',hd,ha,hp,hp'⟩:=hf;obtain rfl:C=t.Unlike:=Ub hC;exact⟨_,⟨T.c_Unlike,d,hc,hd⟩,.inr (.inl rfl),T.kit_Unlike_ve⟩
  obtain⟨fs,G,hC0,kve⟩:=pre;refine seq_step λN hN=>zc9 λS0 hS=>?_
  walk_at "rd";refine⟨C,⟨_,G⟩,rfl,true,kve,?_⟩;rw [uf rfl];refine⟨C,⟨_,G⟩,hC0,λH1 g1=>hS _ _ _ ?_⟩;clear hS hN G kve hC0;cases f with
  | noplace x Tn n=>
   obtain⟨hC,p,hd,hp⟩:=hf;obtain rfl:C=t.NoPlace:=Ub hC;have G1:=(show L2.Got K H ea t.NoPlace [("name",tx x),("place",.ref p)] from⟨T.c_NoPlace,d,hc,hd⟩).mono g1;refine seq_step λN hN=>?_
   walk_at "rd";refine⟨t.NoPlace,⟨_,G1⟩,rfl,false,T.kit_NoPlace_a,?_⟩;rw [ub (by decide)];refine hN _ _ (seq_step λN hN=>?_)
   walk_at "rd";refine⟨t.NoPlace,⟨_,G1⟩,rfl,true,T.kit_NoPlace_n,?_⟩;rw [uf rfl];intro p1 hp1;have k1:=zb (o:=.tup [V.ref t.Unlike,V.ref t.LeftOpen]) hp1;have G2:=G1.mono k1;refine⟨t.NoPlace,_,_,zd,G2,rfl,false,T.kit_NoPlace_o,?_⟩;rw [uf (by decide)];refine⟨t.NoPlace,_,G2,T.n_NoPlace_name,_,rfl,t.NoPlace,_,G2,T.n_NoPlace_place,_,rfl,λp2 hp2=>?_⟩;have k2:=zb (o:=.tup [V.str (S [110,111,112,108,97,99,101]),tx x,V.ref p]) hp2;have g:=g1.trans (k1.trans k2);exact q p2 _ g ⟨p2,_,rfl,zd,_,_,rfl,⟨rfl,rfl⟩,_,_,rfl,⟨rfl,rfl⟩,_,_,rfl,(hp.mono g).dt,rfl⟩
  | left Tn n=>
   obtain⟨hC,p,hd,hp⟩:=hf;obtain rfl:C=t.LeftOpen:=Ub hC;have G1:=(show L2.Got K H ea t.LeftOpen [("place",.ref p)] from⟨T.c_LeftOpen,d,hc,hd⟩).mono g1;refine seq_step λN hN=>?_
   walk_at "rd";refine⟨t.LeftOpen,⟨_,G1⟩,rfl,false,T.kit_LeftOpen_a,?_⟩;rw [ub (by decide)];refine hN _ _ (seq_step λN hN=>?_)
   walk_at "rd";refine⟨t.LeftOpen,⟨_,G1⟩,rfl,false,T.kit_LeftOpen_n,?_⟩;rw [ub (by decide)];refine hN _ _ (seq_step λN hN=>?_)
   walk_at "rd";refine⟨t.LeftOpen,⟨_,G1⟩,rfl,false,T.kit_LeftOpen_u,?_⟩;rw [ub (by decide)];refine hN _ _ ?_
   walk_at "rd";refine⟨t.LeftOpen,⟨_,G1⟩,rfl,true,T.kit_LeftOpen_o,?_⟩;rw [uf rfl];refine⟨t.LeftOpen,_,G1,T.n_LeftOpen_place,_,rfl,λp2 hp2=>?_⟩;have k2:=zb (o:=.tup [V.str (S [108,101,102,116]),V.ref p]) hp2;have g:=g1.trans k2;exact q p2 _ g ⟨p2,_,rfl,zd,_,_,rfl,⟨rfl,rfl⟩,_,_,rfl,(hp.mono g).dt,rfl⟩
  | astray Tn n b=>
   obtain⟨hC,p,hd,hp⟩:=hf;obtain rfl:C=t.Astray:=Ub hC;have G1:=(show L2.Got K H ea t.Astray [("place",.ref p),("at",.int (b:Nat))] from⟨T.c_Astray,d,hc,hd⟩).mono g1;refine seq_step λN hN=>?_
   walk_at "rd";refine⟨t.Astray,⟨_,G1⟩,rfl,true,T.kit_Astray_a,?_⟩;rw [uf rfl];intro p1 hp1;have k1:=zb (o:=.tup [V.ref t.NoPlace,V.ref t.Unlike,V.ref t.LeftOpen]) hp1;have G2:=G1.mono k1;refine⟨t.Astray,_,_,zd,G2,rfl,false,T.kit_Astray_o,?_⟩;rw [uf (by decide)];refine⟨t.Astray,_,G2,T.n_Astray_place,_,rfl,t.Astray,_,G2,T.n_Astray_at,_,rfl,λp2 hp2=>?_⟩;have k2:=zb (o:=.tup [V.str (S [97,115,116,114,97,121]),V.ref p,V.int (b:Nat)]) hp2;have g:=g1.trans (k1.trans k2);exact q p2 _ g ⟨p2,_,rfl,zd,_,_,rfl,⟨rfl,rfl⟩,_,_,rfl,(hp.mono g).dt,_,_,rfl,⟨rfl,rfl⟩,rfl⟩
  | unlike wd Tn n T2 n2=>
   obtain⟨hC,a,p,p',hd,ha,hp,hp'⟩:=hf;obtain rfl:C=t.Unlike:=Ub hC;have G1:=(show L2.Got K H ea t.Unlike [("what",.ref a),("one",.ref p),("other",.ref p')] from⟨T.c_Unlike,d,hc,hd⟩).mono g1;refine seq_step λN hN=>?_
   walk_at "rd";refine⟨t.Unlike,⟨_,G1⟩,rfl,false,T.kit_Unlike_a,?_⟩;rw [ub (by decide)];refine hN _ _ (seq_step λN hN=>?_)
   walk_at "rd";refine⟨t.Unlike,⟨_,G1⟩,rfl,false,T.kit_Unlike_n,?_⟩;rw [ub (by decide)];refine hN _ _ (seq_step λN hN=>?_)
   walk_at "rd";refine⟨t.Unlike,⟨_,G1⟩,rfl,true,T.kit_Unlike_u,?_⟩;rw [uf rfl];refine⟨t.Unlike,⟨_,G1⟩,rfl,false,T.kit_Unlike_o,?_⟩;rw [uf (by decide)];refine⟨t.Unlike,_,G1,T.n_Unlike_what,_,rfl,t.Unlike,_,G1,T.n_Unlike_one,_,rfl,t.Unlike,_,G1,T.n_Unlike_other,_,rfl,λp2 hp2=>?_⟩;have k2:=zb (o:=.tup [V.str (S [117,110,108,105,107,101]),V.ref a,V.ref p,V.ref p']) hp2;have g:=g1.trans k2;exact q p2 _ g ⟨p2,_,rfl,zd,_,_,rfl,⟨rfl,rfl⟩,_,_,rfl,⟨a,_,rfl,g _ _ ha,xt wd⟩,_,_,rfl,(hp.mono g).dt,_,_,rfl,(hp'.mono g).dt,rfl⟩
theorem Wa (T:Txt w K mg t)(D:Df K mg "_law_looked" vq jg)(F_look:OkX P w K mg base 62 "look" Zu (Xj t))(F__law_refusal:OkH P w K mg base 2 "_law_refusal" qS (wY K t)):OkF P w K mg base 63 "_law_looked" jg xX:=by
 refine D.ok xO (λvs H Q E h=>?_) (λf cdv A outer s H vs Q E hr h=>?_)
 ·refine ex2 h λ_ _ h=>?_;exact av2 h λ_ _=>rfl
 ·refine ex2 h λpv ps h=>?_;refine av2 h λhp q=>?_
  refine⟨_,((ze (zhF (i:=2) T.m_SealError T.c_SealError xO.nd (by rfl) (by rfl) (by rfl) (by rfl) (λE pn xe hp hx=>(zf (zy (i:=1) xO.nd (by rfl) (Or.inl (by rfl)) (Jm hx F_look hr (by decide) (za (qv 0) zc)))))
   (λpn ea=>(zf (zj (Vp F__law_refusal (hr.marked _) (by decide) (za (qv 2) zc))))))
   (zf (zj (zq (za (qe_S (l:=[116,111,108,100]) (by decide +kernel)) (za (qv 1) zc))))))).h,?_⟩
  walk_at "rd";refine⟨ps,hp,λhs hk ha hv H1 g1 e1 ho p1 hp1=>?_,λf hk c d H1 g1 hf=>?_⟩
  ·have k1:=zb (o:=.tup [V.str (S [116,111,108,100]),V.ref ha]) hp1;rw [hk] at q;exact q p1 _ (g1.trans k1) ⟨p1,_,rfl,zd,_,_,rfl,⟨rfl,rfl⟩,_,_,rfl,⟨ha,_,rfl,k1 _ _ e1,(ho.mono (TpS.of k1)).ds⟩,rfl⟩
  ·rw [hk] at q
   obtain⟨C,rfl,hC⟩:∃ C,c=.ref C/\(C=t.Astray\/C=t.Unlike\/C=t.NoPlace\/C=t.LeftOpen):=by
    cases f with
    | noplace x Tn n=>exact⟨_,hf.1,.inr (.inr (.inl rfl))⟩
    | left Tn n=>exact⟨_,hf.1,.inr (.inr (.inr rfl))⟩
    | astray Tn n b=>exact⟨_,hf.1,.inl rfl⟩
    | unlike wd Tn n T2 n2=>exact⟨_,hf.1,.inr (.inl rfl)⟩
   refine⟨C,rfl,by rcases hC with rfl | rfl | rfl | rfl;exact T.c_Astray;exact T.c_Unlike;exact T.c_NoPlace;exact T.c_LeftOpen,by rcases hC with rfl | rfl | rfl | rfl;exact T.kit_Astray_se;exact T.kit_Unlike_se;exact T.kit_NoPlace_se;exact T.kit_LeftOpen_se,λea H2 g2 hc=>⟨C,d,hc,f,hf.mono g2,λr H3 g3 hr=>q r H3 (g1.trans (g2.trans g3)) hr⟩⟩
end
section
variable {P:Program} {w:World} {K:Le} {mg:La} {base:Heap} {t:Ads}
def raI (l:Tx)(s0:MS)(H:Hp)(i:Nat)(σ:L2.St)(H':Hp):Prop:=∃ (v:V) (s:MS) (es:List Ev) (o2 o3:Option V),σ=[some v,some (V.str (S l)),o2,o3]/\Same H H'/\StV H' v s/\runM s0 (l.take i)=.ok (s,es)
theorem take_snoc {l:Lc}{i c:Nat}(h:l[i]? = some c):l.take (i+1)=l.take i++[c]:=by rw [UI,h];rfl
theorem zda {s s1:MS}{e1:List Ev}{c:Nat}{b:Lc}:∀ {a:Lc},runM s a=.ok (s1,e1)->va s1 c=none->∃ n,runM s (a++c::b)=.error n:=by
 intro a
 induction a generalizing s e1 with
 | nil=>intro h1 h2;simp only [runM,UT,Uu] at h1;obtain⟨rfl,rfl⟩:=h1;exact⟨0,by simp only [Ud,runM,h2]⟩
 | cons d r ih=>
  intro h1 h2;simp only [runM] at h1;cases hq:va s d with
  | none=>rw [hq] at h1;cases h1
  | some x=>
   obtain⟨s',es⟩:=x;rw [hq] at h1;simp only at h1;cases hr:runM s' r with
   | error n=>rw [hr] at h1;cases h1
   | ok y=>obtain⟨s'',fs⟩:=y;rw [hr] at h1;simp only [UT,Uu] at h1;obtain⟨rfl,rfl⟩:=h1;obtain⟨n,hn⟩:=ih hr h2;exact⟨n+1,by simp only [u4,runM,hq,hn]⟩
theorem KA (T:Txt w K mg t)(D:Df K mg "_law_ran" kI qz)(F_step:OkF P w K mg base 7 "step" yV QP):OkF P w K mg base 8 "_law_ran" qz jm:=by
 refine D.ok ve (λvs H Q E h=>?_) (λf cdv A outer s H vs Q E hr h=>?_)
 ·refine ex3 h λ_ _ _ h=>?_;exact av4 h λ_ _ _ _=>rfl
 ·refine ex3 h λx s0 l h=>?_;refine av4 h λhx hw hl q=>?_
  refine⟨_,((ze (we PassesOwn.never (by rfl) (zcv (qv 1)) (qW (i:=2) ve.nd (by rfl) (Or.inl (by rfl))) (ze (zy (i:=3) ve.nd (by rfl) (Or.inl (by rfl)) (zk F_step hr (by decide) (za (qv 0) (za (qv 2) zc))))
   (ze (zw (zl vm (qv 3) zF (zp _)) (zf (zj zF)) zm)
   (zf (zy (i:=0) ve.nd (by rfl) (Or.inl (by rfl)) (zB (zx (K:=K) (by rfl)) (qv 3) zi (λ_ _=>(by rfl))))))))
   (zf (zj (qv 0))))).h,?_⟩
  walk_at "rd";refine zhl (raI l s0 H) ⟨x,s0,[],_,_,rfl,Same.refl H,hx,rfl⟩ ?_ ?_
  ·rintro i c σ H1 hi ⟨v,s,es,o2,o3,rfl,g1,hs,hr⟩;have hi':=(uF.mp hi).1;obtain⟨w1,w2,_⟩:=QQ hr hw;rw [Ul] at w2
   walk_at "rd";refine⟨s,hs,by lia,by lia,λv2 H2 g2 a=>?_⟩;cases hq:va s c with
   | none=>
    rw [hq] at a;cases (show v2=V.non from a);rw [uf rfl];obtain⟨n,hn⟩:=zda (b:=l.drop (i+1)) hr hq;have hc:l[i]=c:=by rw [uw hi'] at hi;exact uB hi
    rw [← hc,← UP hi',List.take_append_drop] at hn;exact q _ _ (g1.trans g2) (λr hr2=>by rw [hn] at hr2;cases hr2) λ_ _=>rfl
   | some r=>obtain⟨s',fs⟩:=r;rw [hq] at a;obtain⟨qa,sa,ea,rfl,h1,h2,_,_⟩:=a;rw [ub (by intro z;cases z)];refine⟨qa,rfl,_,SqT.of h1,_,qb _ _,sa,s',es++fs,_,_,rfl,g1.trans g2,h2,?_⟩;rw [take_snoc hi];exact zcR hr (zcS hq)
  ·rintro σ H1 ⟨v,s,es,o2,o3,rfl,g1,hs,hr⟩;rw [U5] at hr
   walk_at "rd";exact q _ _ g1 (λr hr2=>by rw [hr] at hr2;cases hr2;exact hs) λb hb=>by rw [hr] at hb;cases hb
theorem Za (T:Txt w K mg t)(D:Df K mg "_law_hole_stands" jI zX):OkF P w K mg base 1 "_law_hole_stands" zX qF:=by
 refine D.ok yZ (λvs H Q E h=>?_) (λf cdv A outer s H vs Q E hr h=>?_)
 ·refine ex2 h λ_ _ h=>?_;exact av2 h λ_ _=>rfl
 ·refine ex2 h λx s h=>?_;refine av2 h λhx q=>?_;refine⟨_,((zf (zj (zkc (jX (WY (K:=K) (by rfl)) (zB (zx (K:=K) (by rfl)) (qv 0) zi (λ_ _=>(by rfl))) (zq (za (qe_S (l:=[116,101,120,116]) (by decide +kernel)) (za (qe_S (l:=[98,97,114,101]) (by decide +kernel)) (za (qe_S (l:=[114,111,119]) (by decide +kernel)) (za (qe_S (l:=[113,117,111,116,101,100]) (by decide +kernel)) zc))))) (by rfl)) (zcs (zhB (jX zD (zB (zx (K:=K) (by rfl)) (qv 0) zi (λ_ _=>(by rfl))) (qe_S (l:=[116,97,108,107]) (by decide +kernel)) (zp _)) (zcs (jX zD (zB (zx (K:=K) (by rfl)) (qv 0) zi (λ_ _=>(by rfl))) (qe_S (l:=[115,97,105,100]) (by decide +kernel)) (zp _))))))))).h,?_⟩
  walk_at "rd";obtain⟨p,o,rfl,hp,ho⟩:=hx;have e:=QM s.mode [jL,jW,mRow,qf];refine⟨p,rfl,_,SqT.of hp,_,qb _ _,λp1 h1=>?_⟩;have k1:=zb (o:=.tup [V.str (S [116,101,120,116]),V.str (S [98,97,114,101]),V.str (S [114,111,119]),V.str (S [113,117,111,116,101,100])]) h1;have hp1:=SqT.of (K:=K) (k1 _ _ hp);refine⟨_,.inr (SqT.of zd),rfl,rfl,?_⟩;rw [show([jL,jW,mRow,qf].map λx=>V.str (S x))=[V.str (S jL),V.str (S jW),V.str (S mRow),V.str (S qf)] from rfl] at e;rw [show tx s.mode=V.str (S s.mode) from rfl,e];have q':=q _ k1;unfold xV at q';by_cases h1:s.mode∈[jL,jW,mRow,qf]
  ·rw [uf (uQ h1)];rw [uf h1] at q';exact q'
  ·rw [ub (by simp only [Uj];exact h1)];rw [ub h1] at q';refine⟨p,rfl,_,hp1,_,qb _ _,rfl,?_⟩;by_cases h2:s.mode=vz
   ·rw [uf (show tx s.mode=V.str (S vz) by rw [h2];rfl)];refine⟨p,rfl,_,hp1,_,WM _ _ _ _ _,rfl,?_⟩;by_cases h3:s.talk=wA
    ·rw [uf ⟨h2,h3⟩] at q';rw [uQ (show tx s.talk=V.str (S wA) by rw [h3];rfl)];exact q'
    ·rw [ub λz=>h3 z.2] at q';rw [uK (ji h3)];exact q'
   ·rw [ub λz=>h2 z.1] at q';rw [ub (ji h2)];exact q'
end
section
variable {P:Program} {w:World} {K:Le} {mg:La} {base:Heap} {t:Ads}
def stI (pa px fa p2:Addr)(b:List Pc)(s:MS)(fs:List V)(H1:Hp)(j:Nat)(σ:L2.St)(H':Hp):Prop:=∃ (gs2:List V) (o6:Option V),σ=[some (.ref pa),some (.ref px),some (.ref fa),none,none,some (.ref p2),o6]/\Gr fa H1 H' fs gs2/\gs2.length<=j/\(gs2=[]↔(((endB b [flo s]).1.take j).any λz=>decide (z≠flo s))=false)
theorem QF {k d:Nat}(hk10:20<=k)(T:Txt w K mg t)(D:Df K mg "_law_each_end" qu qk)(F__law_ran:OkF P w K mg base 8 "_law_ran" qz jm)(F__law_hole_stands:OkF P w K mg base 1 "_law_hole_stands" zX qF)(F__law_ends:OkF P w K mg base k "_law_ends" zN (z6 d)):OkF P w K mg base (k+1) "_law_each_end" qk (wo (d+1)):=by
 refine D.ok ql (λvs H Q E h=>?_) (λf cdv A outer s H vs Q E hr h=>?_)
 ·refine ex7 h λ_ _ _ _ _ _ _ h=>?_;exact av9 h λ_ _ _ _ _ _ _ _ _=>rfl
 ·refine ex7 h λfa pv x p s n fs h=>?_;refine av9 h λhdp hp hx hs hn hfa hfl hel q=>?_
  refine⟨_,((ze (zw (zl zD (zB (zx (K:=K) (by rfl)) (qv 0) zi (λ_ _=>(by rfl))) (qe_S (l:=[108,105,116]) (by decide +kernel)) (zp _)) (ze (zy (i:=3) ql.nd (by rfl) (Or.inl (by rfl)) (zk F__law_ran hr (by lia) (za (qv 1) (za (zB (zx (K:=K) (by rfl)) (qv 0) zi (λ_ _=>(by rfl))) zc))))
   (ze (zw (zl vm (qv 3) zF (zp _)) (ze (jA (wc (K:=K) (by rfl) uL uN uO qj (qv 2) (za (qe_S (l:=[97,115,116,114,97,121]) (by decide +kernel)) zc)))
   (zf (zj (zv zc)))) zm)
   (zf (zj (zv (za (qv 3) zc)))))) zm)
   (ze (zw (zl zD (zB (zx (K:=K) (by rfl)) (qv 0) zi (λ_ _=>(by rfl))) (qe_S (l:=[104,111,108,101]) (by decide +kernel)) (zp _)) (ze (zw (wW (ja (zk F__law_hole_stands hr (by lia) (za (qv 1) zc)))) (zf (jA (wc (K:=K) (by rfl) uL uN uO qj (qv 2) (za (qe_S (l:=[104,111,108,101]) (by decide +kernel)) zc)))) zm)
   (zf (zj (zv (za (qv 1) zc))))) zm)
   (ze (zw (zl zD (zB (zx (K:=K) (by rfl)) (qv 0) zi (λ_ _=>(by rfl))) (qe_S (l:=[101,97,99,104]) (by decide +kernel)) (zp _)) (ze (zy (i:=4) ql.nd (by rfl) (Or.inr (by rfl)) (zk F__law_ends hr (by lia) (za (by exact(zB (zx (K:=K) (by rfl)) (qv 0) zi (λ_ _=>(by rfl)))) (by exact(za (by exact(qv 1)) (by exact(za (by exact(qv 2)) (by exact zc))))))))
   (ze (zw (zl (YD (K:=K) (by rfl) (X6 hr)) ⟨zcz (lcsS (N:=jC) (sc:=zg qu) rfl rfl rfl (by decide +kernel)) ((wC (K:=K) (by rfl) (qv 4))).h (λ_ _ _ _ _=>(W4 (zl (kn (hu64 hr)) (qv 0) (qv 2) (zp _))).h) (λ_ _ _ _ _=>((qv 0)).h)⟩ (zv zc) (zp _)) (zf (jA (wc (K:=K) (by rfl) uL uN uO qj (qv 2) (za (qe_S (l:=[101,97,99,104]) (by decide +kernel)) zc)))) zm)
   (zf (zj (zA xo (zv (za (qv 1) zc)) (qv 4)))))) zm)
   (ze (zw (zl zD (zB (zx (K:=K) (by rfl)) (qv 0) zi (λ_ _=>(by rfl))) (qe_S (l:=[105,102]) (by decide +kernel)) (zp _)) (ze (zy (i:=4) ql.nd (by rfl) (Or.inr (by rfl)) (zA xo (zk F__law_ends hr (by lia) (za (by exact(zB (zx (K:=K) (by rfl)) (qv 0) zi (λ_ _=>(by rfl)))) (by exact(za (by exact(qv 1)) (by exact(za (by exact(qv 2)) (by exact zc))))))) (zk F__law_ends hr (by lia) (za (by exact(zB (zx (K:=K) (by rfl)) (qv 0) zi (λ_ _=>(by rfl)))) (by exact(za (by exact(qv 1)) (by exact(za (by exact(qv 2)) (by exact zc)))))))))
   (ze (zw (zl (YD (K:=K) (by rfl) (X6 hr)) ⟨zcz (lcsS (N:=jC) (sc:=zg qu) rfl rfl rfl (by decide +kernel)) ((wC (K:=K) (by rfl) (qv 4))).h (λ_ _ _ _ _=>(W4 (zl (kn (hu64 hr)) (qv 0) (zB (jU (K:=K) (by rfl)) (qv 5) zi (λ_ _=>(by rfl))) (zp _))).h) (λ_ _ _ _ _=>((qv 0)).h)⟩ (zv zc) (zp _)) (zf (jA (wc (K:=K) (by rfl) uL uN uO qj (qv 2) (za (qe_S (l:=[105,102]) (by decide +kernel)) zc)))) zm)
   (zf (zj (qv 4))))) zm)
   (ze (zy (i:=5) ql.nd (by rfl) (Or.inl (by rfl)) (zq (za (by exact(zB (zx (K:=K) (by rfl)) (qv 1) zi (λ_ _=>(by rfl)))) (by exact(za (by exact(zB (zx (K:=K) (by rfl)) (qv 1) zi (λ_ _=>(by rfl)))) (by exact(za (by exact(zq zc)) (by exact(za (by exact(zB (zx (K:=K) (by rfl)) (qv 1) zi (λ_ _=>(by rfl)))) (by exact zc))))))))))
   (ze (we PassesOwn.never (by rfl) (wC (K:=K) (by rfl) (zk F__law_ends hr (by lia) (za (by exact(zB (zx (K:=K) (by rfl)) (qv 0) zi (λ_ _=>(by rfl)))) (by exact(za (by exact(qv 5)) (by exact(za (by exact(qv 2)) (by exact zc)))))))) (qW (i:=6) ql.nd (by rfl) (Or.inl (by rfl))) (zf (zw (zl (kn (hu64 hr)) (qv 6) (qv 5) (zp _)) (zf (jA (wc (K:=K) (by rfl) uL uN uO qj (qv 2) (za (qe_S (l:=[115,101,97,116]) (by decide +kernel)) zc)))) zm)))
   (zf (zj (zv (za (qv 1) zc))))))))))).h,?_⟩
  obtain⟨pa,vs,rfl,hpa,hf⟩:=pcF hp
  walk_at "rd";have hpa':=SqT.of (K:=K) (zh _ _ hpa);have hxH:=hx.mono (zh (st:=fa));obtain⟨s1,s2⟩:=id hs;cases p with
  | lit z=>
   cases hf;simp only [txP,fP] at hn hfl q;refine⟨_,hpa',_,qb _ _,rfl,?_⟩;rw [uf (show tx _=V.str (S _) from rfl)];refine⟨_,hpa',_,yl _ _ _,s,z,rfl,hxH,s1,by lia,λv H1 g1 r1 r2=>?_⟩;have f1:=g1 _ _ hfa;simp only [endP] at q;cases hr:runM s z with
   | error b=>rw [hr] at q;rw [uf (r2 b hr)];refine⟨.inl ⟨rfl,_,SqL.of f1⟩,_,f1,by omega,λp1 h1=>?_⟩;have G1:=(Gr.same hfa g1).put (v:=V.str (S [97,115,116,114,97,121]));rw [uz,Ud] at G1;exact q p1 [] [V.str (S [97,115,116,114,97,121])] _ (G1.then (zb h1)) (by simp) (by simp) (wQ G1.1 hfa G1.2 h1) (xj G1.2 h1) .nil
   | ok r=>rw [hr] at q;have hv:=r1 r hr;rw [ub (by obtain⟨_,rfl⟩:=jJ hv;intro z;cases z)];intro p1 h1;have k1:=zb (o:=.lst [v]) h1;exact q p1 [v] [] _ (Gr.same hfa (g1.trans k1)) (by simp) (by simp) (none_of g1 h1) (xj f1 h1) (.cons (xW (k1 _ _ f1) (hv.mono k1)) .nil)
  | hole z=>
   cases hf;simp only [txP,fP] at hn hfl q;refine⟨_,hpa',_,qb _ _,rfl,?_⟩;rw [ub (ji (by decide))];refine⟨_,hpa',_,qb _ _,rfl,?_⟩;rw [uf (show tx _=V.str (S _) from rfl)];refine⟨s,hxH,λH1 g1=>?_⟩;have f1:=g1 _ _ hfa;simp only [endP] at q;cases hr:xV s with
   | none=>rw [hr] at q;rw [uf (by decide)];refine⟨.inl ⟨rfl,_,SqL.of f1⟩,_,f1,by omega,λp1 h1=>?_⟩;have G1:=(Gr.same hfa g1).put (v:=V.str (S [104,111,108,101]));rw [uz,Ud] at G1;have G2:=G1.then (zb (o:=.lst [x]) h1);exact q p1 [x] [V.str (S [104,111,108,101])] _ G2 (by simp) (by simp) (wQ G1.1 hfa G1.2 h1) (xj G1.2 h1) (.cons (hx.mono G2.1) .nil)
   | some kd=>rw [hr] at q;rw [ub (by simp)];intro p1 h1;have k1:=zb (o:=.lst [x]) h1;have G2:=Gr.same hfa (g1.trans k1);exact q p1 [x] [] _ G2 (by simp) (by simp) (none_of g1 h1) (xj f1 h1) (.cons (hx.mono G2.1) .nil)
  | each nm b=>
   obtain⟨wv,rfl,hw⟩:=hf;simp only [txP,fP,eP,dpP] at hn hfl hel hdp q;refine⟨_,hpa',_,qb _ _,rfl,?_⟩;rw [ub (ji (by decide))];refine⟨_,hpa',_,qb _ _,rfl,?_⟩;rw [ub (ji (by decide))];refine⟨_,hpa',_,qb _ _,rfl,?_⟩;rw [uf (show tx _=V.str (S _) from rfl)];refine⟨_,hpa',_,VO _ _ _ _,b,by lia,hw,s,hx,n,hs,by lia,fs,hfa,by lia,by lia,λr us gs H1 G1 l1 i1 n1 e1 a1=>?_⟩;have e1':=zh _ _ e1;have ll:=j9 b [s];simp only [ur,Up] at ll;have al:=a1.len;refine⟨⟨_,SqL.of e1'⟩,VQ (K:=K) (α:=MS) (ms:=(endB b [s]).1) (λz=>decide (z≠s)) (by rw [uH];lia) al e1' (λi v m g1 g2 H2 k2 R r=>?_) (λD H2 hD k2 e2=>?_)⟩
   ·obtain⟨m',hm',hv⟩:=a1.get g1;rw [g2] at hm';cases hm';obtain⟨pv',rfl⟩:=jJ hv;obtain⟨px,rfl⟩:=jJ hx
    walk_at "rd";refine⟨_,((hv.mono zh).mono k2).dat,_,((hx.mono (G1.1.trans zh)).mono k2).dat,dep_S _,?_⟩;rw [xh,← decide_not];exact r
   ·simp only [endP] at q;intro p1 h1;have k1:=zb (o:=.lst []) h1;have J2:=Gr.same G1.2 (k2.trans k1);refine⟨D,rfl,_,SqL.of (k1 _ _ e2),SqL.of zd,?_⟩;have hfe:=Zy (f:=λz=>decide (z≠s)) al;rw [hfe,Bool.not_not];have f2:=J2.2;rw [uz] at f2;by_cases hz:((endB b [s]).1.any λz=>decide (z≠s))=true
    ·rw [uf hz];refine⟨.inl ⟨rfl,_,SqL.of f2⟩,_,f2,by rw [ug];lia,λp2 h2=>?_⟩;have J3:=J2.put (v:=V.str (S [101,97,99,104]));rw [uz,Ud] at J3;have J4:=J3.then (zb (o:=.lst [x]) h2);refine⟨_,zd,us,zh _ _ (J4.1 _ _ e1),by rw [al];simp only [ur];lia,λp3 h3=>?_⟩;have J5:=J4.then (zb (o:=.lst ([x]++us)) h3);have G5:=G1.trans J5;exact q p3 ([x]++us) _ _ G5 (by simp only [ug,ur];lia) ⟨λz=>by simp at z,λz=>by rw [hz,Uz] at z;cases z⟩ (wQ (G1.trans J4).1 hfa (G1.trans J4).2 h3) (xj J4.2 h3) (.cons (hx.mono G5.1) (a1.mono J5.1))
    ·rw [ub hz];have hz':((endB b [s]).1.any λz=>decide (z≠s))=false:=by simpa using hz
     intro p2 h2;have J4:=J2.then (zb (o:=.lst [x]) h2);refine⟨_,zd,us,zh _ _ (J4.1 _ _ e1),by rw [al];simp only [ur];lia,λp3 h3=>?_⟩;have J5:=J4.then (zb (o:=.lst ([x]++us)) h3);have G5:=(G1.trans J5).cast (uz _);exact q p3 ([x]++us) gs _ G5 (by lia) (by rw [hz',gu];exact i1) (wQ (G1.trans J4).1 hfa (G1.trans J4).2 h3) (xj J4.2 h3) (.cons (hx.mono G5.1) (a1.mono J5.1))
  | ife nm a b=>
   obtain⟨wv,uv,rfl,hw,hu⟩:=hf;simp only [txP,fP,eP,dpP] at hn hfl hel hdp q;refine⟨_,hpa',_,qb _ _,rfl,?_⟩;rw [ub (ji (by decide))];refine⟨_,hpa',_,qb _ _,rfl,?_⟩;rw [ub (ji (by decide))];refine⟨_,hpa',_,qb _ _,rfl,?_⟩;rw [ub (ji (by decide))];refine⟨_,hpa',_,qb _ _,rfl,?_⟩;rw [uf (show tx _=V.str (S _) from rfl)];refine⟨_,hpa',_,VO _ _ _ _,a,by lia,hw,s,hx,n,hs,by lia,fs,hfa,by lia,by lia,λr us gs H1 G1 l1 i1 n1 e1 a1=>?_⟩;refine⟨_,SqT.of (zh _ _ (G1.1 _ _ hpa)),_,WM _ _ _ _ _,b,by lia,hu.mono G1.1,s,hx.mono G1.1,n,hs,by lia,_,G1.2,by rw [ug];lia,by lia,λr' us' gs' H2 G2 l2 i2 n2 e2 a2=>?_⟩;have L1:=j9 a [s];have L2':=j9 b [s];simp only [ur,Up] at L1 L2';have al1:=a1.len;have al2:=a2.len;refine⟨us,zh _ _ (G2.1 _ _ e1),us',zh _ _ e2,by lia,λp0 h0=>?_⟩;have k0:=zb (o:=.lst (us++us')) h0;have G3:=G2.then k0;have A:=(a1.mono G3.1).app (a2.mono (zt k0));have hA:=xj (o:=.lst (us++us')) G2.2 h0;refine⟨⟨_,SqL.of zd⟩,VQ (K:=K) (α:=MS) (ms:=(endB a [s]).1++(endB b [s]).1) (λz=>decide (some z≠((endB a [s]).1++(endB b [s]).1).head?)) (by rw [uH,ug];lia) A.len zd (λi v m g1 g2 H4 k4 R hR=>?_) (λD H4 hD k4 e4=>?_)⟩
   ·obtain⟨m',hm',hv⟩:=A.get g1;rw [g2] at hm';cases hm'
    obtain⟨v0,r0,hv0⟩:∃ v0 r0,us++us' = v0::r0:=by
     cases h:us++us' with
     | nil=>rw [h] at g1;simp at g1
     | cons v0 r0=>exact⟨v0,r0,rfl⟩
    obtain⟨s0,hs0,hh0⟩:=A.get (i:=0) (v:=v0) (by rw [hv0];rfl);obtain⟨pv',rfl⟩:=jJ hv;obtain⟨px,rfl⟩:=jJ hh0;have hhd:((endB a [s]).1++(endB b [s]).1).head? = some s0:=by rw [List.head?_eq_getElem?];exact hs0
    rw [hhd] at hR;have e0:=k4 _ _ (zd (a:=p0) (o:=HO.lst (us++us')) (H:=H2));rw [hv0] at e0
    walk_at "rd";refine⟨_,SqL.of e0,_,qb _ _,_,_,px,rfl,((hv.mono zh).mono k4).dat,((hh0.mono zh).mono k4).dat,dep_S _,?_⟩;rw [xh,← decide_not];have:(decide (some m≠some s0))=decide (¬ m=s0):=by simp
    rw [this] at hR;exact hR
   ·simp only [endP] at q;intro p1 h1;have k1:=zb (o:=.lst []) h1;have J2:=G3.then (k4.trans k1);have f2:=J2.2;refine⟨D,rfl,_,SqL.of (k1 _ _ e4),SqL.of zd,?_⟩;have hfe:=Zy (f:=λz=>decide (some z≠((endB a [s]).1++(endB b [s]).1).head?)) A.len;rw [hfe,Bool.not_not];have G4:=G1.trans J2;have hA1:=zt (st:=fa) (k4.trans k1) _ _ hA;have A1:=A.mono (zt (st:=fa) (k4.trans k1));have np0:=wQ (G1.trans G2).1 hfa (G1.trans G2).2 h0;by_cases hz:(((endB a [s]).1++(endB b [s]).1).any λz=>decide (some z≠((endB a [s]).1++(endB b [s]).1).head?))=true
    ·rw [uf hz];refine⟨.inl ⟨rfl,_,SqL.of f2⟩,_,f2,by rw [ug,ug];lia,?_⟩;have J3:=J2.put (v:=V.str (S [105,102]));have G5:=G1.trans J3;refine q p0 (us++us') _ _ G5 (by simp only [ug,ur];lia) ⟨λz=>by simp at z,λz=>by rw [hz,Uz] at z;cases z⟩ np0 (by rw [vF];exact hA1) (by rw [vF];exact A1)
    ·rw [ub hz];have hz':(((endB a [s]).1++(endB b [s]).1).any λz=>decide (some z≠((endB a [s]).1++(endB b [s]).1).head?))=false:=by simpa using hz
     refine q p0 (us++us') (gs++gs') _ G4 (by simp only [ug];lia) ?_ np0 hA1 A1;rw [hz',gu,U3,i1,i2,U7]
  | seat wd nm mm b=>
   obtain⟨wv,rfl,hw⟩:=hf;simp only [txP,fP,eP,dpP] at hn hfl hel hdp q;refine⟨_,hpa',_,qb _ _,rfl,?_⟩;rw [ub (ji (by decide))];refine⟨_,hpa',_,qb _ _,rfl,?_⟩;rw [ub (ji (by decide))];refine⟨_,hpa',_,qb _ _,rfl,?_⟩;rw [ub (ji (by decide))];refine⟨_,hpa',_,qb _ _,rfl,?_⟩;rw [ub (ji (by decide))];obtain⟨px,po,rfl,hx1,hx2⟩:=id hx;have S1:=SqT.of (K:=K) (zh _ _ hx1);refine⟨px,rfl,_,S1,_,qb _ _,px,rfl,_,S1,_,yl _ _ _,λp1 h1=>?_⟩;have k1:=zb (o:=.tup []) h1;refine⟨px,rfl,_,SqT.of (k1 _ _ (zh _ _ hx1)),_,WM _ _ _ _ _,λp2 h2=>?_⟩;have k2:=zb (o:=.tup [tx s.mode,tx s.word,V.ref p1,tx s.talk]) h2;have k12:=k1.trans k2;have f2:=k12 _ _ hfa;have hfl':StV _ (.ref p2) (flo s):=xW f2 ⟨p2,p1,rfl,zd,k2 _ _ zd⟩;refine⟨_,SqT.of (k12 _ _ (zh _ _ hpa)),_,zeZ _ _ _ _ _ _,b,by lia,hw.mono (zt k12),flo s,hfl',n,⟨s1,by simp⟩,by lia,fs,f2,by lia,by lia,λr us gs H1 G1 l1 i1 n1 e1 a1=>?_⟩;have al:=a1.len;have ll:=j9 b [flo s];simp only [ur,Up] at ll;have e1':=zh _ _ e1;refine⟨⟨_,SqL.of e1'⟩,Zg (xs:=us) (stI pa px fa p2 b s (fs++gs) H1) ⟨[],_,rfl,⟨λb o h=>h,by rw [uz];exact G1.2⟩,by simp,by simp⟩ ?_ ?_ ?_⟩
   ·rintro i σ H2 _ ⟨_,_,_,G2,_⟩;exact SqL.of (zh _ _ (G2.1 _ _ e1))
   ·rintro i v σ H2 hi ⟨gs2,o6,rfl,G2,l2,i2⟩;obtain⟨z,hz,hv⟩:=a1.get hi;have hi':=(uF.mp hi).1;obtain⟨pv',rfl⟩:=jJ hv
    walk_at "rd";refine⟨_,(hv.mono (G2.1.trans zh)).dat,_,((hfl'.mono G1.1).mono (G2.1.trans zh)).dat,dep_S _,?_⟩;have htk:(endB b [flo s]).1.take (i+1)=(endB b [flo s]).1.take i++[z]:=by rw [UI,hz];rfl
    rw [xh];by_cases hq:z=flo s
    ·rw [ub (by rw [uQ hq];decide)];refine⟨gs2,_,rfl,G2,by lia,?_⟩;rw [htk,Gy,i2];simp [hq]
    ·rw [uf (by rw [uK hq];decide)];refine⟨.inl ⟨rfl,_,SqL.of G2.2⟩,_,G2.2,by simp only [ug];lia,?_⟩;refine⟨gs2++[V.str (S [115,101,97,116])],_,rfl,G2.put,by simp;lia,?_⟩;rw [htk,Gy];simp [hq]
   ·rintro σ H2 ⟨gs2,o6,rfl,G2,l2,i2⟩
    walk_at "rd";intro p3 h3;have k3:=zb (o:=.lst [V.ref px]) h3;simp only [endP] at q;have G0:Gr fa H (upd (upd H p1 (.tup [])) p2 (.tup [tx s.mode,tx s.word,V.ref p1,tx s.talk])) fs []:=Gr.same hfa k12;have GA:=G0.trans ((G1.cast rfl).trans G2 |> λz=>by rw [uz];exact z);have G5:=GA.then k3;refine q p3 [V.ref px] (gs++gs2) _ G5 (by simp only [ug];lia) ?_ (wQ GA.1 hfa GA.2 h3) (xj GA.2 h3) (.cons (hx.mono G5.1) .nil);rw [al,U5] at i2;rw [U3,i1,i2,U7]
def enI (xa:Addr)(x:V)(fa:Addr)(ps:List Pc)(s:MS)(n:Nat)(fs:List V)(H:Hp)(i:Nat)(σ:L2.St)(H1:Hp):Prop:=∃ (sa:Addr) (us gs:List V) (cur:List MS) (fl:Bool) (o4 o5 o6 o7:Option V),σ=[some (.ref xa),some x,some (.ref fa),some (.ref sa),o4,o5,o6,o7]/\Gr fa H H1 fs gs/\gs.length+cur.length * fB (ps.drop i)<=fB ps/\(gs=[]↔fl=false)/\H sa=none/\hide fa H1 sa=some (.lst us)/\StA (hide fa H1) us cur/\(endB ps [s]).1=(endB (ps.drop i) cur).1/\(endB ps [s]).2=(fl||(endB (ps.drop i) cur).2)/\(∀ z∈cur,SB z (n+(txPs ps - txPs (ps.drop i))))/\txPs (ps.drop i)<=txPs ps/\cur.length * eB (ps.drop i)<=eB ps
def mdI (xa:Addr)(x:V)(fa sa:Addr)(y:V)(ea:Addr)(p:Pc)(cur:List MS)(fs:List V)(H1:Hp)(j:Nat)(σ:L2.St)(H2:Hp):Prop:=∃ (ws gs2:List V) (o6 o7:Option V),σ=[some (.ref xa),some x,some (.ref fa),some (.ref sa),some y,some (.ref ea),o6,o7]/\Same (hide fa H1) (hide ea (hide fa H2))/\H2 fa=some (.lst (fs++gs2))/\H2 ea=some (.lst ws)/\StA (hide ea (hide fa H2)) ws (zG [] ((cur.take j).flatMap λs=>(endP p s).1))/\(gs2=[]↔((cur.take j).any λs=>(endP p s).2)=false)/\gs2.length<=j * fP p
def inI (xa:Addr)(x:V)(fa sa:Addr)(y:V)(ea:Addr)(v:V)(acc l:List MS)(H2:Hp)(j:Nat)(σ:L2.St)(H3:Hp):Prop:=∃ (ws:List V) (o7:Option V),σ=[some (.ref xa),some x,some (.ref fa),some (.ref sa),some y,some (.ref ea),some v,o7]/\Same (hide ea H2) (hide ea H3)/\H3 ea=some (.lst ws)/\StA (hide ea (hide fa H3)) ws (zG acc (l.take j))
theorem V4 {k d:Nat}(hk10:20<=k)(T:Txt w K mg t)(D:Df K mg "_law_ends" vf zN)(F__law_each_end:OkF P w K mg base k "_law_each_end" qk (wo d)):OkF P w K mg base (k+1) "_law_ends" zN (z6 d):=by
 refine D.ok qA (λvs H Q E h=>?_) (λf cdv A outer s H vs Q E hr h=>?_)
 ·refine ex7 h λ_ _ _ _ _ _ _ h=>?_;exact av9 h λ_ _ _ _ _ _ _ _ _=>rfl
 ·refine ex7 h λfa pv x ps s n fs h=>?_;refine av9 h λhdp hp hx hs hn hfa hfl hel q=>?_
  refine⟨_,((ze (zy (i:=3) qA.nd (by rfl) (Or.inl (by rfl)) (zv (za (qv 1) zc)))
   (ze (we PassesOwn.never (by rfl) (wC (K:=K) (by rfl) (qv 0)) (qW (i:=4) qA.nd (by rfl) (Or.inl (by rfl))) (ze (zy (i:=5) qA.nd (by rfl) (Or.inl (by rfl)) (zv zc))
   (ze (we PassesOwn.never (by rfl) (wC (K:=K) (by rfl) (qv 3)) (qW (i:=6) qA.nd (by rfl) (Or.inl (by rfl))) (zf (we PassesOwn.never (by rfl) (wC (K:=K) (by rfl) (zk F__law_each_end hr (by lia) (za (qv 4) (za (qv 6) (za (qv 2) zc))))) (qW (i:=7) qA.nd (by rfl) (Or.inl (by rfl))) (zf (zw (zl (zeu (hu64 hr)) (qv 7) (qv 5) (by rfl)) (zf (jA (wc (K:=K) (by rfl) uL uN uO qj (qv 5) (za (qv 7) zc)))) zm)))))
   (zf (zy (i:=3) qA.nd (by rfl) (Or.inl (by rfl)) (qv 5))))))
   (zf (zj (qv 3)))))).h,?_⟩
  walk_at "rd";obtain⟨xa,xs,rfl,hxa,hxs⟩:=hp;intro p0 h0;have k0:=zb (o:=.lst [x]) h0;have G0:=Gr.same hfa k0;refine⟨xa,rfl,⟨_,SqL.of (k0 _ _ (zh _ _ hxa))⟩,?_⟩;refine Zg (xs:=xs) (enI xa x fa ps s n fs H) ⟨p0,[x],[],[s],false,_,_,_,_,rfl,G0,by simp,by simp,h0,xj hfa h0,.cons (hx.mono G0.1) .nil,by rw [U2],by rw [U2];simp,by simpa using hs,by simp,by simp⟩ ?_ ?_ ?_
  ·rintro i σ H1 _ ⟨_,_,_,_,_,_,_,_,_,_,G,_⟩;exact SqL.of (zh _ _ (G.1 _ _ hxa))
  ·rintro i y σ H1 hi ⟨sa,us,gs,cur,fl,o4,o5,o6,o7,rfl,G1,l1,i1,n1,e1,a1,c2,c3,c4,c5,c6⟩;have hil:i<ps.length:=by have:=(uF.mp hi).1;have:=hxs.len;rw [v9] at this;lia
   obtain⟨dd,hd1,hd2⟩:=hxs.get hi;rw [Xg ps i ps[i] (uw hil)] at hd1;cases hd1;have hpd:=Y9 (UM hil);rw [UP hil] at c2 c3 c4 c5 c6 l1;generalize ps[i]=p at hd2 hpd c2 c3 c4 c5 c6 l1;generalize hrest:ps.drop (i+1)=rest at c2 c3 c4 c5 c6 l1;simp only [endB,txPs,fB,eB] at c2 c3 c4 c5 c6 l1;have hr1:=Y8 rest;have q1:cur.length * eP p<=eB ps:=by refine ux ?_ c6;rw [← U6];exact gC _ hr1
   have q2:gs.length+cur.length * fP p<=fB ps:=by rw [Gw] at l1;lia
   have al:=a1.len
   walk_at "rd";intro ea he;have ke:=zb (o:=.lst []) he;have nef:ea≠fa:=λz=>by rw [z,G1.2] at he;cases he
   have M0:Same (hide fa H1) (hide ea (hide fa (upd H1 ea (.lst [])))):=by rw [zcW];exact zcX (by rw [hide_ne nef];exact he)
   have lA:(zG [] (cur.flatMap λs=>(endP p s).1)).length<=cur.length * eP p:=by have h1:=wm (cur.flatMap λs=>(endP p s).1) [];have h2:=Zx (f:=λs=>(endP p s).1) (n:=eP p) (l:=cur) λs=>QR p s;rw [U9,gJ] at h1;exact ux h1 h2
   refine⟨⟨_,SqL.of (ke _ _ (zh _ _ e1))⟩,Zg (xs:=us) (mdI xa x fa sa y ea p cur (fs++gs) H1) ⟨[],[],_,_,rfl,M0,by rw [uz];exact ke _ _ G1.2,zd,.nil,by simp,by simp⟩ ?_ ?_ ?_⟩
   ·rintro j σ H2 _ ⟨ws,gs2,o6,o7,_,M,_⟩;exact SqL.of (zh _ _ (zh _ _ (M _ _ e1)))
   ·rintro j v σ H2 hj ⟨ws,gs2,o6',o7',rfl,M,f2,w2,a2,i2,l2⟩;obtain⟨z,hz,hv⟩:=a1.get hj;have hj':j<cur.length:=(uF.mp hz).1;have hzm:z∈cur:=uZ hz;have m1:=u9 (fP p) (show j+1<=cur.length from hj');have m2:=u9 (eP p) (show j+1<=cur.length from hj');rw [gP,Up] at m1 m2;have MH:Same (hide fa H1) (hide fa H2):=M.trans zh;have ht1:cur.take (j+1)=cur.take j++[z]:=by rw [UI,hz];rfl
    have lX:(zG [] ((cur.take j).flatMap λs=>(endP p s).1)).length<=j * eP p:=by have h1:=wm ((cur.take j).flatMap λs=>(endP p s).1) [];have h2:=Zx (f:=λs=>(endP p s).1) (n:=eP p) (l:=cur.take j) λs=>QR p s;rw [U9,gJ] at h1;rw [Ul,Nat.min_eq_left (gc hj')] at h2;exact ux h1 h2
    have lz:=QR p z
    walk_at "rd";refine⟨p,by lia,hd2.mono (G1.1.trans MH),z,hv.mono MH,_,c4 z hzm,by lia,_,f2,by simp only [ug];lia,by lia,λr us2 gs3 H3 G3 l3 i3 n3 e3 a3=>?_⟩;have ner:r≠ea:=λz=>by rw [z,w2] at n3;cases n3
    have w3:hide fa H3 ea=some (.lst ws):=G3.1 _ _ (by rw [hide_ne nef];exact w2);refine⟨⟨_,SqL.of (zh _ _ e3)⟩,Zg (xs:=us2) (inI xa x fa sa y ea v (zG [] ((cur.take j).flatMap λs=>(endP p s).1)) (endP p z).1 H3) ⟨ws,_,rfl,λb o h=>h,zh _ _ w3,a2.mono (zt G3.1)⟩ ?_ ?_ ?_⟩
    ·rintro i2 σ H4 _ ⟨_,_,_,M4,_⟩;exact SqL.of (zh _ _ (M4 _ _ (by rw [hide_ne ner];exact zh _ _ e3)))
    ·rintro kk tv σ H4 hk ⟨ws4,o7,rfl,M4,w4,a4⟩;obtain⟨m,hm,htv⟩:=a3.get hk;have htk:(endP p z).1.take (kk+1)=(endP p z).1.take kk++[m]:=by rw [UI,hm];rfl
     have hk':=(uF.mp hm).1;have MF:Same (hide ea (hide fa H3)) (hide ea (hide fa H4)):=by rw [yW,yW (H:=H4)];exact zt M4
     have ht4:=(xW w3 htv).mono MF;have hle2:Same (hide ea (hide fa H4)) H4:=zh.trans zh;have la:=a4.len;have lb:=wm ((endP p z).1.take kk) (zG [] ((cur.take j).flatMap λs=>(endP p s).1));rw [Ul] at lb
     walk_at "rd";refine⟨ws4,w4,_,(a4.mono hle2).ds,_,(ht4.mono hle2).dat,zeC _,a4.refs,?_⟩;rw [zhM];by_cases hin:m∈zG (zG [] ((cur.take j).flatMap λs=>(endP p s).1)) ((endP p z).1.take kk)
     ·rw [ub (by rw [uQ hin];decide)];exact⟨ws4,_,rfl,M4,w4,by rw [htk,zbo hin];exact a4⟩
     ·rw [uf (by rw [uK hin];decide)];refine⟨.inl ⟨rfl,_,SqL.of w4⟩,_,w4,by lia,ws4++[tv],_,rfl,by rw [vF];exact M4,zd,?_⟩;rw [htk,VR hin,zcW];exact a4.app (.cons ht4 .nil)
    ·rintro σ H4 ⟨ws4,o7,rfl,M4,w4,a4⟩;rw [a3.len,U5,← k9] at a4;have MF:Same (hide ea (hide fa H3)) (hide ea (hide fa H4)):=by rw [yW,yW (H:=H4)];exact zt M4
     have f4:=zh _ _ (M4 _ _ (by rw [hide_ne (Ne.symm nef)];exact G3.2));refine⟨ws4,gs2++gs3,_,_,rfl,M.trans ((zt G3.1).trans MF),by rw [← UH];exact f4,w4,?_,?_,by rw [ug,gP,Up];lia⟩
     ·rw [ht1,List.flatMap_append,List.flatMap_cons,List.flatMap_nil,uz];exact a4
     ·rw [ht1,Gy,U3,i2,i3,U7];simp
   ·rintro σ H2 ⟨ws,gs2,o6',o7',rfl,M,f2,w2,a2,i2,l2⟩;rw [al] at a2 i2 l2;rw [U5] at a2 i2;have lB:=u9 (fB rest) lA;have lC:=u9 (eB rest) lA;rw [Gw,← U6] at l1;rw [← U6] at c6
    walk_at "rd";refine⟨ea,ws,gs++gs2,zG [] (cur.flatMap λs=>(endP p s).1),fl||cur.any λs=>(endP p s).2,_,_,_,_,rfl,⟨G1.1.trans (M.trans zh),by rw [← UH];exact f2⟩,?_,?_,wQ G1.1 hfa G1.2 he,by rw [hide_ne nef];exact w2,a2.mono zh,by rw [hrest];exact c2,by rw [hrest,c3,Bool.or_assoc],λz hz=>?_,by rw [hrest];lia,?_⟩
    ·rw [hrest,ug];lia
    ·rw [U3,i1,i2,U7]
    ·rcases yc hz with k | k
     ·cases k
     ·obtain⟨z',hz',hk⟩:=List.mem_flatMap.mp k;refine(zcV p z' _ (c4 z' hz') z hk).mono ?_;rw [hrest];lia
    ·rw [hrest];lia
  ·rintro σ H1 ⟨sa,us,gs,cur,fl,o4,o5,o6,o7,rfl,G1,l1,i1,n1,e1,a1,c2,c3,c4,c5,c6⟩;rw [List.drop_eq_nil_of_le (by have:=hxs.len;rw [v9] at this;lia)] at c2 c3;simp only [endB,gu] at c2 c3
   walk_at "rd";exact q sa us gs H1 G1 (by lia) (by rw [c3];exact i1) n1 e1 (by rw [c2];exact a1)
theorem Xw (T:Txt w K mg t)(D:Df K mg "_law_ends" vf zN)(D__law_each_end:Df K mg "_law_each_end" qu qk)(F__law_ran:OkF P w K mg base 8 "_law_ran" qz jm)(F__law_hole_stands:OkF P w K mg base 1 "_law_hole_stands" zX qF):OkF P w K mg base 60 "_law_ends" zN (z6 3):=by have a0:OkF P w K mg base 20 "_law_ends" zN (z6 0):=D.ok (k:=19) qA (λ_ _ _ _ ⟨_,_,_,_,_,_,_,_,h,_⟩=>absurd h (gK _)) (λ_ _ _ _ _ _ _ _ _ _ ⟨_,_,_,_,_,_,_,_,h,_⟩=>absurd h (gK _));have up:∀ {k d:Nat},20<=k->OkF P w K mg base k "_law_ends" zN (z6 d)->OkF P w K mg base (k+2) "_law_ends" zN (z6 (d+1)):=λ{k d} hk a=>V4 (k:=k+1) (by lia) T D (QF hk T D__law_each_end F__law_ran F__law_hole_stands a);exact(up (by decide) (up (by decide) (up (by decide) a0))).mono (by decide)
end
section
variable {P:Program} {w:World} {K:Le} {mg:La} {base:Heap} {t:Ads}
theorem V5 (T:Txt w K mg t)(D:Df K mg "_law_menu" yB j6):OkF P w K mg base 1 "_law_menu" j6 yd:=by
 refine D.ok vT (λvs H Q E h=>?_) (λf cdv A outer s H vs Q E hr h=>?_)
 ·exact av1 h λ_=>rfl
 ·refine av1 h λq=>?_
  refine⟨_,((ze (zy (i:=0) vT.nd (by rfl) (Or.inl (by rfl)) (zv (za (by exact(qe_S (l:=[120]) (by decide +kernel))) (by exact(za (by exact(qe_S (l:=[60,97,62]) (by decide +kernel))) (by exact(za (by exact(qe_S (l:=[60,47,97,62]) (by decide +kernel))) (by exact(za (by exact(qe_S (l:=[60,97]) (by decide +kernel))) (by exact(za (by exact(qe_S (l:=[62]) (by decide +kernel))) (by exact(za (by exact(qe_S (l:=[32,98,58]) (by decide +kernel))) (by exact(za (by exact(qe_S (l:=[99]) (by decide +kernel))) (by exact(za (by exact(qe_S (l:=[32,98,61,34]) (by decide +kernel))) (by exact(za (by exact(qe_S (l:=[34]) (by decide +kernel))) (by exact(za (by exact(qe_S (l:=[38,48,53,59]) (by decide +kernel))) (by exact(za (by exact(qe_S (l:=[38]) (by decide +kernel))) (by exact(za (by exact(qe_S (l:=[32,98,40]) (by decide +kernel))) (by exact(za (by exact(qe_S (l:=[44]) (by decide +kernel))) (by exact zc))))))))))))))))))))))))))))
   (ze (zy (i:=0) vT.nd (by rfl) (Or.inl (by rfl)) (zA xo (qv 0) (zv (za (by exact(qe_S (l:=[41]) (by decide +kernel))) (by exact(za (by exact(qe_S (l:=[47,62]) (by decide +kernel))) (by exact(za (by exact(qe_S (l:=[60,97,47,62]) (by decide +kernel))) (by exact(za (by exact(qe_S (l:=[32,98,33,34]) (by decide +kernel))) (by exact(za (by exact(qe_S (l:=[39]) (by decide +kernel))) (by exact(za (by exact(qe_S (l:=[39,34]) (by decide +kernel))) (by exact(za (by exact(qe_S (l:=[60,97,115,105,115,62]) (by decide +kernel))) (by exact(za (by exact(qe_S (l:=[60,47,97,115,105,115,62]) (by decide +kernel))) (by exact(za (by exact(qe_S (l:=[60,47]) (by decide +kernel))) (by exact(za (by exact(qe_S (l:=[97,62]) (by decide +kernel))) (by exact(za (by exact(qe_S (l:=[32]) (by decide +kernel))) (by exact zc)))))))))))))))))))))))))
   (zf (zj (zA xo (qv 0) (zv (za (qe_S (l:=[92]) (by decide +kernel)) (za (qe_S (l:=[126,48,53]) (by decide +kernel)) (za (qe_S (l:=[60,97,32,98,61,34,99,34]) (by decide +kernel)) (za (qe_S (l:=[62,60,97]) (by decide +kernel)) (za (qe_S (l:=[60,47,97,62,60,97,62]) (by decide +kernel)) zc)))))))))))).h,?_⟩
  walk_at "rd";intro p0 h0 p1 h1;have k0:=zb (o:=.lst (vi.map tx |>.take 13)) h0;have k1:=zb (o:=.lst ((vi.map tx |>.drop 13).take 11)) h1;refine⟨_,k1 _ _ zd,_,zd,by decide,λp2 h2 p3 h3=>?_⟩;have k2:=zb (o:=.lst (vi.map tx |>.take 24)) h2;have k3:=zb (o:=.lst (vi.map tx |>.drop 24)) h3;refine⟨_,k3 _ _ zd,_,zd,by decide,λp4 h4=>?_⟩;exact q p4 _ (k0.trans (k1.trans (k2.trans (k3.trans (zb h4))))) zd
theorem JV (T:Txt w K mg t)(D:Df K mg "_law_literal" xQ qr)(F__law_menu:OkF P w K mg base 1 "_law_menu" j6 yd)(F__law_mix:OkF P w K mg base 1 "_law_mix" qh qO)(F__law_ran:OkF P w K mg base 8 "_law_ran" qz jm):OkF P w K mg base 9 "_law_literal" qr jD:=by
 refine D.ok qT (λvs H Q E h=>?_) (λf cdv A outer s H vs Q E hr h=>?_)
 ·refine ex3 h λ_ _ _ h=>?_;exact av3 h λ_ _ _=>rfl
 ·refine ex3 h λc x n h=>?_;refine av3 h λhx hn q=>?_
  refine⟨_,((ze (zy (i:=2) qT.nd (by rfl) (Or.inl (by rfl)) (jM F__law_menu hr (by decide)))
   (ze (zy (i:=3) qT.nd (by rfl) (Or.inl (by rfl)) (zB (jU (K:=K) (by rfl)) (qv 2) (zk F__law_mix hr (by decide) (za (by exact(qv 0)) (by exact(za (by exact zi) (by exact(za (by exact(zJ (qZ (K:=K) (by rfl)) (by rfl) T.z_len xq (za (qv 2) zc))) (by exact zc))))))) (λ_ _=>(by rfl))))
   (ze (zw (QW.qt (Jn (zl zD (zk F__law_mix hr (by decide) (za (qv 0) (za zi (za zi zc)))) zi (zp _)) (Jo (zl vm (qv 1) zF (zp _))))) (zf (zj (qv 3))) zm)
   (ze (we PassesOwn.never (by rfl) (ZK (by rfl) T.z_range (za (zJ (qZ (K:=K) (by rfl)) (by rfl) T.z_len xq (za (qv 2) zc)) zc)) (qW (i:=4) qT.nd (by rfl) (Or.inl (by rfl))) (ze (zy (i:=3) qT.nd (by rfl) (Or.inl (by rfl)) (zB (jU (K:=K) (by rfl)) (qv 2) (zA jS (zA vk (zk F__law_mix hr (by decide) (za (by exact(qv 0)) (by exact(za (by exact zi) (by exact(za (by exact(zJ (qZ (K:=K) (by rfl)) (by rfl) T.z_len xq (za (qv 2) zc))) (by exact zc))))))) (zA qP (qv 4) zi)) (zJ (qZ (K:=K) (by rfl)) (by rfl) T.z_len xq (za (qv 2) zc))) (λ_ _=>(by rfl))))
   (zf (zw (zl QH (zk F__law_ran hr (by decide) (za (qv 1) (za (qv 3) zc))) zF (zp _)) (zf (zj (qv 3))) zm))))
   (zf (zj (qe_S (l:=[120]) (by decide +kernel))))))))).h,?_⟩
  walk_at "rd";intro r H1 g1 e1;have hix:∀ j:Nat,j<29->∃ l∈vi,(vi.map tx)[j]? = some (tx l):=λj hj=>⟨vi[j]'hj,UM _,by rw [Um,uw hj];rfl⟩
  refine⟨_,.inl (SqL.of e1),by decide,λv H2 hv g2=>?_⟩;have hl29:((vi.map tx).length:Int)=29:=rfl;rw [hl29] at hv;obtain⟨l,hl,hx1⟩:=hix v (by lia);refine⟨_,SqL.of (g2 _ _ e1),_,hx1,λv2 H3 hv2 g3=>?_⟩;have g13:=g1.trans (g2.trans g3);split
  ·exact q l H3 hl g13
  split
  ·exact q l H3 hl g13
  rename_i hnon;rcases hx with rfl | ⟨s,hs,hsb⟩
  ·exact absurd rfl hnon
  have e3:=g3 _ _ (g2 _ _ e1);refine⟨_,.inl (SqL.of e3),by decide,by decide,?_⟩;refine Ja (λ_ σ H'=>∃ l o4,l∈vi/\σ=[some (V.int c),some x,some (V.ref r),some (tx l),o4]/\Same H3 H') ⟨l,_,hl,rfl,Same.refl _⟩ ?_ ?_
  ·rintro i σ H4 hi ⟨l',o4,hl',rfl,g4⟩;have hi29:i<29:=hi
   walk_at "rd";refine⟨_,.inl (SqL.of (g4 _ _ e3)),by decide,λv5 H5 hv5 g5=>?_⟩;have e5:=g5 _ _ (g4 _ _ e3);refine⟨xZ (by lia),_,.inl (SqL.of e5),by decide,?_⟩;rw [hl29];obtain⟨j,hj,ej⟩:∃ j:Nat,j<29/\((v5:Int)+(i:Int) * 7) % 29=(j:Int):=⟨(((v5:Int)+(i:Int) * 7) % 29).toNat,by lia,by lia⟩
   obtain⟨l5,hl5,hx5⟩:=hix j hj;have ls5:=yN l5 hl5;have hs2:=hsb.2;refine⟨_,SqL.of e5,tx l5,by rw [ej,Qk];exact hx5,s,l5,rfl,hs.mono (g13.trans (g4.trans g5)),hsb.1,by lia,λv H6 g6 _ _=>?_⟩;split
   ·exact q l5 H6 hl5 (g13.trans (g4.trans (g5.trans g6)))
   ·exact⟨l5,hl5,rfl,g4.trans (g5.trans g6)⟩
  ·rintro σ H4 ⟨l',o4,hl',rfl,g4⟩
   walk_at "rd";exact q _ H4 (by decide) (g13.trans g4)
end
section
variable {P:Program} {w:World} {K:Le} {mg:La} {base:Heap} {t:Ads}
theorem ent (l:Tx):(if (!decide (tx l=V.str (S [])))=true then(1:Int) else 0)=(((Lt l).length:Nat):Int):=by
 by_cases h:l=[]
 ·rw [ub (by rw [uQ (show tx l=V.str (S []) by rw [h];rfl)];decide),show Lt l=[] from uf h];rfl
 ·rw [uf (by rw [uK (ji h)];rfl),show Lt l=[.lit l] from ub h];rfl
def evI (xa:Addr)(c:Int)(x:V)(Hb:Hp)(_:Nat)(σ:L2.St)(H':Hp):Prop:=∃ o3 o4:Option V,σ=[some (V.ref xa),some (V.int c),some x,o3,o4]/\Same Hb H'
theorem V6 (T:Txt w K mg t)(D:Df K mg "_law_even" yD jq)(F__law_ends:OkF P w K mg base 60 "_law_ends" zN (z6 3))(F__law_mix:OkF P w K mg base 1 "_law_mix" qh qO):OkF P w K mg base 62 "_law_even" jq xk:=by
 refine D.ok vU (λvs H Q E h=>?_) (λf cdv A outer s H vs Q E hr h=>?_)
 ·refine ex8 h λ_ _ _ _ _ _ _ _ h=>?_;exact av8 h λ_ _ _ _ _ _ _ _=>rfl
 ·refine ex8 h λHs pv ps c x d k n h=>?_;refine av8 h λhHs hp hb hk hd hx hn q=>?_
  refine⟨_,((ze (zw (QW.qt (Jn (zl zD (zk F__law_mix hr (by decide) (za (qv 1) (za zi (za zi zc)))) zi (zp _)) (Jo (zl vm (qv 2) zF (zp _))))) (zf (zj (qv 0))) zm)
   (ze (we PassesOwn.never (by rfl) (W3 (K:=K) (by rfl) (zq (za (by exact(qe_S (l:=[]) (by decide +kernel))) (by exact(za (by exact(qe_S (l:=[60,47,97,62]) (by decide +kernel))) (by exact(za (by exact(qe_S (l:=[34]) (by decide +kernel))) (by exact(za (by exact(qe_S (l:=[62]) (by decide +kernel))) (by exact(za (by exact(qe_S (l:=[41]) (by decide +kernel))) (by exact(za (by exact(qe_S (l:=[39]) (by decide +kernel))) (by exact(za (by exact(qe_S (l:=[47,62]) (by decide +kernel))) (by exact(za (by exact(qe_S (l:=[39,34,47,62]) (by decide +kernel))) (by exact(za (by exact(qe_S (l:=[34,47,62]) (by decide +kernel))) (by exact zc)))))))))))))))))))) (qW (i:=3) vU.nd (by rfl) (Or.inl (by rfl))) (ze (zy (i:=4) vU.nd (by rfl) (Or.inl (by rfl)) (zA xo (qv 0) (zA W5 (zv (za (zq (za (qe_S (l:=[108,105,116]) (by decide +kernel)) (za (qv 3) zc))) zc)) (xn yT (by rfl) T.z_int Q9 (za (jX zbD (qv 3) (qe_S (l:=[]) (by decide +kernel)) (zp _)) zc)))))
   (zf (zw (zl (Yz (hu64 hr)) (zk F__law_ends hr (by decide) (za (by exact(qv 4)) (by exact(za (by exact(qv 2)) (by exact(za (by exact(zv zc)) (by exact zc))))))) (zv (za (qv 2) zc)) (zp _)) (zf (zj (qv 4))) zm))))
   (zf (zj (zA W5 (zv (za (zq (za (qe_S (l:=[108,105,116]) (by decide +kernel)) (za (qe_S (l:=[120]) (by decide +kernel)) zc))) zc)) (xn yT (by rfl) T.z_int Q9 (za (jX zD (zB (zx (K:=K) (by rfl)) (qv 2) zi (λ_ _=>(by rfl))) (qe_S (l:=[116,101,120,116]) (by decide +kernel)) (zp _)) zc)))))))).h,?_⟩
  walk_at "rd";intro v H1 hv g1;split
  ·exact q pv ps H1 g1 (hp.mono (Ke hHs)) (hb.eb hk)
  split
  ·exact q pv ps H1 g1 (hp.mono (Ke hHs)) (hb.eb hk)
  rename_i hnon;rcases hx with rfl | ⟨s,hs,hsb⟩
  ·exact absurd rfl hnon
  intro p0 h0;have k0:=zb (o:=.tup [V.str (S []),V.str (S [60,47,97,62]),V.str (S [34]),V.str (S [62]),V.str (S [41]),V.str (S [39]),V.str (S [47,62]),V.str (S [39,34,47,62]),V.str (S [34,47,62])]) h0;have g10:=g1.trans k0;obtain⟨xa,xs,rfl,hxa,hxs⟩:=hp;have xl:xs.length<=10000:=by have h1:=hxs.len;rw [v9] at h1;have h2:=(hb.eb hk).small hd;have h3:=Xl ps;lia
  refine⟨⟨_,SqT.of zd⟩,Yy (K:=K) (a:=p0) (xs:=([[],[60,47,97,62],[34],[62],[41],[39],[47,62],[39,34,47,62],[34,47,62]]:List Tx).map tx) (evI xa c x (upd H1 p0 (.tup [V.str (S []),V.str (S [60,47,97,62]),V.str (S [34]),V.str (S [62]),V.str (S [41]),V.str (S [39]),V.str (S [47,62]),V.str (S [39,34,47,62]),V.str (S [34,47,62])]))) ⟨_,_,rfl,Same.refl _⟩ ?_ ?_ ?_⟩
  ·rintro i σ H2 _ ⟨_,_,_,g⟩;exact SqT.of (g _ _ zd)
  ·rintro i y σ H2 hi ⟨o3,o4,rfl,g2⟩;obtain⟨l,hlm,rfl⟩:∃ l∈([[],[60,47,97,62],[34],[62],[41],[39],[47,62],[39,34,47,62],[34,47,62]]:List Tx),tx l=y:=gI.mp (uZ hi);have hl10:=(by decide:∀ l∈([[],[60,47,97,62],[34],[62],[41],[39],[47,62],[39,34,47,62],[34,47,62]]:List Tx),l.length<=10) l hlm;have gg:=g10.trans g2;have hEB:=hb.lt hk hl10;have hsm:=hEB.small hd
   walk_at "rd";intro p1 h1 p2 h2;have k1:=zb (o:=.tup [V.str (S [108,105,116]),tx l]) h1;have k2:=zb (o:=.lst [V.ref p1]) h2;refine⟨rfl,_,zd,?_⟩;rw [show(if (!decide (tx l=V.str (S [])))=true then(1:Int) else 0)=(((Lt l).length:Nat):Int) from ent l];have z1:=zc4 l;refine⟨by lia,by lia,by simp;lia,λp3 h3=>?_⟩;rw [mulL] at *;have k3:=zb (o:=.lst (lz l p1)) h3;have lzl:=zc2 l p1;have k13:=k1.trans (k2.trans k3);refine⟨xs,k13 _ _ (gg _ _ (hHs _ _ hxa)),_,zd,by lia,λp4 h4=>?_⟩;have k4:=zb (o:=.lst (xs++lz l p1)) h4;have np4:=none_of k13 h4;obtain⟨Hq,hQ⟩:∃ Hq,Hq=upd (upd (upd (upd H2 p1 (.tup [V.str (S [108,105,116]),tx l])) p2 (.lst [V.ref p1])) p3 (.lst (lz l p1))) p4 (.lst (xs++lz l p1)):=⟨_,rfl⟩
   have k14:Same H2 Hq:=by rw [hQ];exact k13.trans k4
   have e4:Hq p4=some (.lst (xs++lz l p1)):=by rw [hQ];exact zd
   have e1:Hq p1=some (.tup [V.str (S [108,105,116]),tx l]):=by rw [hQ];exact(k2.trans (k3.trans k4)) _ _ zd
   rw [← hQ];clear k13 k4 k3 k2 hQ h4 h3 h2;intro p5 h5;have k5:=zb (o:=.lst []) h5;have hide5:Same Hq (hide p5 (upd Hq p5 (.lst []))):=λb o e=>by rw [hide_ne (zE e h5)];exact k5 _ _ e
   have hD:IsDs Hq (dPs (ps++Lt l)) (xs++lz l p1):=by rw [vg];exact(hxs.mono (hHs.trans (gg.trans k14))).app (zc3 e1)
   refine⟨ps++Lt l,hsm.1,IsDt.mono hide5 ⟨p4,_,rfl,e4,hD⟩,s,(hs.mono (gg.trans k14)).mono hide5,n,hsb,by lia,[],zd,by simp;lia,by lia,λr us gs H6 G6 _ _ n6 e6 a6 p7 h7=>?_⟩;have k7:=zb (o:=.lst [x]) h7;have hF:Same Hq (upd H6 p7 (.lst [x])):=(hide5.trans (G6.1.trans zh)).trans k7;have hfin:=(gg.trans k14).trans hF;refine⟨.ls ((endB (ps++Lt l) [s]).1.map dS),⟨r,us,rfl,k7 _ _ (zh _ _ e6),(a6.mono (zh.trans k7)).ds⟩,.ls ([s].map dS),⟨p7,[x],rfl,zd,(StA.cons (hs.mono hfin) .nil:StA _ [x] [s]).ds⟩,zc5 _,?_⟩;split
   ·refine q (.ref p4) (ps++Lt l) _ hfin ⟨p4,xs++lz l p1,rfl,?_,?_⟩ hEB
    ·rw [JP (none_of gg np4)];exact hF _ _ e4
    ·rw [vg];refine(hxs.mono (Ke hHs)).app (zc3 ?_);rw [JP (none_of gg h1)];exact hF _ _ e1
   ·exact⟨_,_,rfl,g2.trans (k14.trans hF)⟩
  ·rintro σ H2 ⟨o3,o4,rfl,g2⟩;obtain⟨px,po,rfl,hx1,hx2⟩:=id hs;have gg:=g10.trans g2
   walk_at "rd";intro p1 h1 p2 h2;have k1:=zb (o:=.tup [V.str (S [108,105,116]),V.str (S [120])]) h1;have k2:=zb (o:=.lst [V.ref p1]) h2;refine⟨_,SqT.of (k2 _ _ (k1 _ _ (gg _ _ hx1))),_,qb _ _,rfl,_,zd,by split<;>decide,by split<;>decide,by split<;>simp,λp3 h3=>?_⟩;have np1:=none_of gg h1;have np3:=none_of (gg.trans (k1.trans k2)) h3;split
   ·rename_i hz;have k3:=zb (o:=.lst [V.ref p1]) (by simpa [hz] using h3);refine q (.ref p3) [.lit [120]] _ (gg.trans (k1.trans (k2.trans (zb h3)))) ⟨p3,[V.ref p1],rfl,by rw [JP np3,zd];rfl,ya ?_⟩ ((yM d).lt (by decide) (l:=[120]) (by decide));rw [JP np1];exact(k2.trans (zb h3)) _ _ zd
   ·exact q (.ref p3) [] _ (gg.trans (k1.trans (k2.trans (zb h3)))) ⟨p3,[],rfl,by rw [JP np3,zd];rfl,rfl⟩ ((yM d).eb (by decide))
def clI (xa:Addr)(Hb:Hp)(_:Nat)(σ:L2.St)(H':Hp):Prop:=∃ o1 o2:Option V,σ=[some (V.ref xa),o1,o2]/\Same Hb H'
theorem Wb (T:Txt w K mg t)(D:Df K mg "_law_closed" vt jh)(F__law_ends:OkF P w K mg base 60 "_law_ends" zN (z6 3))(F_begin:OkF P w K mg base 1 "begin" j0 xU):OkF P w K mg base 61 "_law_closed" jh xY:=by
 refine D.ok xR (λvs H Q E h=>?_) (λf cdv A outer s H vs Q E hr h=>?_)
 ·refine ex3 h λ_ _ _ h=>?_;exact av4 h λ_ _ _ _=>rfl
 ·refine ex3 h λpv ps k h=>?_;refine av4 h λhp hb hk q=>?_
  refine⟨_,((ze (we PassesOwn.never (by rfl) (W3 (K:=K) (by rfl) (zq (za (by exact(qe_S (l:=[]) (by decide +kernel))) (by exact(za (by exact(qe_S (l:=[60,47,97,62]) (by decide +kernel))) (by exact(za (by exact(qe_S (l:=[47,62]) (by decide +kernel))) (by exact(za (by exact(qe_S (l:=[62,60,47,97,62]) (by decide +kernel))) (by exact(za (by exact(qe_S (l:=[34,47,62]) (by decide +kernel))) (by exact(za (by exact(qe_S (l:=[34,62,60,47,97,62]) (by decide +kernel))) (by exact(za (by exact(qe_S (l:=[41,47,62]) (by decide +kernel))) (by exact(za (by exact(qe_S (l:=[39,34,47,62]) (by decide +kernel))) (by exact(za (by exact(qe_S (l:=[60,47,97,62,60,47,97,62]) (by decide +kernel))) (by exact(za (by exact(qe_S (l:=[60,47,97,115,105,115,62]) (by decide +kernel))) (by exact zc)))))))))))))))))))))) (qW (i:=1) xR.nd (by rfl) (Or.inl (by rfl))) (ze (zy (i:=2) xR.nd (by rfl) (Or.inl (by rfl)) (zA xo (qv 0) (zA W5 (zv (za (zq (za (qe_S (l:=[108,105,116]) (by decide +kernel)) (za (qv 1) zc))) zc)) (xn yT (by rfl) T.z_int Q9 (za (jX zbD (qv 1) (qe_S (l:=[]) (by decide +kernel)) (zp _)) zc)))))
   (zf (zw (zl (Yz (hu64 hr)) (zk F__law_ends hr (by decide) (za (by exact(qv 2)) (by exact(za (by exact(jM F_begin hr (by decide))) (by exact(za (by exact(zv zc)) (by exact zc))))))) (zv (za (jM F_begin hr (by decide)) zc)) (zp _)) (zf (zj (qv 2))) zm))))
   (zf (zj (zA xo (qv 0) (zv (za (zq (za (qe_S (l:=[108,105,116]) (by decide +kernel)) (za (qe_S (l:=[62]) (by decide +kernel)) zc))) zc))))))).h,?_⟩
  walk_at "rd";intro p0 h0;have k0:=zb (o:=.tup [V.str (S []),V.str (S [60,47,97,62]),V.str (S [47,62]),V.str (S [62,60,47,97,62]),V.str (S [34,47,62]),V.str (S [34,62,60,47,97,62]),V.str (S [41,47,62]),V.str (S [39,34,47,62]),V.str (S [60,47,97,62,60,47,97,62]),V.str (S [60,47,97,115,105,115,62])]) h0;obtain⟨xa,xs,rfl,hxa,hxs⟩:=hp;have xl:xs.length<=10000:=by have h1:=hxs.len;rw [v9] at h1;have h2:=(hb.eb hk).small (by decide);have h3:=Xl ps;lia
  refine⟨⟨_,SqT.of zd⟩,Yy (K:=K) (a:=p0) (xs:=([[],[60,47,97,62],[47,62],[62,60,47,97,62],[34,47,62],[34,62,60,47,97,62],[41,47,62],[39,34,47,62],[60,47,97,62,60,47,97,62],[60,47,97,115,105,115,62]]:List Tx).map tx) (clI xa (upd H p0 (.tup [V.str (S []),V.str (S [60,47,97,62]),V.str (S [47,62]),V.str (S [62,60,47,97,62]),V.str (S [34,47,62]),V.str (S [34,62,60,47,97,62]),V.str (S [41,47,62]),V.str (S [39,34,47,62]),V.str (S [60,47,97,62,60,47,97,62]),V.str (S [60,47,97,115,105,115,62])]))) ⟨_,_,rfl,Same.refl _⟩ ?_ ?_ ?_⟩
  ·rintro i σ H2 _ ⟨_,_,_,g⟩;exact SqT.of (g _ _ zd)
  ·rintro i y σ H2 hi ⟨o3,o4,rfl,g2⟩;obtain⟨l,hlm,rfl⟩:∃ l∈([[],[60,47,97,62],[47,62],[62,60,47,97,62],[34,47,62],[34,62,60,47,97,62],[41,47,62],[39,34,47,62],[60,47,97,62,60,47,97,62],[60,47,97,115,105,115,62]]:List Tx),tx l=y:=gI.mp (uZ hi);have hl10:=(by decide:∀ l∈([[],[60,47,97,62],[47,62],[62,60,47,97,62],[34,47,62],[34,62,60,47,97,62],[41,47,62],[39,34,47,62],[60,47,97,62,60,47,97,62],[60,47,97,115,105,115,62]]:List Tx),l.length<=10) l hlm;have gg:=k0.trans g2;have hEB:=hb.lt hk hl10;have hsm:=hEB.small (by decide)
   walk_at "rd";intro p1 h1 p2 h2;have k1:=zb (o:=.tup [V.str (S [108,105,116]),tx l]) h1;have k2:=zb (o:=.lst [V.ref p1]) h2;refine⟨rfl,_,zd,?_⟩;rw [show(if (!decide (tx l=V.str (S [])))=true then(1:Int) else 0)=(((Lt l).length:Nat):Int) from ent l];have z1:=zc4 l;refine⟨by lia,by lia,by simp;lia,λp3 h3=>?_⟩;rw [mulL] at *;have k3:=zb (o:=.lst (lz l p1)) h3;have lzl:=zc2 l p1;have k13:=k1.trans (k2.trans k3);refine⟨xs,k13 _ _ (gg _ _ (hxa)),_,zd,by lia,λp4 h4=>?_⟩;have k4:=zb (o:=.lst (xs++lz l p1)) h4;have np4:=none_of k13 h4;obtain⟨Hq,hQ⟩:∃ Hq,Hq=upd (upd (upd (upd H2 p1 (.tup [V.str (S [108,105,116]),tx l])) p2 (.lst [V.ref p1])) p3 (.lst (lz l p1))) p4 (.lst (xs++lz l p1)):=⟨_,rfl⟩
   have k14:Same H2 Hq:=by rw [hQ];exact k13.trans k4
   have e4:Hq p4=some (.lst (xs++lz l p1)):=by rw [hQ];exact zd
   have e1:Hq p1=some (.tup [V.str (S [108,105,116]),tx l]):=by rw [hQ];exact(k2.trans (k3.trans k4)) _ _ zd
   rw [← hQ];clear k13 k4 k3 k2 hQ h4 h3 h2;intro v0 H5 g5 hv0 p5 h5;have k5:=zb (o:=.lst []) h5;have hide5:Same H5 (hide p5 (upd H5 p5 (.lst []))):=λb o e=>by rw [hide_ne (zE e h5)];exact k5 _ _ e
   have hD:IsDs Hq (dPs (ps++Lt l)) (xs++lz l p1):=by rw [vg];exact(hxs.mono (gg.trans k14)).app (zc3 e1)
   have hDt:IsDt Hq (.ls (dPs (ps++Lt l))) (.ref p4):=⟨p4,_,rfl,e4,hD⟩
   refine⟨ps++Lt l,hsm.1,(hDt.mono g5).mono hide5,s00,hv0.mono hide5,0,⟨by decide,by decide⟩,by lia,[],zd,by simp;lia,by lia,λr us gs H6 G6 _ _ n6 e6 a6 v1 H7 g7 hv1 p7 h7=>?_⟩;have k7:=zb (o:=.lst [v1]) h7;have hF:Same Hq (upd H7 p7 (.lst [v1])):=((g5.trans (hide5.trans (G6.1.trans zh))).trans g7).trans k7;have hfin:=(gg.trans k14).trans hF;refine⟨.ls ((endB (ps++Lt l) [s00]).1.map dS),⟨r,us,rfl,(g7.trans k7) _ _ (zh _ _ e6),(a6.mono (zh.trans (g7.trans k7))).ds⟩,.ls ([s00].map dS),⟨p7,[v1],rfl,zd,(StA.cons (hv1.mono k7) .nil:StA _ [v1] [s00]).ds⟩,zc5 _,?_⟩;split
   ·exact q (.ref p4) (ps++Lt l) _ hfin (hDt.mono hF) hEB
   ·exact⟨_,_,rfl,g2.trans (k14.trans hF)⟩
  ·rintro σ H2 ⟨o3,o4,rfl,g2⟩;have gg:=k0.trans g2
   walk_at "rd";intro p1 h1 p2 h2;have k1:=zb (o:=.tup [V.str (S [108,105,116]),V.str (S [62])]) h1;have k2:=zb (o:=.lst [V.ref p1]) h2;refine⟨xs,k2 _ _ (k1 _ _ (gg _ _ hxa)),_,zd,by simp;lia,λp3 h3=>?_⟩;have k3:=zb (o:=.lst (xs++[V.ref p1])) h3;have hE:=hb.lt hk (l:=[62]) (by decide);refine q (.ref p3) (ps++Lt [62]) _ (gg.trans (k1.trans (k2.trans k3))) ⟨p3,_,rfl,zd,?_⟩ hE;rw [vg];exact(hxs.mono (gg.trans (k1.trans (k2.trans k3)))).app (ya ((k2.trans k3) _ _ zd))
end
section
variable {P:Program} {w:World} {K:Le} {mg:La} {base:Heap} {t:Ads}
theorem zhQ {H:Hp}{p:Pc}{v:V}(h:IsDt H (dP p) v):IsDs H (dPs [p]) [v]:=by simp only [dPs];exact⟨_,_,rfl,h,rfl⟩
structure PcS (ra fa:Addr)(H H1:Hp)(ps:List Pc)(xs:List V)(x:V)(n:Nat):Prop where
 rm:Rm ra H H1
 ap:H1 fa=some (.lst xs)
 ds:IsDs (hide fa (nw H H1)) (dPs ps) xs
 st:StN (hide fa (hide ra H1)) x n
theorem zhR {fa:Addr}{H H1:Hp}{o:HO}:hide fa (nw H (upd H1 fa o))=hide fa (nw H H1):=by
 funext b;by_cases h:b=fa
 ·rw [h];simp [hide]
 ·rw [hide_ne h,hide_ne h];unfold nw;rw [zr h]
theorem PcS.same {ra fa:Addr}{H H1 H2:Hp}{ps:List Pc}{xs:List V}{x:V}{n:Nat}(h:PcS ra fa H H1 ps xs x n)(g:Same H1 H2):PcS ra fa H H2 ps xs x n:=by obtain⟨r,f,d,s⟩:=h;obtain⟨m,hm⟩:=r.2;exact⟨r.trans (Rm.same hm g),g _ _ f,d.mono (zt (JQ g)),s.mono (zt (zt g))⟩
theorem PcS.go {ra fa:Addr}{H H1 H2:Hp}{ps:List Pc}{xs:List V}{x:V}{n:Nat}(h:PcS ra fa H H1 ps xs x n)(hra:H ra≠none)(nfr:fa≠ra)(g:Rm ra H1 H2):PcS ra fa H H2 ps xs x n:=by obtain⟨r,f,d,s⟩:=h;exact⟨r.trans g,zh _ _ (g.1 _ _ (by rw [hide_ne nfr];exact f)),d.mono (zt (ze1 g hra)),s.mono (zt g.1)⟩
theorem PcS.put {ra fa:Addr}{H H1:Hp}{ps:List Pc}{xs:List V}{x v:V}{n m:Nat}{p:Pc}(h:PcS ra fa H H1 ps xs x n)(hfa:H fa=none)(nfr:fa≠ra)(k:n<=m)(y:IsDs (hide fa (nw H H1)) (dPs [p]) [v]):PcS ra fa H (upd H1 fa (.lst (xs++[v]))) (ps++[p]) (xs++[v]) x m:=by
 obtain⟨r,f,d,s⟩:=h;refine⟨⟨λb o e=>?_,?_⟩,zd,?_,?_⟩
 ·have e1:=r.1 _ _ e;by_cases hb:b=fa
  ·have e2:=zh _ _ e;rw [hb,hfa] at e2;cases e2
  ·have hbr:b≠ra:=λz=>by rw [z] at e1;simp [hide] at e1
   rw [hide_ne hbr,zr hb,← hide_ne hbr (H:=H1)];exact e1
 ·obtain⟨m,hm⟩:=r.2;exact⟨m,by rw [zr (Ne.symm nfr)];exact hm⟩
 ·rw [zhR,vg];exact d.app y
 ·rw [zcW];exact s.up k
theorem PcS.new {ra fa p:Addr}{H H1:Hp}{ps:List Pc}{xs:List V}{x:V}{n:Nat}{o:HO}{m:Int}(h:PcS ra fa H H1 ps xs x n)(hra:H ra=some (.lst [.int m]))(hp:H1 p=none):hide fa (nw H (upd H1 p o)) p=some o:=by rw [hide_ne (λz=>by rw [z,h.ap] at hp;cases hp),yO (h.rm.fresh hra hp)];exact zd
def pcI (c:Int)(d:Nat)(ra fa:Addr)(n:Nat)(H:Hp)(i:Nat)(σ:L2.St)(H1:Hp):Prop:=∃ (x:V) (ps:List Pc) (xs:List V) (o5 o6 o7 o8:Option V),σ=[some (V.int c),some x,some (V.int d),some (V.ref ra),some (V.ref fa),o5,o6,o7,o8]/\PcS ra fa H H1 ps xs x (n+10 * i)/\LB d i ps/\xs.length<=i
theorem ki {k d:Nat}(hk10:20<=k)(T:Txt w K mg t)(D:Df K mg "_law_pieces" wt z7)(F__law_mix:OkF P w K mg base 1 "_law_mix" qh qO)(F__law_literal:OkF P w K mg base 9 "_law_literal" qr jD)(F__law_ran:OkF P w K mg base 8 "_law_ran" qz jm)(F__law_nested:OkF P w K mg base k "_law_nested" zW (λvs H Q E=>∃ e,d=e+1/\qL e vs H Q E)):OkF P w K mg base (k+1) "_law_pieces" z7 (jn d):=by
  refine D.ok qp (λvs H Q E h=>?_) (λf cdv A outer s H vs Q E hr h=>?_)
  · refine ex5 h λ_ _ _ _ _ h=>?_;exact av5 h λ_ _ _ _ _=>rfl
  · refine ex5 h λc x ra m n h=>?_
    refine av5 h λhra hx hn hd q=>?_
    refine⟨_,((ze (zy (i:=4) qp.nd (by rfl) (Or.inl (by rfl)) (zv zc))
      (ze (we PassesOwn.never (by rfl) (ZK (by rfl) T.z_range (za (zk F__law_mix hr (by lia) (za (qv 0) (za zi (za zi zc)))) zc)) (qW (i:=5) qp.nd (by rfl) (Or.inl (by rfl))) (ze (zy (i:=6) qp.nd (by rfl) (Or.inl (by rfl)) (zk F__law_mix hr (by lia) (za (by exact(qv 0)) (by exact(za (by exact(zA vk zi (qv 5))) (by exact(za (by exact zi) (by exact zc))))))))
      (ze (zy (i:=7) qp.nd (by rfl) (Or.inl (by rfl)) (zk F__law_mix hr (by lia) (za (qv 6) (za zi (za zi zc)))))
      (zf (zw (zl zD (qv 7) zi (zp _)) (zf (jA (wc (K:=K) (by rfl) uL uN uO qj (qv 4) (za (zq (za (qe_S (l:=[104,111,108,101]) (by decide +kernel)) (za (qe_S (l:=[104]) (by decide +kernel)) zc))) zc)))) (zf (zw (QW.qt (Jn (zl XY (qv 7) zi (zp _)) (Jn (zl zD (qv 2) zi (zp _)) (Jo (QW.qt (xu (zl XY (qv 7) zi (zp _)) (wq (zl zD (zB (jU (K:=K) (by rfl)) (qv 3) zi (λ_ _=>(by rfl))) zi (zp _))))))))) (ze (zy (i:=8) qp.nd (by rfl) (Or.inl (by rfl)) (zk F__law_literal hr (by lia) (za (qv 6) (za (qv 1) zc))))
      (ze (jA (wc (K:=K) (by rfl) uL uN uO qj (qv 4) (za (zq (za (qe_S (l:=[108,105,116]) (by decide +kernel)) (za (qv 8) zc))) zc)))
      (zf (zw (zl QH (qv 1) zF (zp _)) (zf (zy (i:=1) qp.nd (by rfl) (Or.inl (by rfl)) (zk F__law_ran hr (by lia) (za (qv 1) (za (qv 8) zc))))) zm)))) (ze (zhE (zA Yd (zB (jU (K:=K) (by rfl)) (qv 3) zi (λ_ _=>(by rfl))) (xn yT (by rfl) T.z_int Q9 (za (jX XY (qv 7) zi (zp _)) zc))) (zhG (qv 3) zi set_list (by intro _;rfl)))
      (zf (jA (wc (K:=K) (by rfl) uL uN uO qj (qv 4) (za (zk F__law_nested hr (by lia) (za (qv 6) (za (qv 7) (za (qv 1) (za (qv 2) (za (qv 3) zc)))))) zc))))))))))))
      (zf (zj (qv 4)))))).h,?_⟩
    walk_at "rd"
    intro fa hfa v H1 hv g1
    have kf:=zb (o:=.lst []) hfa
    have nfr:fa≠ra:=λz=>by rw [z,hra] at hfa;cases hfa
    have hra0:H ra≠none:=by rw [hra];intro z;cases z
    have hv4:v<4:=by lia
    refine⟨by lia,by lia,?_⟩
    refine Ja (pcI c d ra fa n H) ⟨x,[],[],_,_,_,_,rfl,⟨Rm.same hra (kf.trans g1),g1 _ _ zd,by simp only [dPs];rfl,?_⟩,yM d,by simp⟩ ?_ ?_
    · refine(hx.mono λb o e=>?_).up (by lia)
      have hb:b≠fa:=λz=>by rw [z] at e;have:=zh _ _ e;rw [hfa] at this;cases this
      rw [hide_ne hb]
      exact zt (kf.trans g1) _ _ e
    · rintro i σ H2 hi ⟨x2,ps2,xs2,o5,o6,o7,o8,rfl,P2,b2,l2⟩
      have hi4:i<3:=by
        have:(v:Int).toNat=v:=by simp
        lia
      walk_at "rd"
      refine⟨by lia,by lia,λv1 H3 hv1 g3 v2 H4 hv2 g4=>?_⟩
      have P4:=P2.same (g3.trans g4)
      obtain⟨m4,hm4⟩:=P4.rm.2
      split
      · refine⟨.inl ⟨rfl,_,SqL.of P4.ap⟩,λp hp=>?_⟩
        have P5:=P4.same (zb (o:=.tup [V.str (S [104,111,108,101]),V.str (S [104])]) hp)
        exact⟨xs2,P5.ap,by lia,x2,_,_,_,_,_,_,rfl,P5.put hfa nfr (by lia) (zas (P4.new hra hp)),b2.snoc (zaz (by decide)),by simp;lia⟩
      rename_i hw0
      have hlit:∀ (l:Tx) (H5:Hp),l∈vi->Same H4 H5->∀ p,H5 p=none->PcS ra fa H (upd (upd H5 p (.tup [V.str (S [108,105,116]),V.str (S l)])) fa (.lst (xs2++[V.ref p]))) (ps2++[.lit l]) (xs2++[V.ref p]) x2 (n+10 * i):=λl H5 _ g5 p hp=>((P4.same g5).same (zb hp)).put hfa nfr (uk _) (ya ((P4.same g5).new hra hp))
      have hst:StN H4 x2 (n+10 * i):=P4.st.mono (zh.trans zh)
      have hend:∀ (l:Tx) (y:V) (H5 H6:Hp) (s:MS) (p:Addr),PcS ra fa H H5 (ps2++[.lit l]) (xs2++[V.ref p]) x2 (n+10 * i)->l∈vi->SB s (n+10 * i)->Same H5 H6->(∀ r,runM s l=.ok r->StV H6 y r.1)->(∀ b,runM s l=.error b->y=V.non)->PcS ra fa H H6 (ps2++[.lit l]) (xs2++[V.ref p]) y (n+10 * (i+1)):=by
        intro l y H5 H6 s p P5 hl hs g6 r1 r2
        obtain⟨R6,f6,d6,s6⟩:=P5.same g6
        refine⟨R6,f6,d6,?_⟩
        cases hr:runM s l with
        | error b=>exact .inl (r2 b hr)
        | ok r=>
          obtain⟨m6,hm6⟩:=R6.2
          obtain⟨w1,w2,_⟩:=QQ (s':=r.1) (es:=r.2) hr hs.1
          have:=yN l hl
          have:=hs.2
          exact .inr ⟨r.1,xW (by rw [hide_ne nfr];exact f6) (xW hm6 (r1 r hr)),w1,by lia⟩
      split
      rotate_left
      split
      rotate_left
      split
      refine⟨_,SqL.of hm4,_,qb _ _,rfl,?_⟩
      split
      all_goals first
         | refine⟨_,hst,by omega,λl H5 hl g5=>⟨.inl ⟨rfl,_,SqL.of (g5 _ _ P4.ap)⟩,λp hp=>⟨xs2,(zb hp) _ _ (g5 _ _ P4.ap),by omega,?_⟩⟩⟩
           have P6:=hlit l H5 hl g5 p hp
           split
           · rename_i hne
             rcases P6.st with rfl | ⟨s,hs,hsb⟩
             · simp at hne
             · have:=hsb.2
               have:=yN l hl
               exact⟨s,hs.mono (zh.trans zh),hsb.1,by lia,λy H7 g7 r1 r2=>⟨y,_,_,_,_,_,_,rfl,hend l y _ H7 s p P6 hl hsb g7 r1 r2,b2.snoc (Qa (yN l hl)),by simp;lia⟩⟩
           · rename_i hne
             have hx2:x2=V.non:=by simpa using hne
             subst hx2
             exact⟨_,_,_,_,_,_,_,rfl,⟨P6.rm,P6.ap,P6.ds,.inl rfl⟩,b2.snoc (Qa (yN l hl)),by simp;lia⟩
         | have P5:∀ z:Int,PcS ra fa H (upd H4 ra (.lst [V.int z])) ps2 xs2 x2 (n+10 * i):=λz=>P4.go hra0 nfr ⟨by rw [vF];exact Same.refl _,_,zd⟩
           have hd1:d - 1+1=d:=by lia
           refine⟨_,SqL.of hm4,_,qb _ _,_,rfl,_,hm4,0,rfl,.inl ⟨rfl,_,SqL.of (P5 _).ap⟩,d - 1,by lia,by lia,by lia,⟨_,zd⟩,_,(P5 _).st.mono zh,by lia,by lia,λr p H6 R6 D6 I6=>?_⟩
           have P6:=(P5 _).go hra0 nfr R6
           rw [hd1] at I6
           refine⟨xs2,P6.ap,by lia,x2,_,_,_,_,_,_,rfl,P6.put hfa nfr (by lia) (zhQ (D6.mono λb o e=>?_)),b2.snoc I6,by simp;lia⟩
           unfold nw at e
           split at e
           · rename_i z
             rw [hide_ne (λy=>by rw [y] at z;exact absurd (z.symm.trans (P5 _).ap) (by intro w;cases w)),yO ((P5 _).rm.fresh hra z)]
             exact e
           · cases e
    · rintro σ H2 ⟨x2,ps2,xs2,o5,o6,o7,o8,rfl,P2,b2,l2⟩
      walk_at "rd"
      refine q fa ps2 _ H2 P2.rm ⟨fa,xs2,rfl,by rw [yO hfa];exact P2.ap,P2.ds.mono zh⟩ b2 (by simp;lia)
theorem KC {H:Hp}{p:Pc}{v:V}(h:IsDs H (dPs [p]) [v]):IsDt H (dP p) v:=by simp only [dPs] at h;obtain⟨v',r,e,h1,_⟩:=h;cases e;exact h1
theorem Wc {k d:Nat}(hk10:70<=k)(T:Txt w K mg t)(D:Df K mg "_law_nested" wu zW)(F__law_mix:OkF P w K mg base 1 "_law_mix" qh qO)(F__law_even:OkF P w K mg base 62 "_law_even" jq xk)(F__law_pieces:OkF P w K mg base k "_law_pieces" z7 (jn d)):OkF P w K mg base (k+1) "_law_nested" zW (qL d):=by
 refine D.ok qI (λvs H Q E h=>?_) (λf cdv A outer s H vs Q E hr h=>?_)
 ·refine ex6 h λ_ _ _ _ _ _ h=>?_;exact av6 h λ_ _ _ _ _ _=>rfl
 ·refine ex6 h λc wy x ra m n h=>?_;refine av6 h λhw hra hx hn hd q=>?_
  refine⟨_,((ze (zy (i:=5) qI.nd (by rfl) (Or.inl (by rfl)) (qv 2))
   (ze (zw (QW.qt (xu (zl QH (qv 2) zF (zp _)) (wq (zl Wf (qv 1) zi (zp _))))) (zf (zy (i:=5) qI.nd (by rfl) (Or.inl (by rfl)) (zq (za (by exact(zB (zx (K:=K) (by rfl)) (qv 2) zi (λ_ _=>(by rfl)))) (by exact(za (by exact(zB (zx (K:=K) (by rfl)) (qv 2) zi (λ_ _=>(by rfl)))) (by exact(za (by exact(zq zc)) (by exact(za (by exact(zB (zx (K:=K) (by rfl)) (qv 2) zi (λ_ _=>(by rfl)))) (by exact zc))))))))))) zm)
   (ze (zy (i:=6) qI.nd (by rfl) (Or.inl (by rfl)) (zk F__law_even hr (by lia) (za (by exact(zk F__law_pieces hr (by lia) (za (by exact(zk F__law_mix hr (by lia) (za (qv 0) (za zi (za zi zc))))) (by exact(za (by exact(qv 5)) (by exact(za (by exact(zA Yd (qv 3) zi)) (by exact(za (by exact(qv 4)) (by exact zc)))))))))) (by exact(za (by exact(qv 0)) (by exact(za (by exact(qv 5)) (by exact zc))))))))
   (ze (zw (zl zD (qv 1) zi (zp _)) (zf (zj (zq (za (qe_S (l:=[115,101,97,116]) (by decide +kernel)) (za (qe_S (l:=[100,114,97,119]) (by decide +kernel)) (za (qe_S (l:=[112]) (by decide +kernel)) (za (qe_S (l:=[]) (by decide +kernel)) (za (qv 6) zc)))))))) zm)
   (ze (zw (zl zD (qv 1) zi (zp _)) (zf (zj (zq (za (qe_S (l:=[101,97,99,104]) (by decide +kernel)) (za (qe_S (l:=[101]) (by decide +kernel)) (za (qv 6) zc)))))) zm)
   (ze (zy (i:=7) qI.nd (by rfl) (Or.inl (by rfl)) (zk F__law_even hr (by lia) (za (by exact(zk F__law_pieces hr (by lia) (za (by exact(zk F__law_mix hr (by lia) (za (qv 0) (za zi (za zi zc))))) (by exact(za (by exact(qv 2)) (by exact(za (by exact(zA Yd (qv 3) zi)) (by exact(za (by exact(qv 4)) (by exact zc)))))))))) (by exact(za (by exact(zA zdI (qv 0) zi)) (by exact(za (by exact(qv 2)) (by exact zc))))))))
   (zf (zj (zq (za (qe_S (l:=[105,102]) (by decide +kernel)) (za (qe_S (l:=[105]) (by decide +kernel)) (za (qv 6) (za (qv 7) zc)))))))))))))).h,?_⟩
  have hra0:H ra≠none:=by rw [hra];intro z;cases z
  refine zcU (λσ' H'=>∃ fv,σ' = [some (V.int c),some (V.int wy),some x,some (V.int (d+1:Nat)),some (V.ref ra),some fv,none,none]/\Same H H'/\StN (hide ra H') fv n) ?_ λN hN=>?_
  ·rintro σ H1 ⟨fv,rfl,g1,f1⟩
   walk_at "rd";intro v H2 hv g2;have R2:=Rm.same hra (g1.trans g2);refine⟨by lia,⟨_,(g1.trans g2) _ _ hra⟩,n,f1.mono (zt g2),hn,by lia,λr ps kk H3 R3 D3 L3 k3=>?_⟩;have R03:=R2.trans R3;refine⟨nw H H3,zc1,ps,D3.mono (ze2 hra R2),d,kk,L3,k3,by lia,n,f1.mono ((zt g2).trans (R3.1.trans zh)),by lia,λv4 ps4 H4 g4 D4 E4=>?_⟩;obtain⟨m3,hm3⟩:=R03.2;have R04:=R03.trans (Rm.same hm3 g4);have D4:=D4.mono (ze0 hra R03 g4);have hm4:=g4 _ _ hm3;obtain⟨a4,xs4,rfl,_⟩:=id D4;split
   ·intro p hp;exact q p (.seat [100,114,97,119] [112] [] ps4) _ (R04.trans (Rm.same hm4 (zb hp))) (KC (zeB (by rw [yO (R04.fresh hra hp)];exact zd) (D4.mono (JQ (zb hp))))) (zeD E4)
   split
   ·intro p hp;exact q p (.each [101] ps4) _ (R04.trans (Rm.same hm4 (zb hp))) (KC (zat (by rw [yO (R04.fresh hra hp)];exact zd) (D4.mono (JQ (zb hp))))) (zaA E4)
   intro v5 H5 hv5 g5;have R05:=R04.trans (Rm.same hm4 g5);refine⟨by lia,⟨_,g5 _ _ hm4⟩,n,hx.mono R05.1,hn,by lia,λr6 ps6 k6 H6 R6 D6 L6 kk6=>?_⟩;have R06:=R05.trans R6;refine⟨⟨by decide,by decide⟩,nw H H6,zc1,ps6,D6.mono (ze2 hra R05),d,k6,L6,kk6,by lia,n,hx.mono (R06.1.trans zh),by lia,λv7 ps7 H7 g7 D7 E7=>?_⟩;obtain⟨m6,hm6⟩:=R06.2;have R07:=R06.trans (Rm.same hm6 g7);have D7:=D7.mono (ze0 hra R06 g7);obtain⟨a7,xs7,rfl,_⟩:=id D7;intro p hp;exact q p (.ife [105] ps4 ps7) _ (R07.trans (Rm.same (g7 _ _ hm6) (zb hp))) (KC (zcQ (by rw [yO (R07.fresh hra hp)];exact zd) (D4.mono ((JQ g5).trans ((ze1 R6 hra0).trans (JQ (g7.trans (zb hp)))))) (D7.mono (JQ (zb hp))))) (zc0 E4 E7)
  ·walk_at "rd";split
   ·rename_i hne;split
    ·rcases hx with rfl | ⟨s,hs,hsb⟩
     ·simp at hne
     obtain⟨px,po,rfl,hx1,hx2⟩:=id hs;have S1:=SqT.of (K:=K) (zh _ _ hx1);refine⟨px,rfl,_,S1,_,qb _ _,px,rfl,_,S1,_,yl _ _ _,λp1 h1=>⟨px,rfl,_,SqT.of (zb h1 _ _ (zh _ _ hx1)),_,WM _ _ _ _ _,λp2 h2=>?_⟩⟩;have k2:=zb (o:=.tup [tx s.mode,tx s.word,V.ref p1,tx s.talk]) h2;have k12:=(zb (o:=.tup []) h1).trans k2;exact hN _ _ ⟨_,rfl,k12,.inr ⟨flo s,xW (k12 _ _ hra) ⟨p2,p1,rfl,zd,k2 _ _ zd⟩,hsb.1,by simp⟩⟩
    ·exact hN _ _ ⟨x,rfl,Same.refl _,hx⟩
   ·exact hN _ _ ⟨x,rfl,Same.refl _,hx⟩
theorem JW (T:Txt w K mg t)(D:Df K mg "_law_pieces" wt z7)(D__law_nested:Df K mg "_law_nested" wu zW)(F__law_mix:OkF P w K mg base 1 "_law_mix" qh qO)(F__law_literal:OkF P w K mg base 9 "_law_literal" qr jD)(F__law_ran:OkF P w K mg base 8 "_law_ran" qz jm)(F__law_even:OkF P w K mg base 62 "_law_even" jq xk):OkF P w K mg base 90 "_law_pieces" z7 (jn 2):=by
 have n0:OkF P w K mg base 70 "_law_nested" zW (λvs H Q E=>∃ e,0=e+1/\qL e vs H Q E):=D__law_nested.ok (k:=69) qI (λ_ _ _ _ ⟨_,h,_⟩=>by cases h) (λ_ _ _ _ _ _ _ _ _ _ ⟨_,h,_⟩=>by cases h);have up:∀ {k d:Nat},70<=k->OkF P w K mg base k "_law_nested" zW (λvs H Q E=>∃ e,d=e+1/\qL e vs H Q E)->OkF P w K mg base (k+2) "_law_nested" zW (λvs H Q E=>∃ e,d+1=e+1/\qL e vs H Q E):=λ{k d} hk a=>(Wc (k:=k+1) (by lia) T D__law_nested F__law_mix F__law_even (ki (by lia) T D F__law_mix F__law_literal F__law_ran a)).imp λ_ _ _ _ ⟨e,h,z⟩=>by cases h;exact z
 exact(ki (k:=74) (by lia) T D F__law_mix F__law_literal F__law_ran (up (by decide) (up (by decide) n0))).mono (by decide)
end
section
variable {P:Program} {w:World} {K:Le} {mg:La} {base:Heap} {t:Ads}
theorem zdb {K:Le}{a:Addr}{xs:List V}{α:Type}{ms:List α}{tt:TT}{σ:L2.St}{H:Hp}{Q:VK}(f:α->Bool)(hl:xs.length<=sizeLine)(hm:xs.length=ms.length) (ha:H a=some (.lst xs)) (ht:∀ (i:Nat) v m,xs[i]? = some v->ms[i]? = some m->∀ H1,Same H H1->∀ R:Bool->Hp->Prop,(∀ H2,Same H1 H2->R (f m) H2)->tt (some v::σ) H1 R) (hq:∀ D H2,H D=none->Same H H2->H2 D=some (.lst (((xs.zip ms).filter λz=>f z.2).map λz=>z.1))->Q (.ref D) H2):WW (Itl K a) tt (tVar 0) σ H Q:=by
 intro D hD;refine⟨λi m ys H'=>m=xs.length - i/\i<=xs.length/\ys=((((xs.zip ms).take i).filter λz=>f z.2).map λz=>z.1)/\Same H H'/\H' D=some (.lst ys),⟨xs.length,by simp,Uo _,by simp,zb hD,zd⟩,?_⟩;rintro i m ys H' ⟨rfl,hi,hy,sm,hDl⟩;refine⟨hDl,?_⟩;have sq:SqL K H' a xs:=SqL.of (sm _ _ ha);by_cases hlt:i<xs.length
 ·refine .inr ⟨⟨xs,xs[i],sq,by simp [hlt]⟩,λv H2 y=>?_⟩;obtain⟨rfl,y⟩:=y;have hc:=y xs sq;have hlm:i<ms.length:=by lia
  have hz:(xs.zip ms)[i]? = some (v,ms[i]):=by rw [GO];exact⟨hc,uw hlm⟩
  have hyl:ys.length<=i:=by rw [hy,uS];refine ux (List.length_filter_le _ _) ?_;rw [Ul];exact Nat.min_le_left _ _
  have htk:(xs.zip ms).take (i+1)=(xs.zip ms).take i++[(v,ms[i])]:=by rw [UI,hz];rfl
  refine ht i v ms[i] hc (uw hlm) H2 sm _ λH3 g3=>?_;have sm:=sm.trans g3;have hDl:=g3 _ _ hDl;cases hf:f ms[i] with
  | true=>
   rw [uf rfl];refine⟨_,rfl,hDl,by lia,xs.length - (i+1),by lia,rfl,hlt,?_,?_,zd⟩
   ·rw [htk,gq,UD,← hy];simp [hf]
   ·intro b o e;rw [zr (zE e hD)];exact sm b o e
  | false=>rw [ub (by decide)];refine⟨xs.length - (i+1),by omega,rfl,hlt,?_,sm,hDl⟩;rw [htk,gq,UD,← hy];simp [hf]
 ·have e:i=xs.length:=by lia
  subst e;refine .inl ⟨⟨xs,sq,uk _⟩,hq D H' hD sm ?_⟩;rw [hDl,hy,gG (by rw [List.length_zip];lia)]
theorem zdc {a b c d:TS}{D:Ends}{σ:L2.St}{H:Hp}(R:L2.St->Hp->Prop)(hr:∀ σ' H',R σ' H'->d D σ' H')(h:∀ N:L2.St->Hp->Prop,(∀ σ' H',R σ' H'->N σ' H')->tSeq a (tSeq b c) { D with nx:=N } σ H):tSeq a (tSeq b (tSeq c d)) D σ H:=h (d D) hr
theorem zhS (ps:List Pc):(j8 ps).isOk=(!(endB ps [s00]).2&&!((endB ps [s00]).1.any λz=>decide (z≠s00))):=by
 have h:=ag_B ps ⟨s00,[],0⟩;unfold j8;cases hl:qK ps ⟨s00,[],0⟩ with
 | error f=>rw [show(endB ps [s00]).2=true from Z8 h hl];rfl
 | ok r=>
  rw [show endB ps [s00]=([r.1.s],false) from kh h hl];by_cases hz:r.1.s=s00
  ·simp [hz,Except.isOk,Except.toBool]
  ·simp [hz,Except.isOk,Except.toBool]
theorem zhT {H:Hp}{o:Except Ft Ho}{r:Addr}(h:IsDt H (reD o) (.ref r)):∃ l xs,H r=some (.tup (tx l::xs))/\l∈[zaw,[97,115,116,114,97,121],[110,111,112,108,97,99,101],[117,110,108,105,107,101],[108,101,102,116]]/\decide (tx l=tx zaw)=o.isOk:=by
 have key:∀ l ds,IsDt H (.tp (ft l::ds)) (.ref r)->∃ xs,H r=some (.tup (tx l::xs)):=by rintro l ds ⟨a,xs,e,ha,v,ys,rfl,⟨hv,_⟩,_⟩;cases e;cases hv;exact⟨ys,ha⟩
 cases o with
 | ok hs=>obtain⟨xs,e⟩:=key _ _ h;exact⟨_,xs,e,by simp,rfl⟩
 | error f=>
  cases f with
  | astray T n b=>obtain⟨xs,e⟩:=key _ _ h;exact⟨_,xs,e,by simp,rfl⟩
  | noplace x T n=>obtain⟨xs,e⟩:=key _ _ h;exact⟨_,xs,e,by simp,rfl⟩
  | unlike w T n T' n'=>obtain⟨xs,e⟩:=key _ _ h;exact⟨_,xs,e,by simp,rfl⟩
  | left T n=>obtain⟨xs,e⟩:=key _ _ h;exact⟨_,xs,e,by simp,rfl⟩
theorem Xx (T:Txt w K mg t)(D:Df K mg "_law_right" xf jx)(F__law_ends:OkF P w K mg base 60 "_law_ends" zN (z6 3))(F_begin:OkF P w K mg base 1 "begin" j0 xU)(F__law_looked:OkF P w K mg base 63 "_law_looked" jg xX):OkF P w K mg base 64 "_law_right" jx vw:=by
 refine D.ok wx (λvs H Q E h=>?_) (λf cdv A outer s H vs Q E hr h=>?_)
 ·refine ex2 h λ_ _ h=>?_;exact av3 h λ_ _ _=>rfl
 ·refine ex2 h λpv ps h=>?_;refine av3 h λhp hb q=>?_
  refine⟨_,((ze (zy (i:=1) wx.nd (by rfl) (Or.inl (by rfl)) (zv zc))
   (ze (zy (i:=2) wx.nd (by rfl) (Or.inl (by rfl)) (zk F__law_ends hr (by decide) (za (by exact(qv 0)) (by exact(za (by exact(jM F_begin hr (by decide))) (by exact(za (by exact(qv 1)) (by exact zc))))))))
   (ze (zw (zl (YD (K:=K) (by rfl) (X6 hr)) ⟨zj0 (lcs (N:=vV) (sc:=zg xf) rfl rfl rfl (by decide +kernel)) ((wC (K:=K) (by rfl) (qv 2))).h (λ_ _ _ _ _=>(W4 (zl (kn (hu64 hr)) (qv 0) (jM F_begin hr (by decide)) (zp _))).h) (λ_ _ _ _ _=>((qv 0)).h)⟩ (zv zc) (zp _)) (zf (jA (wc (K:=K) (by rfl) uL uN uO qj (qv 1) (za (qe_S (l:=[101,110,100]) (by decide +kernel)) zc)))) zm)
   (ze (zy (i:=3) wx.nd (by rfl) (Or.inl (by rfl)) (zk F__law_looked hr (by decide) (za (qv 0) zc)))
   (ze (zw (zl (Yx (K:=K) (by rfl)) (zB (zx (K:=K) (by rfl)) (qv 3) zi (λ_ _=>(by rfl))) (zq (za (qe_S (l:=[116,111,108,100]) (by decide +kernel)) (za (qe_S (l:=[97,115,116,114,97,121]) (by decide +kernel)) (za (qe_S (l:=[110,111,112,108,97,99,101]) (by decide +kernel)) (za (qe_S (l:=[117,110,108,105,107,101]) (by decide +kernel)) (za (qe_S (l:=[108,101,102,116]) (by decide +kernel)) zc)))))) (by rfl)) (zf (zj Wu)) zm)
   (zf (zj (jX zD (jX zD (zB (zx (K:=K) (by rfl)) (qv 3) zi (λ_ _=>(by rfl))) (qe_S (l:=[116,111,108,100]) (by decide +kernel)) (zp _)) (jX (zhH (K:=K) (by rfl) (X6 hr)) (qv 1) (zv zc) (zp _)) (zp _)))))))))).h,?_⟩
  have hs:=hb.small (by decide);refine zdc (λσ' H'=>∃ (fa r:Addr) (fs:List V),σ' = [some pv,some (V.ref fa),some (V.ref r),none]/\Same H H'/\H' fa=some (.lst fs)/\fs.isEmpty=(j8 ps).isOk) ?_ λN hN=>?_
  ·rintro σ H1 ⟨fa,r,fs,rfl,g1,f1,i1⟩
   walk_at "rd";refine⟨ps,⟨hp.mono g1,hb.nm,by lia,hs.2.1,hs.2.2.1⟩,λr2 H2 g2 D2=>?_⟩;obtain⟨l,xs,e2,hl,hd⟩:=zhT D2;refine⟨_,SqT.of e2,_,qb _ _,λp3 h3=>?_⟩;have e:inV (tx l) ([zaw,[97,115,116,114,97,121],[110,111,112,108,97,99,101],[117,110,108,105,107,101],[108,101,102,116]].map λx=>V.str (S x))=true:=(QM l _).trans (uQ hl);have e:inV (tx l) [V.str (S [116,111,108,100]),V.str (S [97,115,116,114,97,121]),V.str (S [110,111,112,108,97,99,101]),V.str (S [117,110,108,105,107,101]),V.str (S [108,101,102,116])]=true:=e;refine⟨_,.inr (SqT.of zd),rfl,rfl,?_⟩;rw [ub (by rw [e];decide)];refine⟨_,SqT.of (zb h3 _ _ e2),_,qb _ _,rfl,λp4 h4=>⟨fs,SqL.of (((zb h3).trans (zb h4)) _ _ (g2 _ _ f1)),SqL.of zd,?_⟩⟩;rw [show decide (tx l=V.str (S [116,111,108,100]))=fs.isEmpty from hd.trans i1.symm,uQ rfl];exact q _ (g1.trans (g2.trans ((zb h3).trans (zb h4))))
  ·walk_at "rd";intro fa hfa v H1 g1 hv;have kf:=zb (o:=.lst []) hfa;have f1:H1 fa=some (.lst []):=g1 _ _ zd;have hid:Same H (hide fa H1):=λb o e=>by rw [hide_ne (zE e hfa)];exact(kf.trans g1) _ _ e
   refine⟨ps,hs.1,hp.mono hid,s00,xW f1 hv,0,⟨by decide,by decide⟩,by lia,[],f1,by simp;lia,by lia,λr us gs H2 G2 l2 i2 n2 e2 a2=>?_⟩;have f2:H2 fa=some (.lst gs):=G2.2;have al:=a2.len;have ll:=j9 ps [s00];simp only [ur,Up] at ll;refine⟨⟨_,SqL.of (zh _ _ e2)⟩,zdb (K:=K) (α:=MS) (ms:=(endB ps [s00]).1) (λz=>decide (z≠s00)) (by rw [uH];lia) al (zh _ _ e2) (λi v m g1' g2' H3 k3 R rr=>?_) (λD H3 hD k3 e3=>?_)⟩
   ·obtain⟨m',hm',hv'⟩:=a2.get g1';rw [g2'] at hm';cases hm';obtain⟨pv',rfl⟩:=jJ hv'
    walk_at "rd";intro v5 H5 g5 hv5;obtain⟨px,rfl⟩:=jJ hv5;refine⟨_,_,px,rfl,((hv'.mono zh).mono (k3.trans g5)).dat,(show StV H5 _ s00 from hv5).dat,dep_S _,?_⟩;rw [xh,← decide_not];exact rr _ g5
   ·intro p1 h1;have k1:=zb (o:=.lst []) h1;refine⟨D,rfl,_,SqL.of (k1 _ _ e3),SqL.of zd,?_⟩;rw [Zy (f:=λz=>decide (z≠s00)) al,Bool.not_not];have f3:=(k3.trans k1) _ _ f2;have hT:=zhS ps
    have hge:gs.isEmpty = !(endB ps [s00]).2:=by
     cases h:(endB ps [s00]).2 with
     | false=>rw [i2.mpr h];rfl
     | true=>
      cases gs with
      | nil=>rw [i2.mp rfl] at h;cases h
      | cons a b=>rfl
    split
    ·rename_i hz;refine⟨.inl ⟨rfl,_,SqL.of f3⟩,_,f3,by lia,hN _ _ ⟨fa,r,_,rfl,?_,zd,?_⟩⟩
     ·exact λb o e=>by rw [zr (zE e hfa)];exact(k3.trans k1) _ _ (zh _ _ (G2.1 _ _ (hid _ _ e)))
     ·rw [hT,hz];simp
    ·rename_i hz;refine hN _ _ ⟨fa,r,_,rfl,λb o e=>(k3.trans k1) _ _ (zh _ _ (G2.1 _ _ (hid _ _ e))),f3,?_⟩;have hz':((endB ps [s00]).1.any λz=>decide (z≠s00))=false:=by simpa using hz
     rw [hT,hz',hge];simp
end
section
variable {P:Program} {w:World} {K:Le} {mg:La} {base:Heap} {t:Ads}
def lwI (a:Addr)(σ:L2.St)(_:Hp):Prop:=∃ o1 o2 o3 o4:Option V,σ=[some (V.ref a),o1,o2,o3,o4]
theorem zhU (T:Txt w K mg t)(D:Df K mg "law" zcO Xc)(F__law_pieces:OkF P w K mg base 90 "_law_pieces" z7 (jn 2))(F__law_cell:OkF P w K mg base 1 "_law_cell" j5 (v8 K))(F__law_mix:OkF P w K mg base 1 "_law_mix" qh qO)(F_begin:OkF P w K mg base 1 "begin" j0 xU)(F__law_closed:OkF P w K mg base 61 "_law_closed" jh xY)(F__law_right:OkF P w K mg base 64 "_law_right" jx vw):OkF P w K mg base 91 "law" Xc (JR K):=by
 refine D.ok Z4 (λvs H Q E h=>?_) (λf cdv A outer s H vs Q E hr h=>?_)
 ·refine ex2 h λ_ _ h=>?_;exact av3 h λ_ _ _=>rfl
 ·refine ex2 h λa is h=>?_;refine av3 h λhS h63 q=>?_
  refine⟨_,((ze (we PassesOwn.never (by rfl) (ZK (by rfl) T.z_range (za (zJ (zaS (by rfl)) (by rfl) T.z_max zhi (za zi (za (zJ (zaT (by rfl)) (by rfl) T.z_min zhj (za (zJ (qZ (K:=K) (by rfl)) (by rfl) T.z_len xq (za (qv 0) zc)) (za zi zc))) zc))) zc)) (qW (i:=1) Z4.nd (by rfl) (Or.inl (by rfl))) (ze (zy (i:=2) Z4.nd (by rfl) (Or.inl (by rfl)) (zk F__law_cell hr (by decide) (za (qv 0) (za (qv 1) zc))))
   (ze (zy (i:=3) Z4.nd (by rfl) (Or.inl (by rfl)) (zk F__law_pieces hr (by decide) (za (by exact(qv 2)) (by exact(za (by exact(jM F_begin hr (by decide))) (by exact(za (by exact zi) (by exact(za (by exact(zv (za zi zc))) (by exact zc))))))))))
   (ze (zw (zl Wf (zk F__law_mix hr (by decide) (za (qv 2) (za zi (za zi zc)))) zi (zp _)) (zf (zy (i:=3) Z4.nd (by rfl) (Or.inl (by rfl)) (zk F__law_closed hr (by decide) (za (qv 3) zc)))) zm)
   (zf (zw (wW (ja (zk F__law_right hr (by decide) (za (qv 3) zc)))) (zf (zj Wu)) zm))))))
   (ze (we PassesOwn.never (by rfl) (W3 (K:=K) (by rfl) (zq (za (qe_S (l:=[60,97,62]) (by decide +kernel)) (za (qe_S (l:=[120]) (by decide +kernel)) (za (qe_S (l:=[60,47,97,62]) (by decide +kernel)) (za (qe_S (l:=[60,47,97,62,60,97,62]) (by decide +kernel)) (za (qe_S (l:=[60,97,47,62]) (by decide +kernel)) (za (qe_S (l:=[60,97]) (by decide +kernel)) zc)))))))) (qW (i:=4) Z4.nd (by rfl) (Or.inl (by rfl))) (ze (zw (QW.qt (Jn (wW (ja (zk F__law_right hr (by decide) (za (zv (za (zq (za (by exact(qe_S (l:=[101,97,99,104]) (by decide +kernel))) (by exact(za (by exact(qe_S (l:=[101]) (by decide +kernel))) (by exact(za (by exact(zv (za (zq (za (qe_S (l:=[108,105,116]) (by decide +kernel)) (za (qv 4) zc))) zc))) (by exact zc))))))) zc)) zc)))) (Jo (wW (ja (zk F__law_right hr (by decide) (za (zv (za (zq (za (qe_S (l:=[108,105,116]) (by decide +kernel)) (za (qv 4) zc))) zc)) zc))))))) (zf (zj Wu)) zm)
   (zf (zw (wW (ja (zk F__law_right hr (by decide) (za (zv (za (by exact(zq (za (qe_S (l:=[108,105,116]) (by decide +kernel)) (za (qe_S (l:=[60,97,62]) (by decide +kernel)) zc)))) (by exact(za (by exact(zq (za (by exact(qe_S (l:=[105,102]) (by decide +kernel))) (by exact(za (by exact(qe_S (l:=[105]) (by decide +kernel))) (by exact(za (by exact(zv (za (zq (za (qe_S (l:=[108,105,116]) (by decide +kernel)) (za (qv 4) zc))) zc))) (by exact(za (by exact(zv (za (zq (za (qe_S (l:=[104,111,108,101]) (by decide +kernel)) (za (qe_S (l:=[104]) (by decide +kernel)) zc))) zc))) (by exact zc)))))))))) (by exact(za (by exact(zq (za (qe_S (l:=[108,105,116]) (by decide +kernel)) (za (qe_S (l:=[60,47,97,62]) (by decide +kernel)) zc)))) (by exact zc))))))) zc)))) (zf (zj Wu)) zm))))
   (zf (zj Wu))))).h,?_⟩
  refine zcT (lwI a) ?_ λN hN=>?_
  ·rintro σ H1 ⟨o1,o2,o3,o4,rfl⟩
   walk_at "rd";intro p0 h0;have k0:=zb (o:=.tup [V.str (S [60,97,62]),V.str (S [120]),V.str (S [60,47,97,62]),V.str (S [60,47,97,62,60,97,62]),V.str (S [60,97,47,62]),V.str (S [60,97])]) h0;refine⟨⟨_,SqT.of zd⟩,Yy (K:=K) (a:=p0) (xs:=([[60,97,62],[120],[60,47,97,62],[60,47,97,62,60,97,62],[60,97,47,62],[60,97]]:List Tx).map tx) (λ_ σ H'=>lwI a σ H'/\Same (upd H1 p0 (.tup [V.str (S [60,97,62]),V.str (S [120]),V.str (S [60,47,97,62]),V.str (S [60,47,97,62,60,97,62]),V.str (S [60,97,47,62]),V.str (S [60,97])])) H') ⟨⟨_,_,_,_,rfl⟩,Same.refl _⟩ ?_ ?_ ?_⟩
   ·rintro i σ H2 _ ⟨_,g⟩;exact SqT.of (g _ _ zd)
   ·rintro i y σ H2 hi ⟨⟨o1,o2,o3,o4,rfl⟩,g2⟩;obtain⟨l,hlm,rfl⟩:∃ l∈([[60,97,62],[120],[60,47,97,62],[60,47,97,62,60,97,62],[60,97,47,62],[60,97]]:List Tx),tx l=y:=gI.mp (uZ hi);have hl10:=(by decide:∀ l∈([[60,97,62],[120],[60,47,97,62],[60,47,97,62,60,97,62],[60,97,47,62],[60,97]]:List Tx),l.length<=10) l hlm
    walk_at "rd";have E1:EB 1 [.lit l]:=((yM 1).snoc (Qa hl10)).eb (by decide);have Eh:EB 1 [.hole [104]]:=((yM 1).snoc (zaz (by decide))).eb (by decide);have E2:EB 2 [.each [101] [.lit l]]:=((yM 2).snoc (zaA E1)).eb (by decide);have E3:EB 2 [.lit l]:=((yM 2).snoc (Qa hl10)).eb (by decide);have E4:EB 2 [.lit [60,97,62],.ife [105] [.lit l] [.hole [104]],.lit [60,47,97,62]]:=((((yM 2).snoc (Qa (by decide))).snoc (zc0 E1 Eh)).snoc (Qa (by decide))).eb (by decide);intro p1 h1 p2 h2 p3 h3 p4 h4;have k4:=zb (o:=.lst [V.ref p3]) h4;have k3:=(zb (o:=.tup [V.str (S [101,97,99,104]),V.str (S [101]),V.ref p2]) h3).trans k4;have k2:=(zb (o:=.lst [V.ref p1]) h2).trans k3;have k1:=(zb (o:=.tup [V.str (S [108,105,116]),tx l]) h1).trans k2;refine⟨_,⟨p4,_,rfl,zd,zat (k4 _ _ zd) ⟨p2,_,rfl,k3 _ _ zd,ya (k2 _ _ zd)⟩⟩,E2,λH3 g3 q1 j1 q2 j2=>?_⟩;have m2:=zb (o:=.lst [V.ref q1]) j2;have m1:=(zb (o:=.tup [V.str (S [108,105,116]),tx l]) j1).trans m2;refine⟨_,⟨q2,_,rfl,zd,ya (m2 _ _ zd)⟩,E3,λH4 g4 r1 i1 r2 i2 r3 i3 r4 i4 r5 i5 r6 i6 r7 i7 r8 i8=>?_⟩;have n8:=zb (o:=.lst [V.ref r1,V.ref r6,V.ref r7]) i8;have n7:=(zb (o:=.tup [V.str (S [108,105,116]),V.str (S [60,47,97,62])]) i7).trans n8;have n6:=(zb (o:=.tup [V.str (S [105,102]),V.str (S [105]),V.ref r3,V.ref r5]) i6).trans n7;have n5:=(zb (o:=.lst [V.ref r4]) i5).trans n6;have n4:=(zb (o:=.tup [V.str (S [104,111,108,101]),V.str (S [104])]) i4).trans n5;have n3:=(zb (o:=.lst [V.ref r2]) i3).trans n4;have n2:=(zb (o:=.tup [V.str (S [108,105,116]),tx l]) i2).trans n3;have n1:=(zb (o:=.tup [V.str (S [108,105,116]),V.str (S [60,97,62])]) i1).trans n2;have hD:=((ya (t:=[60,97,62]) (n2 _ _ zd)).app (zcQ (n:=[105]) (n7 _ _ zd) ⟨r3,_,rfl,n4 _ _ zd,ya (n3 _ _ zd)⟩ ⟨r5,_,rfl,n6 _ _ zd,zas (t:=[104]) (n5 _ _ zd)⟩)).app (ya (t:=[60,47,97,62]) (n8 _ _ zd));rw [← vg,← vg] at hD;exact⟨_,⟨r8,_,rfl,zd,hD⟩,E4,λH5 g5=>⟨⟨_,_,_,_,rfl⟩,g2.trans (k1.trans (g3.trans (m1.trans (g4.trans (n1.trans g5)))))⟩⟩
   ·rintro σ H2 ⟨⟨o1,o2,o3,o4,rfl⟩,g2⟩
    walk_at "rd";exact q _
  ·walk_at "rd";refine⟨_,.inl hS,?_⟩;rw [uS];generalize hn0:(if (if (6:Int)<(is.length:Int) then 6 else(is.length:Int)) > 3 then if (6:Int)<(is.length:Int) then 6 else(is.length:Int) else 3)=n0;have hb:0<=n0/\n0<=6:=by rw [← hn0];split<;>(try split)<;>lia
   refine⟨by lia,by lia,?_⟩;refine Ja (λ_ σ H'=>lwI a σ H'/\Same H H') ⟨⟨_,_,_,_,rfl⟩,Same.refl H⟩ ?_ ?_
   ·rintro i σ H1 hi ⟨⟨o1,o2,o3,o4,rfl⟩,g1⟩
    walk_at "rd";refine⟨is,g1.seq hS,h63,by lia,λc H2 g2 v H3 g3 hv3 p hp=>?_⟩;have kp:=zb (o:=.lst [V.int 4]) hp;refine⟨⟨_,zd⟩,0,.inr ⟨s00,xW zd ((show StV H3 v s00 from hv3).mono kp),by decide,by decide⟩,by lia,λr ps k H4 R4 D4 L4 k4 m H5 hm g5=>?_⟩;have gH:Same H H4:=λb o e=>by have e3:=(g1.trans (g2.trans g3)) _ _ e;exact zh _ _ (R4.1 _ _ (by rw [hide_ne (zE e3 hp)];exact kp _ _ e3))
    have D5:=D4.mono (zc1.trans g5);split
    ·exact⟨ps,D5,k,L4,k4,λv6 ps6 H6 g6 D6 E6=>⟨ps6,D6,E6,λH7 g7=>⟨⟨_,_,_,_,rfl⟩,gH.trans (g5.trans (g6.trans g7))⟩⟩⟩
    ·exact⟨ps,D5,L4.eb k4,λH7 g7=>⟨⟨_,_,_,_,rfl⟩,gH.trans (g5.trans g7)⟩⟩
   ·rintro σ H1 ⟨⟨o1,o2,o3,o4,rfl⟩,g1⟩;exact hN _ _ ⟨_,_,_,_,rfl⟩
end
end My
set_option maxHeartbeats 0
open PySem L2 PySem.Spec PyProof.Rows
namespace My
theorem len0 {α:Type}{us:List α}(h:us.length=0):us=[]:=List.length_eq_zero_iff.mp h
theorem len1 {α:Type}:∀ {us:List α},us.length=1->∃ a0,us=[a0]
 | [a0],_=>⟨a0,rfl⟩
theorem len2 {α:Type}:∀ {us:List α},us.length=2->∃ a0 a1,us=[a0,a1]
 | [a0,a1],_=>⟨a0,a1,rfl⟩
theorem len3 {α:Type}:∀ {us:List α},us.length=3->∃ a0 a1 a2,us=[a0,a1,a2]
 | [a0,a1,a2],_=>⟨a0,a1,a2,rfl⟩
theorem len4 {α:Type}:∀ {us:List α},us.length=4->∃ a0 a1 a2 a3,us=[a0,a1,a2,a3]
 | [a0,a1,a2,a3],_=>⟨a0,a1,a2,a3,rfl⟩
theorem len5 {α:Type}:∀ {us:List α},us.length=5->∃ a0 a1 a2 a3 a4,us=[a0,a1,a2,a3,a4]
 | [a0,a1,a2,a3,a4],_=>⟨a0,a1,a2,a3,a4,rfl⟩
theorem len6 {α:Type}:∀ {us:List α},us.length=6->∃ a0 a1 a2 a3 a4 a5,us=[a0,a1,a2,a3,a4,a5]
 | [a0,a1,a2,a3,a4,a5],_=>⟨a0,a1,a2,a3,a4,a5,rfl⟩
theorem len7 {α:Type}:∀ {us:List α},us.length=7->∃ a0 a1 a2 a3 a4 a5 a6,us=[a0,a1,a2,a3,a4,a5,a6]
 | [a0,a1,a2,a3,a4,a5,a6],_=>⟨a0,a1,a2,a3,a4,a5,a6,rfl⟩
theorem dfm {K:Le}{mg:La}{h:Heap}{x:Str}{st:Stmt}{ps:Lh}{f cd:Addr}{pm:Value}(X:K.In h)(G:h.Ns mainGlobals mg) (b:∀ (kV doc pm:Value) (an:Option Addr) (cdv ct:Value) (us:Lf),us.length=ps.length->bindArgs (PySem.W.fnOf x x (qx st) (zQ st) (zg st) .none kV doc pm an cdv ct) ⟨us,[]⟩=pure (ps.zip us)) (a:PySem.W.nsIn K mainGlobals x=some (some (.ref f))) (l:K.lookup f=some ⟨.type "function",none,.func (PySem.W.fnOf x x (qx st) (zQ st) (zg st) .none .none .none pm none (.ref cd) .none),#[]⟩) (c:PySem.W.codeIn K (.ref cd) x=true) (k:PySem.W.keepIn K (.ref f)=true):Df K mg x st ps:=zj3 X G b a l c k
theorem dmm {K:Le}{C:Addr}{m qual:Str}{st:Stmt}{ps:Lh}{f cd:Addr}{pm:Value} (b:∀ (kV doc pm:Value) (an:Option Addr) (cdv ct:Value) (us:Lf),us.length=ps.length->bindArgs (PySem.W.fnOf m qual (qx st) (zQ st) (zg st) .none kV doc pm an cdv ct) ⟨us,[]⟩=pure (ps.zip us)) (l:K.lookup f=some ⟨.type "function",none,.func (PySem.W.fnOf m qual (qx st) (zQ st) (zg st) .none .none .none pm none (.ref cd) .none),#[]⟩) (c:PySem.W.codeIn K (.ref cd) qual=true) (k:PySem.W.keepIn K (.ref f)=true) (cl:Cls K C) (mt:Meth K C m f):Dm K C m qual st ps:=⟨f,_,yk l c k,(yk l c k).binds b,cl,mt⟩
theorem dcm {K:Le}{mg:La}{h:Heap}{C:Addr}{x qual:Str}{st:Stmt}{ps:Lh}{f cd:Addr}{pm:Value}(X:K.In h)(G:h.Ns mainGlobals mg) (b:∀ (kV doc pm:Value) (an:Option Addr) (cdv ct:Value) (us:Lf),us.length=ps.length->bindArgs (PySem.W.fnOf "__init__" qual (qx st) (zQ st) (zg st) .none kV doc pm an cdv ct) ⟨us,[]⟩=pure (ps.zip us)) (a:PySem.W.nsIn K mainGlobals x=some (some (.ref C))) (l:K.lookup f=some ⟨.type "function",none,.func (PySem.W.fnOf "__init__" qual (qx st) (zQ st) (zg st) .none .none .none pm none (.ref cd) .none),#[]⟩) (c:PySem.W.codeIn K (.ref cd) qual=true) (k:PySem.W.keepIn K (.ref f)=true) (mk:Mk K C f):Dc K mg C x qual st ps:=⟨f,_,yk l c k,(yk l c k).binds b,mk,ui X G a⟩
theorem inim {K:Le}{C:Addr}{qual:Str}{st:Stmt}{ps:Lh}{f cd:Addr}{pm:Value} (b:∀ (kV doc pm:Value) (an:Option Addr) (cdv ct:Value) (us:Lf),us.length=ps.length->bindArgs (PySem.W.fnOf "__init__" qual (qx st) (zQ st) (zg st) .none kV doc pm an cdv ct) ⟨us,[]⟩=pure (ps.zip us)) (a:Ql K C=some (some (.ref f))) (l:K.lookup f=some ⟨.type "function",none,.func (PySem.W.fnOf "__init__" qual (qx st) (zQ st) (zg st) .none .none .none pm none (.ref cd) .none),#[]⟩) (c:PySem.W.codeIn K (.ref cd) qual=true) (k:PySem.W.keepIn K (.ref f)=true):Ini K C qual st ps:=zhu b a l c k
theorem all_ok {l:PySem.W.OpenLaw}{w:World}{h:Heap}{mg:La}{fa:Addr}(X:(KH w.params).In h)(G:h.Ns mainGlobals mg)(hfa:mg "law" = some (.ref fa)) : ∃ fd:FuncData,(∀ (s:Shared) (v:Value),BindsTo s fd ⟨[v],[]⟩ [("_law_script",v)])/\∀ base:Heap,(KH w.params).In base->base.Ns mainGlobals mg->FnOk l.prog w (KH w.params) mg base CX0 91 fa fd ["_law_script"] (JR (KH w.params)):=by
 have C_Looking:Cls (KH w.params) 789:=⟨by kernel_rfl!,by kernel_rfl!,by kernel_rfl!,by kernel_rfl!⟩
 have C_Spot:Cls (KH w.params) 712:=⟨by kernel_rfl!,by kernel_rfl!,by kernel_rfl!,by kernel_rfl!⟩
 have D_sign_of:Df (KH w.params) mg "sign_of" ZN xw:=dfm (f:=393) (pm:=(.str "sealpress.signs" 688)) (cd:=392) X G (λ_ _ _ _ _ _ us hl=>by obtain⟨_,rfl⟩:=len1 hl;rfl) (by kernel_rfl!) (by kernel_rfl!) (by kernel_rfl!) (by kernel_rfl!);have D_sign_told:Df (KH w.params) mg "sign_told" yq jo:=dfm (f:=400) (pm:=(.str "sealpress.signs" 688)) (cd:=399) X G (λ_ _ _ _ _ _ us hl=>by obtain⟨_,rfl⟩:=len1 hl;rfl) (by kernel_rfl!) (by kernel_rfl!) (by kernel_rfl!) (by kernel_rfl!);have D_place_of:Df (KH w.params) mg "place_of" ko wF:=dfm (f:=408) (pm:=(.str "sealpress.places" 715)) (cd:=407) X G (λ_ _ _ _ _ _ us hl=>by obtain⟨_,rfl⟩:=len1 hl;rfl) (by kernel_rfl!) (by kernel_rfl!) (by kernel_rfl!) (by kernel_rfl!);have D_fed_between:Df (KH w.params) mg "fed_between" vo qG:=dfm (f:=415) (pm:=(.str "sealpress.talks" 729)) (cd:=414) X G (λ_ _ _ _ _ _ us hl=>by obtain⟨_,rfl⟩:=len1 hl;rfl) (by kernel_rfl!) (by kernel_rfl!) (by kernel_rfl!) (by kernel_rfl!);have D_fed_word:Df (KH w.params) mg "fed_word" kq wG:=dfm (f:=422) (pm:=(.str "sealpress.talks" 729)) (cd:=421) X G (λ_ _ _ _ _ _ us hl=>by obtain⟨_,rfl⟩:=len1 hl;rfl) (by kernel_rfl!) (by kernel_rfl!) (by kernel_rfl!) (by kernel_rfl!);have D_fed_said:Df (KH w.params) mg "fed_said" ku wH:=dfm (f:=429) (pm:=(.str "sealpress.talks" 729)) (cd:=428) X G (λ_ _ _ _ _ _ us hl=>by obtain⟨_,rfl⟩:=len1 hl;rfl) (by kernel_rfl!) (by kernel_rfl!) (by kernel_rfl!) (by kernel_rfl!);have D_feed:Df (KH w.params) mg "feed" YJ Zr:=dfm (f:=436) (pm:=(.str "sealpress.talks" 729)) (cd:=435) X G (λ_ _ _ _ _ _ us hl=>by obtain⟨_,_,rfl⟩:=len2 hl;rfl) (by kernel_rfl!) (by kernel_rfl!) (by kernel_rfl!) (by kernel_rfl!);have D_come_to:Df (KH w.params) mg "come_to" ZO zK:=dfm (f:=443) (pm:=(.str "sealpress.modes" 760)) (cd:=442) X G (λ_ _ _ _ _ _ us hl=>by obtain⟨_,_,_,rfl⟩:=len3 hl;rfl) (by kernel_rfl!) (by kernel_rfl!) (by kernel_rfl!) (by kernel_rfl!);have D_told:Df (KH w.params) mg "told" YL jB:=dfm (f:=450) (pm:=(.str "sealpress.modes" 760)) (cd:=449) X G (λ_ _ _ _ _ _ us hl=>by obtain⟨_,_,_,rfl⟩:=len3 hl;rfl) (by kernel_rfl!) (by kernel_rfl!) (by kernel_rfl!) (by kernel_rfl!);have D_gathered:Df (KH w.params) mg "gathered" ky zY:=dfm (f:=457) (pm:=(.str "sealpress.modes" 760)) (cd:=456) X G (λ_ _ _ _ _ _ us hl=>by obtain⟨_,_,_,_,_,rfl⟩:=len5 hl;rfl) (by kernel_rfl!) (by kernel_rfl!) (by kernel_rfl!) (by kernel_rfl!);have D_box_shut:Df (KH w.params) mg "box_shut" kz jd:=dfm (f:=464) (pm:=(.str "sealpress.modes" 760)) (cd:=463) X G (λ_ _ _ _ _ _ us hl=>by obtain⟨_,_,rfl⟩:=len2 hl;rfl) (by kernel_rfl!) (by kernel_rfl!) (by kernel_rfl!) (by kernel_rfl!);have D_into_box:Df (KH w.params) mg "into_box" kA wI:=dfm (f:=471) (pm:=(.str "sealpress.modes" 760)) (cd:=470) X G (λ_ _ _ _ _ _ us hl=>by obtain⟨_,_,rfl⟩:=len2 hl;rfl) (by kernel_rfl!) (by kernel_rfl!) (by kernel_rfl!) (by kernel_rfl!);have D_led_on:Df (KH w.params) mg "led_on" JA wg:=dfm (f:=478) (pm:=(.str "sealpress.modes" 760)) (cd:=477) X G (λ_ _ _ _ _ _ us hl=>by obtain⟨_,_,_,rfl⟩:=len3 hl;rfl) (by kernel_rfl!) (by kernel_rfl!) (by kernel_rfl!) (by kernel_rfl!);have D_fed:Df (KH w.params) mg "fed" zcH ZP:=dfm (f:=485) (pm:=(.str "sealpress.modes" 760)) (cd:=484) X G (λ_ _ _ _ _ _ us hl=>by obtain⟨_,_,_,rfl⟩:=len3 hl;rfl) (by kernel_rfl!) (by kernel_rfl!) (by kernel_rfl!) (by kernel_rfl!);have D_mark_ended:Df (KH w.params) mg "mark_ended" vO qC:=dfm (f:=492) (pm:=(.str "sealpress.modes" 760)) (cd:=491) X G (λ_ _ _ _ _ _ us hl=>by obtain⟨_,_,rfl⟩:=len2 hl;rfl) (by kernel_rfl!) (by kernel_rfl!) (by kernel_rfl!) (by kernel_rfl!);have D_at_text:Df (KH w.params) mg "at_text" ZQ xx:=dfm (f:=499) (pm:=(.str "sealpress.modes" 760)) (cd:=498) X G (λ_ _ _ _ _ _ us hl=>by obtain⟨_,_,_,_,rfl⟩:=len4 hl;rfl) (by kernel_rfl!) (by kernel_rfl!) (by kernel_rfl!) (by kernel_rfl!);have D_at_mark:Df (KH w.params) mg "at_mark" ZR xy:=dfm (f:=506) (pm:=(.str "sealpress.modes" 760)) (cd:=505) X G (λ_ _ _ _ _ _ us hl=>by obtain⟨_,_,_,_,rfl⟩:=len4 hl;rfl) (by kernel_rfl!) (by kernel_rfl!) (by kernel_rfl!) (by kernel_rfl!);have D_at_open:Df (KH w.params) mg "at_open" ZS xA:=dfm (f:=513) (pm:=(.str "sealpress.modes" 760)) (cd:=512) X G (λ_ _ _ _ _ _ us hl=>by obtain⟨_,_,_,_,rfl⟩:=len4 hl;rfl) (by kernel_rfl!) (by kernel_rfl!) (by kernel_rfl!) (by kernel_rfl!);have D_at_name:Df (KH w.params) mg "at_name" ZT xB:=dfm (f:=520) (pm:=(.str "sealpress.modes" 760)) (cd:=519) X G (λ_ _ _ _ _ _ us hl=>by obtain⟨_,_,_,_,rfl⟩:=len4 hl;rfl) (by kernel_rfl!) (by kernel_rfl!) (by kernel_rfl!) (by kernel_rfl!);have D_at_slash:Df (KH w.params) mg "at_slash" kB wJ:=dfm (f:=527) (pm:=(.str "sealpress.modes" 760)) (cd:=526) X G (λ_ _ _ _ _ _ us hl=>by obtain⟨_,_,_,_,rfl⟩:=len4 hl;rfl) (by kernel_rfl!) (by kernel_rfl!) (by kernel_rfl!) (by kernel_rfl!);have D_at_shut:Df (KH w.params) mg "at_shut" ZU xC:=dfm (f:=534) (pm:=(.str "sealpress.modes" 760)) (cd:=533) X G (λ_ _ _ _ _ _ us hl=>by obtain⟨_,_,_,_,rfl⟩:=len4 hl;rfl) (by kernel_rfl!) (by kernel_rfl!) (by kernel_rfl!) (by kernel_rfl!);have D_at_gap:Df (KH w.params) mg "at_gap" JC vB:=dfm (f:=541) (pm:=(.str "sealpress.modes" 760)) (cd:=540) X G (λ_ _ _ _ _ _ us hl=>by obtain⟨_,_,_,_,rfl⟩:=len4 hl;rfl) (by kernel_rfl!) (by kernel_rfl!) (by kernel_rfl!) (by kernel_rfl!);have D_at_attr:Df (KH w.params) mg "at_attr" ZV xD:=dfm (f:=548) (pm:=(.str "sealpress.modes" 760)) (cd:=547) X G (λ_ _ _ _ _ _ us hl=>by obtain⟨_,_,_,_,rfl⟩:=len4 hl;rfl) (by kernel_rfl!) (by kernel_rfl!) (by kernel_rfl!) (by kernel_rfl!);have D_at_is:Df (KH w.params) mg "at_is" W7 yr:=dfm (f:=555) (pm:=(.str "sealpress.modes" 760)) (cd:=554) X G (λ_ _ _ _ _ _ us hl=>by obtain⟨_,_,_,_,rfl⟩:=len4 hl;rfl) (by kernel_rfl!) (by kernel_rfl!) (by kernel_rfl!) (by kernel_rfl!);have D_at_bang:Df (KH w.params) mg "at_bang" ZW xE:=dfm (f:=562) (pm:=(.str "sealpress.modes" 760)) (cd:=561) X G (λ_ _ _ _ _ _ us hl=>by obtain⟨_,_,_,_,rfl⟩:=len4 hl;rfl) (by kernel_rfl!) (by kernel_rfl!) (by kernel_rfl!) (by kernel_rfl!);have D_at_bare:Df (KH w.params) mg "at_bare" ZX xF:=dfm (f:=569) (pm:=(.str "sealpress.modes" 760)) (cd:=568) X G (λ_ _ _ _ _ _ us hl=>by obtain⟨_,_,_,_,rfl⟩:=len4 hl;rfl) (by kernel_rfl!) (by kernel_rfl!) (by kernel_rfl!) (by kernel_rfl!);have D_at_code:Df (KH w.params) mg "at_code" ZY xG:=dfm (f:=576) (pm:=(.str "sealpress.modes" 760)) (cd:=575) X G (λ_ _ _ _ _ _ us hl=>by obtain⟨_,_,_,_,rfl⟩:=len4 hl;rfl) (by kernel_rfl!) (by kernel_rfl!) (by kernel_rfl!) (by kernel_rfl!);have D_at_row:Df (KH w.params) mg "at_row" JD vC:=dfm (f:=583) (pm:=(.str "sealpress.modes" 760)) (cd:=582) X G (λ_ _ _ _ _ _ us hl=>by obtain⟨_,_,_,_,rfl⟩:=len4 hl;rfl) (by kernel_rfl!) (by kernel_rfl!) (by kernel_rfl!) (by kernel_rfl!);have D_at_stroke:Df (KH w.params) mg "at_stroke" yt jY:=dfm (f:=590) (pm:=(.str "sealpress.modes" 760)) (cd:=589) X G (λ_ _ _ _ _ _ us hl=>by obtain⟨_,_,_,_,rfl⟩:=len4 hl;rfl) (by kernel_rfl!) (by kernel_rfl!) (by kernel_rfl!) (by kernel_rfl!);have D_at_quoted:Df (KH w.params) mg "at_quoted" yu jZ:=dfm (f:=597) (pm:=(.str "sealpress.modes" 760)) (cd:=596) X G (λ_ _ _ _ _ _ us hl=>by obtain⟨_,_,_,_,rfl⟩:=len4 hl;rfl) (by kernel_rfl!) (by kernel_rfl!) (by kernel_rfl!) (by kernel_rfl!);have D_at_qmark:Df (KH w.params) mg "at_qmark" kC wK:=dfm (f:=604) (pm:=(.str "sealpress.modes" 760)) (cd:=603) X G (λ_ _ _ _ _ _ us hl=>by obtain⟨_,_,_,_,rfl⟩:=len4 hl;rfl) (by kernel_rfl!) (by kernel_rfl!) (by kernel_rfl!) (by kernel_rfl!);have D_at_done:Df (KH w.params) mg "at_done" ZZ xH:=dfm (f:=611) (pm:=(.str "sealpress.modes" 760)) (cd:=610) X G (λ_ _ _ _ _ _ us hl=>by obtain⟨_,_,_,_,rfl⟩:=len4 hl;rfl) (by kernel_rfl!) (by kernel_rfl!) (by kernel_rfl!) (by kernel_rfl!);have D_at_talk:Df (KH w.params) mg "at_talk" Z0 xI:=dfm (f:=618) (pm:=(.str "sealpress.modes" 760)) (cd:=617) X G (λ_ _ _ _ _ _ us hl=>by obtain⟨_,_,_,_,rfl⟩:=len4 hl;rfl) (by kernel_rfl!) (by kernel_rfl!) (by kernel_rfl!) (by kernel_rfl!);have D_at_tmark:Df (KH w.params) mg "at_tmark" kD wL:=dfm (f:=625) (pm:=(.str "sealpress.modes" 760)) (cd:=624) X G (λ_ _ _ _ _ _ us hl=>by obtain⟨_,_,_,_,rfl⟩:=len4 hl;rfl) (by kernel_rfl!) (by kernel_rfl!) (by kernel_rfl!) (by kernel_rfl!);have D_at_asis:Df (KH w.params) mg "at_asis" yU xJ:=dfm (f:=630) (pm:=(.str "sealpress.modes" 760)) (cd:=629) X G (λ_ _ _ _ _ _ us hl=>by obtain⟨_,_,_,_,rfl⟩:=len4 hl;rfl) (by kernel_rfl!) (by kernel_rfl!) (by kernel_rfl!) (by kernel_rfl!);have D_moved:Df (KH w.params) mg "moved" Xa yw:=dfm (f:=639) (pm:=(.str "sealpress.modes" 760)) (cd:=638) X G (λ_ _ _ _ _ _ us hl=>by obtain⟨_,_,rfl⟩:=len2 hl;rfl) (by kernel_rfl!) (by kernel_rfl!) (by kernel_rfl!) (by kernel_rfl!);have D_begin:Df (KH w.params) mg "begin" Xb j0:=dfm (f:=646) (pm:=(.str "sealpress.steps" 1085)) (cd:=645) X G (λ_ _ _ _ _ _ us hl=>by obtain rfl:=len0 hl;rfl) (by kernel_rfl!) (by kernel_rfl!) (by kernel_rfl!) (by kernel_rfl!);have D_step:Df (KH w.params) mg "step" YY yV:=dfm (f:=653) (pm:=(.str "sealpress.steps" 1085)) (cd:=652) X G (λ_ _ _ _ _ _ us hl=>by obtain⟨_,_,rfl⟩:=len2 hl;rfl) (by kernel_rfl!) (by kernel_rfl!) (by kernel_rfl!) (by kernel_rfl!);have D_run:Df (KH w.params) mg "run" zcM JG:=dfm (f:=660) (pm:=(.str "sealpress.steps" 1085)) (cd:=659) X G (λ_ _ _ _ _ _ us hl=>by obtain⟨_,_,rfl⟩:=len2 hl;rfl) (by kernel_rfl!) (by kernel_rfl!) (by kernel_rfl!) (by kernel_rfl!);have D_is_end:Df (KH w.params) mg "is_end" JH vD:=dfm (f:=667) (pm:=(.str "sealpress.steps" 1085)) (cd:=666) X G (λ_ _ _ _ _ _ us hl=>by obtain⟨_,rfl⟩:=len1 hl;rfl) (by kernel_rfl!) (by kernel_rfl!) (by kernel_rfl!) (by kernel_rfl!);have D_floored:Df (KH w.params) mg "floored" Z2 wj:=dfm (f:=674) (pm:=(.str "sealpress.steps" 1085)) (cd:=673) X G (λ_ _ _ _ _ _ us hl=>by obtain⟨_,rfl⟩:=len1 hl;rfl) (by kernel_rfl!) (by kernel_rfl!) (by kernel_rfl!) (by kernel_rfl!);have D_Spot___init__:Dc (KH w.params) mg 712 "Spot" "Spot.__init__" wX z0:=dcm (f:=688) (pm:=(.str "sealpress.looker" 1128)) (cd:=687) X G (λ_ _ _ _ _ _ us hl=>by obtain⟨_,_,_,_,rfl⟩:=len4 hl;rfl) (by kernel_rfl!) (by kernel_rfl!) (by kernel_rfl!) (by kernel_rfl!) ⟨by kernel_rfl!,by kernel_rfl!,by kernel_rfl!,by kernel_rfl!⟩;have D_Spot_shown:Dm (KH w.params) 712 "shown" "Spot.shown" vP zP:=dmm (f:=695) (pm:=(.str "sealpress.looker" 1128)) (cd:=694) (λ_ _ _ _ _ _ us hl=>by obtain⟨_,rfl⟩:=len1 hl;rfl) (by kernel_rfl!) (by kernel_rfl!) (by kernel_rfl!) C_Spot ⟨by kernel_rfl!,by kernel_rfl!,by kernel_rfl!⟩;have D_Spot_met:Dm (KH w.params) 712 "met" "Spot.met" kG qN:=dmm (f:=702) (pm:=(.str "sealpress.looker" 1128)) (cd:=701) (λ_ _ _ _ _ _ us hl=>by obtain⟨_,_,rfl⟩:=len2 hl;rfl) (by kernel_rfl!) (by kernel_rfl!) (by kernel_rfl!) C_Spot ⟨by kernel_rfl!,by kernel_rfl!,by kernel_rfl!⟩;have D_Spot_turned:Dm (KH w.params) 712 "turned" "Spot.turned" vp qo:=dmm (f:=709) (pm:=(.str "sealpress.looker" 1128)) (cd:=708) (λ_ _ _ _ _ _ us hl=>by obtain⟨_,_,rfl⟩:=len2 hl;rfl) (by kernel_rfl!) (by kernel_rfl!) (by kernel_rfl!) C_Spot ⟨by kernel_rfl!,by kernel_rfl!,by kernel_rfl!⟩;have D_Looking___init__:Dc (KH w.params) mg 789 "Looking" "Looking.__init__" jG qc:=dcm (f:=730) (pm:=(.str "sealpress.looker" 1128)) (cd:=729) X G (λ_ _ _ _ _ _ us hl=>by obtain⟨_,_,rfl⟩:=len2 hl;rfl) (by kernel_rfl!) (by kernel_rfl!) (by kernel_rfl!) (by kernel_rfl!) ⟨by kernel_rfl!,by kernel_rfl!,by kernel_rfl!,by kernel_rfl!⟩;have D_Looking_look_all:Dm (KH w.params) 789 "look_all" "Looking.look_all" qQ zz:=dmm (f:=737) (pm:=(.str "sealpress.looker" 1128)) (cd:=736) (λ_ _ _ _ _ _ us hl=>by obtain⟨_,_,_,rfl⟩:=len3 hl;rfl) (by kernel_rfl!) (by kernel_rfl!) (by kernel_rfl!) C_Looking ⟨by kernel_rfl!,by kernel_rfl!,by kernel_rfl!⟩;have D_Looking_look_piece:Dm (KH w.params) 789 "look_piece" "Looking.look_piece" qy zO:=dmm (f:=744) (pm:=(.str "sealpress.looker" 1128)) (cd:=743) (λ_ _ _ _ _ _ us hl=>by obtain⟨_,_,_,rfl⟩:=len3 hl;rfl) (by kernel_rfl!) (by kernel_rfl!) (by kernel_rfl!) C_Looking ⟨by kernel_rfl!,by kernel_rfl!,by kernel_rfl!⟩;have D_Looking_look_literal:Dm (KH w.params) 789 "look_literal" "Looking.look_literal" qR zI:=dmm (f:=751) (pm:=(.str "sealpress.looker" 1128)) (cd:=750) (λ_ _ _ _ _ _ us hl=>by obtain⟨_,_,_,rfl⟩:=len3 hl;rfl) (by kernel_rfl!) (by kernel_rfl!) (by kernel_rfl!) C_Looking ⟨by kernel_rfl!,by kernel_rfl!,by kernel_rfl!⟩;have D_Looking_look_hole:Dm (KH w.params) 789 "look_hole" "Looking.look_hole" js zS:=dmm (f:=758) (pm:=(.str "sealpress.looker" 1128)) (cd:=757) (λ_ _ _ _ _ _ us hl=>by obtain⟨_,_,_,rfl⟩:=len3 hl;rfl) (by kernel_rfl!) (by kernel_rfl!) (by kernel_rfl!) C_Looking ⟨by kernel_rfl!,by kernel_rfl!,by kernel_rfl!⟩;have D_Looking_look_each:Dm (KH w.params) 789 "look_each" "Looking.look_each" qD zT:=dmm (f:=765) (pm:=(.str "sealpress.looker" 1128)) (cd:=764) (λ_ _ _ _ _ _ us hl=>by obtain⟨_,_,_,rfl⟩:=len3 hl;rfl) (by kernel_rfl!) (by kernel_rfl!) (by kernel_rfl!) C_Looking ⟨by kernel_rfl!,by kernel_rfl!,by kernel_rfl!⟩;have D_Looking_look_if:Dm (KH w.params) 789 "look_if" "Looking.look_if" qY z4:=dmm (f:=772) (pm:=(.str "sealpress.looker" 1128)) (cd:=771) (λ_ _ _ _ _ _ us hl=>by obtain⟨_,_,_,rfl⟩:=len3 hl;rfl) (by kernel_rfl!) (by kernel_rfl!) (by kernel_rfl!) C_Looking ⟨by kernel_rfl!,by kernel_rfl!,by kernel_rfl!⟩;have D_Looking_look_seat:Dm (KH w.params) 789 "look_seat" "Looking.look_seat" qE zU:=dmm (f:=779) (pm:=(.str "sealpress.looker" 1128)) (cd:=778) (λ_ _ _ _ _ _ us hl=>by obtain⟨_,_,_,rfl⟩:=len3 hl;rfl) (by kernel_rfl!) (by kernel_rfl!) (by kernel_rfl!) C_Looking ⟨by kernel_rfl!,by kernel_rfl!,by kernel_rfl!⟩;have D_looked_at:Df (KH w.params) mg "looked_at" yy j4:=dfm (f:=800) (pm:=(.str "sealpress.looker" 1128)) (cd:=799) X G (λ_ _ _ _ _ _ us hl=>by obtain⟨_,_,rfl⟩:=len2 hl;rfl) (by kernel_rfl!) (by kernel_rfl!) (by kernel_rfl!) (by kernel_rfl!);have D_look:Df (KH w.params) mg "look" Y0 Zu:=dfm (f:=807) (pm:=(.str "sealpress.looker" 1128)) (cd:=806) X G (λ_ _ _ _ _ _ us hl=>by obtain⟨_,rfl⟩:=len1 hl;rfl) (by kernel_rfl!) (by kernel_rfl!) (by kernel_rfl!) (by kernel_rfl!);have D__law_cell:Df (KH w.params) mg "_law_cell" yz j5:=dfm (f:=814) (pm:=(.str "law_sealpress_k76_whole_just_where_all_ways" 1322)) (cd:=813) X G (λ_ _ _ _ _ _ us hl=>by obtain⟨_,_,rfl⟩:=len2 hl;rfl) (by kernel_rfl!) (by kernel_rfl!) (by kernel_rfl!) (by kernel_rfl!);have D__law_mix:Df (KH w.params) mg "_law_mix" kH qh:=dfm (f:=821) (pm:=(.str "law_sealpress_k76_whole_just_where_all_ways" 1322)) (cd:=820) X G (λ_ _ _ _ _ _ us hl=>by obtain⟨_,_,_,rfl⟩:=len3 hl;rfl) (by kernel_rfl!) (by kernel_rfl!) (by kernel_rfl!) (by kernel_rfl!);have D__law_other:Df (KH w.params) mg "_law_other" vS jw:=dfm (f:=828) (pm:=(.str "law_sealpress_k76_whole_just_where_all_ways" 1322)) (cd:=827) X G (λ_ _ _ _ _ _ us hl=>by obtain⟨_,rfl⟩:=len1 hl;rfl) (by kernel_rfl!) (by kernel_rfl!) (by kernel_rfl!) (by kernel_rfl!);have D__law_looked:Df (KH w.params) mg "_law_looked" vq jg:=dfm (f:=835) (pm:=(.str "law_sealpress_k76_whole_just_where_all_ways" 1322)) (cd:=834) X G (λ_ _ _ _ _ _ us hl=>by obtain⟨_,rfl⟩:=len1 hl;rfl) (by kernel_rfl!) (by kernel_rfl!) (by kernel_rfl!) (by kernel_rfl!);have D__law_refusal:Df (KH w.params) mg "_law_refusal" xP qS:=dfm (f:=842) (pm:=(.str "law_sealpress_k76_whole_just_where_all_ways" 1322)) (cd:=841) X G (λ_ _ _ _ _ _ us hl=>by obtain⟨_,rfl⟩:=len1 hl;rfl) (by kernel_rfl!) (by kernel_rfl!) (by kernel_rfl!) (by kernel_rfl!);have D__law_menu:Df (KH w.params) mg "_law_menu" yB j6:=dfm (f:=849) (pm:=(.str "law_sealpress_k76_whole_just_where_all_ways" 1322)) (cd:=848) X G (λ_ _ _ _ _ _ us hl=>by obtain rfl:=len0 hl;rfl) (by kernel_rfl!) (by kernel_rfl!) (by kernel_rfl!) (by kernel_rfl!);have D__law_ran:Df (KH w.params) mg "_law_ran" kI qz:=dfm (f:=856) (pm:=(.str "law_sealpress_k76_whole_just_where_all_ways" 1322)) (cd:=855) X G (λ_ _ _ _ _ _ us hl=>by obtain⟨_,_,rfl⟩:=len2 hl;rfl) (by kernel_rfl!) (by kernel_rfl!) (by kernel_rfl!) (by kernel_rfl!);have D__law_literal:Df (KH w.params) mg "_law_literal" xQ qr:=dfm (f:=863) (pm:=(.str "law_sealpress_k76_whole_just_where_all_ways" 1322)) (cd:=862) X G (λ_ _ _ _ _ _ us hl=>by obtain⟨_,_,rfl⟩:=len2 hl;rfl) (by kernel_rfl!) (by kernel_rfl!) (by kernel_rfl!) (by kernel_rfl!);have D__law_pieces:Df (KH w.params) mg "_law_pieces" wt z7:=dfm (f:=870) (pm:=(.str "law_sealpress_k76_whole_just_where_all_ways" 1322)) (cd:=869) X G (λ_ _ _ _ _ _ us hl=>by obtain⟨_,_,_,_,rfl⟩:=len4 hl;rfl) (by kernel_rfl!) (by kernel_rfl!) (by kernel_rfl!) (by kernel_rfl!);have D__law_nested:Df (KH w.params) mg "_law_nested" wu zW:=dfm (f:=877) (pm:=(.str "law_sealpress_k76_whole_just_where_all_ways" 1322)) (cd:=876) X G (λ_ _ _ _ _ _ us hl=>by obtain⟨_,_,_,_,_,rfl⟩:=len5 hl;rfl) (by kernel_rfl!) (by kernel_rfl!) (by kernel_rfl!) (by kernel_rfl!);have D__law_even:Df (KH w.params) mg "_law_even" yD jq:=dfm (f:=884) (pm:=(.str "law_sealpress_k76_whole_just_where_all_ways" 1322)) (cd:=883) X G (λ_ _ _ _ _ _ us hl=>by obtain⟨_,_,_,rfl⟩:=len3 hl;rfl) (by kernel_rfl!) (by kernel_rfl!) (by kernel_rfl!) (by kernel_rfl!);have D__law_closed:Df (KH w.params) mg "_law_closed" vt jh:=dfm (f:=891) (pm:=(.str "law_sealpress_k76_whole_just_where_all_ways" 1322)) (cd:=890) X G (λ_ _ _ _ _ _ us hl=>by obtain⟨_,rfl⟩:=len1 hl;rfl) (by kernel_rfl!) (by kernel_rfl!) (by kernel_rfl!) (by kernel_rfl!);have D__law_hole_stands:Df (KH w.params) mg "_law_hole_stands" jI zX:=dfm (f:=898) (pm:=(.str "law_sealpress_k76_whole_just_where_all_ways" 1322)) (cd:=897) X G (λ_ _ _ _ _ _ us hl=>by obtain⟨_,rfl⟩:=len1 hl;rfl) (by kernel_rfl!) (by kernel_rfl!) (by kernel_rfl!) (by kernel_rfl!);have D__law_each_end:Df (KH w.params) mg "_law_each_end" qu qk:=dfm (f:=903) (pm:=(.str "law_sealpress_k76_whole_just_where_all_ways" 1322)) (cd:=902) X G (λ_ _ _ _ _ _ us hl=>by obtain⟨_,_,_,rfl⟩:=len3 hl;rfl) (by kernel_rfl!) (by kernel_rfl!) (by kernel_rfl!) (by kernel_rfl!);have D__law_ends:Df (KH w.params) mg "_law_ends" vf zN:=dfm (f:=910) (pm:=(.str "law_sealpress_k76_whole_just_where_all_ways" 1322)) (cd:=909) X G (λ_ _ _ _ _ _ us hl=>by obtain⟨_,_,_,rfl⟩:=len3 hl;rfl) (by kernel_rfl!) (by kernel_rfl!) (by kernel_rfl!) (by kernel_rfl!);have D__law_right:Df (KH w.params) mg "_law_right" xf jx:=dfm (f:=915) (pm:=(.str "law_sealpress_k76_whole_just_where_all_ways" 1322)) (cd:=914) X G (λ_ _ _ _ _ _ us hl=>by obtain⟨_,rfl⟩:=len1 hl;rfl) (by kernel_rfl!) (by kernel_rfl!) (by kernel_rfl!) (by kernel_rfl!);have D_law:Df (KH w.params) mg "law" zcO Xc:=dfm (f:=922) (pm:=(.str "law_sealpress_k76_whole_just_where_all_ways" 1322)) (cd:=921) X G (λ_ _ _ _ _ _ us hl=>by obtain⟨_,rfl⟩:=len1 hl;rfl) (by kernel_rfl!) (by kernel_rfl!) (by kernel_rfl!) (by kernel_rfl!);have e_SIGNS:Str.ofString " !\"#$&'()*+,-./0123456789:;<=>?@ABCDEFGHIJKLMNOPQRSTUVWXYZ[\\]^_`abcdefghijklmnopqrstuvwxyz{|}~" = (S sg):=by decide +kernel
 have e_FIGURES:Str.ofString "0123456789" = (S fg):=by decide +kernel
 have e_LETTERS:Str.ofString "abcdefghijklmnopqrstuvwxyz" = (S lt):=by decide +kernel
 have e_WORDSIGNS:Str.ofString "abcdefghijklmnopqrstuvwxyz0123456789-" = (S ws):=by decide +kernel
 have e_ASIS_END:Str.ofString "</asis>" = (S vL):=by decide +kernel
 have xl_MODES:(KH w.params).lookup 631=some ⟨.type "dict",none,.dict #[(en w.params "text" 1035 (.ref 499)),(en w.params "mark" 1037 (.ref 506)),(en w.params "open" 1039 (.ref 513)),(en w.params "name" 1041 (.ref 520)),(en w.params "slash" 1043 (.ref 527)),(en w.params "shut" 1045 (.ref 534)),(en w.params "gap" 1047 (.ref 541)),(en w.params "attr" 1049 (.ref 548)),(en w.params "is" 1051 (.ref 555)),(en w.params "bang" 1053 (.ref 562)),(en w.params "bare" 1055 (.ref 569)),(en w.params "code" 1057 (.ref 576)),(en w.params "row" 1059 (.ref 583)),(en w.params "stroke" 1061 (.ref 590)),(en w.params "quoted" 1063 (.ref 597)),(en w.params "qmark" 1065 (.ref 604)),(en w.params "done" 1067 (.ref 611)),(en w.params "talk" 1069 (.ref 618)),(en w.params "tmark" 1070 (.ref 625)),(en w.params "asis" 1071 (.ref 630))] 20,#[]⟩:=by kernel_rfl!
 have xl_PLACE_MODES:(KH w.params).lookup 401=some ⟨.type "tuple",none,.seq #[(.str "text" 717),(.str "bare" 718),(.str "row" 719),(.str "quoted" 720)] 0,#[]⟩:=by kernel_rfl!
 have T:Txt w (KH w.params) mg (⟨24,44,63,82,94,113,132,151,170,182,201,220,239,258,277,296,315,334,353,372,384,712,789,401,499,506,513,520,527,534,541,548,555,562,569,576,583,590,597,604,611,618,625,630⟩:Ads):=⟨ui (v:=.ref 24) X G (by kernel_rfl!),ui (v:=.ref 44) X G (by kernel_rfl!),ui (v:=.ref 63) X G (by kernel_rfl!),ui (v:=.ref 82) X G (by kernel_rfl!),ui (v:=.ref 94) X G (by kernel_rfl!),ui (v:=.ref 113) X G (by kernel_rfl!),ui (v:=.ref 132) X G (by kernel_rfl!),ui (v:=.ref 151) X G (by kernel_rfl!),ui (v:=.ref 170) X G (by kernel_rfl!),ui (v:=.ref 182) X G (by kernel_rfl!),ui (v:=.ref 201) X G (by kernel_rfl!),ui (v:=.ref 220) X G (by kernel_rfl!),ui (v:=.ref 239) X G (by kernel_rfl!),ui (v:=.ref 258) X G (by kernel_rfl!),ui (v:=.ref 277) X G (by kernel_rfl!),ui (v:=.ref 296) X G (by kernel_rfl!),ui (v:=.ref 315) X G (by kernel_rfl!),ui (v:=.ref 334) X G (by kernel_rfl!),ui (v:=.ref 353) X G (by kernel_rfl!),ui (v:=.ref 372) X G (by kernel_rfl!),ui (v:=.ref 384) X G (by kernel_rfl!),ui (v:=.ref 712) X G (by kernel_rfl!),ui (v:=.ref 789) X G (by kernel_rfl!),ui (v:=.ref 499) X G (by kernel_rfl!),ui (v:=.ref 506) X G (by kernel_rfl!),ui (v:=.ref 513) X G (by kernel_rfl!),ui (v:=.ref 520) X G (by kernel_rfl!),ui (v:=.ref 527) X G (by kernel_rfl!),ui (v:=.ref 534) X G (by kernel_rfl!),ui (v:=.ref 541) X G (by kernel_rfl!),ui (v:=.ref 548) X G (by kernel_rfl!),ui (v:=.ref 555) X G (by kernel_rfl!),ui (v:=.ref 562) X G (by kernel_rfl!),ui (v:=.ref 569) X G (by kernel_rfl!),ui (v:=.ref 576) X G (by kernel_rfl!),ui (v:=.ref 583) X G (by kernel_rfl!),ui (v:=.ref 590) X G (by kernel_rfl!),ui (v:=.ref 597) X G (by kernel_rfl!),ui (v:=.ref 604) X G (by kernel_rfl!),ui (v:=.ref 611) X G (by kernel_rfl!),ui (v:=.ref 618) X G (by kernel_rfl!),ui (v:=.ref 625) X G (by kernel_rfl!),ui (v:=.ref 630) X G (by kernel_rfl!),ZH (by kernel_rfl!),ZH (by kernel_rfl!),by kernel_rfl!,by kernel_rfl!,by kernel_rfl!,by kernel_rfl!,ZH (by kernel_rfl!),by kernel_rfl!,by kernel_rfl!,by kernel_rfl!,by kernel_rfl!,by kernel_rfl!,by kernel_rfl!,by kernel_rfl!,by kernel_rfl!,by kernel_rfl!,ZH (by kernel_rfl!),by kernel_rfl!,by kernel_rfl!,by kernel_rfl!,by kernel_rfl!,by kernel_rfl!,by kernel_rfl!,by kernel_rfl!,by kernel_rfl!,by kernel_rfl!,by kernel_rfl!,by kernel_rfl!,by kernel_rfl!,ZH (by kernel_rfl!),by kernel_rfl!,by kernel_rfl!,by kernel_rfl!,by kernel_rfl!,by kernel_rfl!,by kernel_rfl!,by kernel_rfl!,by kernel_rfl!,by kernel_rfl!,by kernel_rfl!,ZH (by kernel_rfl!),by kernel_rfl!,by kernel_rfl!,by kernel_rfl!,by kernel_rfl!,by kernel_rfl!,by kernel_rfl!,by kernel_rfl!,by kernel_rfl!,by kernel_rfl!,by kernel_rfl!,⟨.str (Str.ofString " !\"#$&'()*+,-./0123456789:;<=>?@ABCDEFGHIJKLMNOPQRSTUVWXYZ[\\]^_`abcdefghijklmnopqrstuvwxyz{|}~") 690,ui X G (by kernel_rfl!),⟨_,by rw [e_SIGNS]⟩⟩,⟨.str (Str.ofString "0123456789") 692,ui X G (by kernel_rfl!),⟨_,by rw [e_FIGURES]⟩⟩,⟨.str (Str.ofString "abcdefghijklmnopqrstuvwxyz") 694,ui X G (by kernel_rfl!),⟨_,by rw [e_LETTERS]⟩⟩,⟨.int 8 696,ui X G (by kernel_rfl!),⟨_,rfl⟩⟩,⟨.str (Str.ofString "abcdefghijklmnopqrstuvwxyz0123456789-") 713,ui X G (by kernel_rfl!),⟨_,by rw [e_WORDSIGNS]⟩⟩,⟨.str (Str.ofString "</asis>") 762,ui X G (by kernel_rfl!),⟨_,by rw [e_ASIS_END]⟩⟩,⟨.int 2 764,ui X G (by kernel_rfl!),⟨_,rfl⟩⟩,⟨_,ui (v:=.ref 631) X G (by kernel_rfl!),by decide,_,_,_,xl_MODES,⟨rfl,rfl,rfl⟩,rfl,by repeat' (first | exact EntK.nil | refine EntK.cons rfl rfl rfl ?_),by decide +kernel⟩,ui (v:=.ref 401) X G (by kernel_rfl!),λ_=>.inr ⟨_,_,_,xl_PLACE_MODES,rfl,rfl,by decide,by repeat' (first | exact .nil | refine .cons ⟨_,rfl⟩ ?_)⟩,u0 X G (by kernel_rfl!),u0 X G (by kernel_rfl!),u0 X G (by kernel_rfl!),u0 X G (by kernel_rfl!),u0 X G (by kernel_rfl!),u0 X G (by kernel_rfl!),u0 X G (by kernel_rfl!),u0 X G (by kernel_rfl!),u0 X G (by kernel_rfl!),u0 X G (by kernel_rfl!),u0 X G (by kernel_rfl!),C_Spot,C_Looking,by show _=_;kernel_rfl!,by show _=_;kernel_rfl!,by show _=_;kernel_rfl!,by show _=_;kernel_rfl!,by show _=_;kernel_rfl!,by show _=_;kernel_rfl!⟩
 have I_Unread:Ini (KH w.params) 82 "Unread.__init__" kJ ["self","at"]:=inim (f:=79) (pm:=(.str "sealpress.errors" 187)) (cd:=78) (λ_ _ _ _ _ _ us hl=>by obtain⟨_,_,rfl⟩:=len2 hl;rfl) (by kernel_rfl!) (by kernel_rfl!) (by kernel_rfl!) (by kernel_rfl!);have I_Astray:Ini (KH w.params) 277 "Astray.__init__" kK ["self","place","at"]:=inim (f:=274) (pm:=(.str "sealpress.errors" 187)) (cd:=273) (λ_ _ _ _ _ _ us hl=>by obtain⟨_,_,_,rfl⟩:=len3 hl;rfl) (by kernel_rfl!) (by kernel_rfl!) (by kernel_rfl!) (by kernel_rfl!);have I_Unlike:Ini (KH w.params) 315 "Unlike.__init__" kL ["self","what","one","other"]:=inim (f:=312) (pm:=(.str "sealpress.errors" 187)) (cd:=311) (λ_ _ _ _ _ _ us hl=>by obtain⟨_,_,_,_,rfl⟩:=len4 hl;rfl) (by kernel_rfl!) (by kernel_rfl!) (by kernel_rfl!) (by kernel_rfl!);have I_NoPlace:Ini (KH w.params) 296 "NoPlace.__init__" yE ["self","name","place"]:=inim (f:=293) (pm:=(.str "sealpress.errors" 187)) (cd:=292) (λ_ _ _ _ _ _ us hl=>by obtain⟨_,_,_,rfl⟩:=len3 hl;rfl) (by kernel_rfl!) (by kernel_rfl!) (by kernel_rfl!) (by kernel_rfl!);have I_LeftOpen:Ini (KH w.params) 334 "LeftOpen.__init__" vW ["self","place"]:=inim (f:=331) (pm:=(.str "sealpress.errors" 187)) (cd:=330) (λ_ _ _ _ _ _ us hl=>by obtain⟨_,_,rfl⟩:=len2 hl;rfl) (by kernel_rfl!) (by kernel_rfl!) (by kernel_rfl!) (by kernel_rfl!);refine zhf D_law hfa (λ_ _ _ _ _ _ s v=>.of_eq rfl) λbase=>?_;have R_Unread:=Y1 (P:=l.prog) (w:=w) (base:=base) T I_Unread;have R_Astray:=Y4 (P:=l.prog) (w:=w) (base:=base) T I_Astray;have R_Unlike:=Y5 (P:=l.prog) (w:=w) (base:=base) T I_Unlike;have R_NoPlace:=VP (P:=l.prog) (w:=w) (base:=base) T I_NoPlace;have R_LeftOpen:=Xi (P:=l.prog) (w:=w) (base:=base) T I_LeftOpen;have F_sign_of:=Kf (P:=l.prog) (w:=w) (base:=base) T D_sign_of;have F_sign_told:=Xm (P:=l.prog) (w:=w) (base:=base) T D_sign_told F_sign_of;have F_fed_between:=JS (P:=l.prog) (w:=w) (base:=base) T D_fed_between;have F_fed_word:=VS (P:=l.prog) (w:=w) (base:=base) T D_fed_word F_fed_between;have F_fed_said:=VT (P:=l.prog) (w:=w) (base:=base) T D_fed_said;have F_feed:=zeE (P:=l.prog) (w:=w) (base:=base) T D_feed F_fed_between F_fed_word F_fed_said;have F_come_to:=Kg (P:=l.prog) (w:=w) (base:=base) T D_come_to;have F_told:=zeF (P:=l.prog) (w:=w) (base:=base) T D_told F_come_to;have F_gathered:=VU (P:=l.prog) (w:=w) (base:=base) T D_gathered;have F_box_shut:=VV (P:=l.prog) (w:=w) (base:=base) T D_box_shut F_come_to;have F_into_box:=VW (P:=l.prog) (w:=w) (base:=base) T D_into_box F_come_to;have F_led_on:=zbp (P:=l.prog) (w:=w) (base:=base) T D_led_on F_come_to F_into_box;have F_fed:=zhO (P:=l.prog) (w:=w) (base:=base) T D_fed F_feed;have F_mark_ended:=J7 (P:=l.prog) (w:=w) (base:=base) T D_mark_ended F_sign_told;have F_at_text:=Kh (P:=l.prog) (w:=w) (base:=base) T D_at_text F_come_to F_told;have F_at_mark:=Ki (P:=l.prog) (w:=w) (base:=base) T D_at_mark F_gathered F_mark_ended F_told;have F_at_open:=Kj (P:=l.prog) (w:=w) (base:=base) T D_at_open F_come_to F_gathered;have F_at_name:=Kk (P:=l.prog) (w:=w) (base:=base) T D_at_name F_gathered F_led_on;have F_at_slash:=VX (P:=l.prog) (w:=w) (base:=base) T D_at_slash F_box_shut;have F_at_shut:=Kl (P:=l.prog) (w:=w) (base:=base) T D_at_shut F_gathered F_box_shut;have F_at_gap:=zbq (P:=l.prog) (w:=w) (base:=base) T D_at_gap F_gathered;have F_at_attr:=Km (P:=l.prog) (w:=w) (base:=base) T D_at_attr F_gathered F_come_to;have F_at_is:=zc6 (P:=l.prog) (w:=w) (base:=base) T D_at_is F_come_to;have F_at_bang:=Kn (P:=l.prog) (w:=w) (base:=base) T D_at_bang;have F_at_bare:=Ko (P:=l.prog) (w:=w) (base:=base) T D_at_bare F_told F_come_to F_led_on;have F_at_code:=Kq (P:=l.prog) (w:=w) (base:=base) T D_at_code F_told F_sign_told;have F_at_row:=zbr (P:=l.prog) (w:=w) (base:=base) T D_at_row F_come_to F_told;have F_at_stroke:=Xn (P:=l.prog) (w:=w) (base:=base) T D_at_stroke F_told;have F_at_quoted:=Xo (P:=l.prog) (w:=w) (base:=base) T D_at_quoted F_come_to F_told;have F_at_qmark:=VY (P:=l.prog) (w:=w) (base:=base) T D_at_qmark F_gathered F_mark_ended F_told;have F_at_done:=Kr (P:=l.prog) (w:=w) (base:=base) T D_at_done F_led_on;have F_at_talk:=Ks (P:=l.prog) (w:=w) (base:=base) T D_at_talk F_come_to F_fed;have F_at_tmark:=VZ (P:=l.prog) (w:=w) (base:=base) T D_at_tmark F_gathered F_mark_ended F_fed;have F_at_asis:=Kt (P:=l.prog) (w:=w) (base:=base) T D_at_asis F_box_shut F_come_to;have F_moved:=zc7 (P:=l.prog) (w:=w) (base:=base) T D_moved F_at_text F_at_mark F_at_open F_at_name F_at_slash F_at_shut F_at_gap F_at_attr F_at_is F_at_bang F_at_bare F_at_code F_at_row F_at_stroke F_at_quoted F_at_qmark F_at_done F_at_talk F_at_tmark F_at_asis;have F_begin:=zc8 (P:=l.prog) (w:=w) (base:=base) T D_begin;have F_step:=zeG (P:=l.prog) (w:=w) (base:=base) T D_step F_moved;have F_floored:=Ku (P:=l.prog) (w:=w) (base:=base) T D_floored;have F_run:=zhP (P:=l.prog) (w:=w) (base:=base) T D_run F_step R_Unread;have F__law_cell:=V0 (P:=l.prog) (w:=w) (base:=base) T D__law_cell;have F__law_mix:=Kx (P:=l.prog) (w:=w) (base:=base) T D__law_mix;have F_place_of:=V1 (P:=l.prog) (w:=w) (base:=base) T D_place_of;have F_Spot___init__:=Qb (P:=l.prog) (w:=w) (base:=base) T D_Spot___init__;have F_Spot_met:=V2 (P:=l.prog) (w:=w) (base:=base) T D_Spot_met F_Spot___init__;have F_Spot_turned:=JT (P:=l.prog) (w:=w) (base:=base) T D_Spot_turned F_Spot___init__;have F_Looking___init__:=y2 (P:=l.prog) (w:=w) (base:=base) T D_Looking___init__;have F_Spot_shown:=J8 (P:=l.prog) (w:=w) (base:=base) T D_Spot_shown;have F_Looking_look_literal:=QD (P:=l.prog) (w:=w) (base:=base) T D_Looking_look_literal F_run F_Spot_met F_Spot_shown R_Astray;have F_Looking_look_hole:=Xp (P:=l.prog) (w:=w) (base:=base) T D_Looking_look_hole F_place_of F_Spot_met F_Spot_shown R_NoPlace;have F_Looking_look_all:=Xs (P:=l.prog) (w:=w) (base:=base) T D_Looking_look_all D_Looking_look_piece D_Looking_look_each D_Looking_look_if D_Looking_look_seat F_Looking_look_literal F_Looking_look_hole F_Spot_turned F_Spot_met F_Spot_shown F_floored R_Unlike;have F_is_end:=zbs (P:=l.prog) (w:=w) (base:=base) T D_is_end F_begin;have F_looked_at:=Xu (P:=l.prog) (w:=w) (base:=base) T D_looked_at F_Looking_look_all F_begin F_is_end F_Spot___init__ F_Looking___init__ F_Spot_shown R_LeftOpen;have F_look:=zeI (P:=l.prog) (w:=w) (base:=base) T D_look F_looked_at;have F__law_other:=Xv (P:=l.prog) (w:=w) (base:=base) T D__law_other;have F__law_refusal:=JU (P:=l.prog) (w:=w) (base:=base) T D__law_refusal F__law_other;have F__law_looked:=Wa (P:=l.prog) (w:=w) (base:=base) T D__law_looked F_look F__law_refusal;have F__law_ran:=KA (P:=l.prog) (w:=w) (base:=base) T D__law_ran F_step;have F__law_hole_stands:=Za (P:=l.prog) (w:=w) (base:=base) T D__law_hole_stands;have F__law_ends:=Xw (P:=l.prog) (w:=w) (base:=base) T D__law_ends D__law_each_end F__law_ran F__law_hole_stands;have F__law_menu:=V5 (P:=l.prog) (w:=w) (base:=base) T D__law_menu;have F__law_literal:=JV (P:=l.prog) (w:=w) (base:=base) T D__law_literal F__law_menu F__law_mix F__law_ran;have F__law_even:=V6 (P:=l.prog) (w:=w) (base:=base) T D__law_even F__law_ends F__law_mix;have F__law_closed:=Wb (P:=l.prog) (w:=w) (base:=base) T D__law_closed F__law_ends F_begin;have F__law_pieces:=JW (P:=l.prog) (w:=w) (base:=base) T D__law_pieces D__law_nested F__law_mix F__law_literal F__law_ran F__law_even;have F__law_right:=Xx (P:=l.prog) (w:=w) (base:=base) T D__law_right F__law_ends F_begin F__law_looked;have F_law:=zhU (P:=l.prog) (w:=w) (base:=base) T D_law F__law_pieces F__law_cell F__law_mix F_begin F__law_closed F__law_right;exact F_law
theorem walk {l:PySem.W.OpenLaw}{q:Program}{loose:Lh}{XP:(La)->Heap->Prop}{YP:World->Heap->Prop}{d:DefRec}{K:Params->Le}(hn:l.most=some 63)(hdf:d.params.defaults=[])
  (hY:∀ (w:World) (h:Heap),YP w h->(K w.params).In h)
  (F:∀ (w:World) (mg:La) (fa:Addr) (h:Heap),(K w.params).In h->h.Ns mainGlobals mg->mg d.name=some (.ref fa) ->
   ∃ fd:FuncData,(∀ (s:Shared) (u:Value),BindsTo s fd ⟨[u],[]⟩ [("_law_script",u)])/\∀ base:Heap,(K w.params).In base->base.Ns mainGlobals mg->FnOk l.prog w (K w.params) mg base CX0 91 fa fd ["_law_script"] (JR (K w.params))) :
  PySem.W.WalkO q loose XP YP l.row.toRowW d [] (λf vs=>PySem.call f vs):=
 L2.zdV (n:=63) (k:=91) (x:="_law_script") (CX:=λ_=>CX0) (sp:=λw=>JR (K w.params)) hn (by decide) hdf ⟨rfl,by decide,by decide,rfl⟩ hY F (λ_ _ a ns hl _ hS=>⟨a,ns,rfl,hS,hl,λ_=>rfl⟩) λ_ _ _ _ _ z=>z
end My
open PySem PySem.W PyProof.Rows
set_option maxRecDepth 100000 in
set_option maxHeartbeats 0 in
theorem PySem.Challenge.cw_sealpress_k76_whole_just_where_all_ways_holds : PySem.Challenge.rw_sealpress_k76_whole_just_where_all_ways.Holds := by
  w_on; o_law;refine PySem.W.holds_open (q := My.qvw) (loose := My.loose0) (Xt := My.Xt0) (XP := XL My.qvw []) (Yf := Hook.obs My.HK) (Ya := Hook.val My.HK) (YP := Hook.says My.HK) (N := 8410) My.left (Hook.of My.HK) (Hook.keeps My.HK) (λs e => xl_of s (Bool.and_eq_true_iff.mp e).1) XL.keeps (by rfl) (by rfl) (by rfl) (λs e => recFacts_of (Bool.and_eq_true_iff.mp e).2) (by rfl) (by first | assumption | decide +kernel) (by decide +kernel) ⟨rfl, rfl, rfl, rfl, rfl, by decide +kernel⟩ ?hw ?hc
  (case hw => w_witness2);exact My.walk (l := PySem.Challenge.rw_sealpress_k76_whole_just_where_all_ways) rfl rfl (λw h Y => PySem.W.kIn_of Y) (λw mg fa h KX G hmg => My.all_ok KX G hmg)
